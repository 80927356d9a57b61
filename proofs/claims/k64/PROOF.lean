import PyProof.Rows.All
import Wide.All
import OpenK.AllK
import Wide.FinOn
import Lean
import PyProof.EqAt
import PyProof.EqKinds
import PyProof.TupleCall
import PyProof.StrLawsChain
import PyProof.StrLawsOccR
import PyProof.StrLawsReplace
import PyProof.NeKinds
import PyProof.EnumStmt
import PyProof.EnumMake
import PyProof.ListRange
import PyProof.StationsW
import PyProof.ExcClass2
import PyProof.ExcInit
import PyProof.InstStoreFacts
import OpenK.KRaise
import PyProof.NsDelKeeps
import PyProof.RulesAs
import PyProof.Rows.Catch
import OpenK.KOwn
import PyProof.ExcArgsOwn
import PyProof.ExcAttrAll.ValueError
import PyProof.IsiBase
import PyProof.MaxThree
import PyProof.SeqI3
import KE.KIsAll
import KE.IntTextLaws
import PyProof.StrLawsIdx
import PyProof.FitsInt
import PySem.Challenge.RW_holdlane_k64_the_paper_of_a_share
set_option Elab.async false
set_option linter.all false
set_option maxRecDepth 100000
namespace L2
open PySem PySem.Spec PyProof.Rows
abbrev Key:=Sum Int Str
def keyIs:Key→Value→Bool
 | .inl k,v=>Value.isInt k v
 | .inr x,v=>Value.isStrOf x v
def keyH (w:World):Key→Int
 | .inl k=>hashInt k
 | .inr x=>hashStr w x
theorem dO:∀{k:Key} {v:Value},keyIs k v=true→(∃i t,k=Sum.inl i∧v=Value.int i t)∨(∃x t,k=Sum.inr x∧v=Value.str x t)
 | .inl i,v,h=>by
  obtain⟨t,e⟩:=Value.isInt_shape (k:=i) (v:=v) h
  exact .inl ⟨i,t,rfl,e⟩
 | .inr x,v,h=>by
  obtain⟨t,e⟩:=Value.isStrOf_shape (x:=x) (v:=v) h
  exact .inr ⟨x,t,rfl,e⟩
theorem keyIs_int (i:Int) (t:Tok):keyIs (.inl i) (.int i t)=true:=by simp [keyIs,Value.isInt]
theorem keyIs_str (x:Str) (t:Tok):keyIs (.inr x) (.str x t)=true:=by simp [keyIs,Value.isStrOf]
theorem key_ll (a b:Int):decide ((Sum.inl a:Key)=Sum.inl b)=(a == b):=by
 by_cases e:a=b
 ·subst e;simp
 ·have h:¬(Sum.inl a:Key)=Sum.inl b:=fun q=>e (Sum.inl.inj q)
  rw [decide_eq_false h]
  exact(beq_eq_false_iff_ne.mpr e).symm
theorem key_rr (a b:Str):decide ((Sum.inr a:Key)=Sum.inr b)=decide (a=b):=by
 by_cases e:a=b
 ·subst e;simp
 ·have h:¬(Sum.inr a:Key)=Sum.inr b:=fun q=>e (Sum.inr.inj q)
  rw [decide_eq_false h,decide_eq_false e]
theorem key_lr (a:Int) (b:Str):decide ((Sum.inl a:Key)=Sum.inr b)=false:=decide_eq_false (fun q=>nomatch q)
theorem key_rl (a:Str) (b:Int):decide ((Sum.inr a:Key)=Sum.inl b)=false:=decide_eq_false (fun q=>nomatch q)
def cz (prog:Program) (w:World):PySem.KeyKind prog w Key where
 is:=keyIs
 hash:=keyH w
 inj:=fun v a b ha hb=>by
  rcases dO ha with ⟨i,t,rfl,rfl⟩ | ⟨x,t,rfl,rfl⟩
  ·rcases dO hb with ⟨j,u,rfl,e⟩ | ⟨y,u,rfl,e⟩
   ·injection e with e1 _;rw [e1]
   ·exact nomatch e
  ·rcases dO hb with ⟨j,u,rfl,e⟩ | ⟨y,u,rfl,e⟩
   ·exact nomatch e
   ·injection e with e1 _;rw [e1]
 byValue:=fun k v h=>by
  rcases dO h with ⟨i,t,rfl,rfl⟩ | ⟨x,t,rfl,rfl⟩ <;> rfl
 pyHash:=fun hv h=>by
  rcases dO hv with ⟨i,t,rfl,rfl⟩ | ⟨x,t,rfl,rfl⟩
  ·exact wpAny_pyHash_int h
  ·exact wpAny_pyHash_str h
 eqBool:=fun hu hv h=>by
  rcases dO hu with ⟨i,t,rfl,rfl⟩ | ⟨x,t,rfl,rfl⟩
  ·rcases dO hv with ⟨j,u,rfl,rfl⟩ | ⟨y,u,rfl,rfl⟩
   ·rw [key_ll] at h;exact wpAny_eqBool_int h
   ·rw [key_lr] at h;exact SeqAt.EqAt.int_str i t y u _ _ _ _ h
  ·rcases dO hv with ⟨j,u,rfl,rfl⟩ | ⟨y,u,rfl,rfl⟩
   ·rw [key_rl] at h;exact SeqAt.EqAt.str_int x t j u _ _ _ _ h
   ·rw [key_rr] at h;exact wpAny_eqBool_str h
 «strs» :=fun k x t v h=>by
  rcases dO h with ⟨i,u,rfl,e⟩ | ⟨y,u,rfl,e⟩
  ·exact nomatch e
  ·injection e with e1 _
   subst e1
   cases v <;> rfl
theorem mixKind_int (prog:Program) (w:World) (i:Int) (t:Tok):(cz prog w).is (.inl i) (.int i t)=true:=keyIs_int i t
theorem nH (prog:Program) (w:World) (x:Str) (t:Tok):(cz prog w).is (.inr x) (.str x t)=true:=keyIs_str x t
end L2
namespace L2
open PySem PySem.Spec PyProof.Rows
inductive V where
 | non | bl (b:Bool) | int (i:Int) | str (x:Str) | byt (b:Array UInt8) | flt (b:UInt64) | ref (a:Addr) | ty (n:String)
 deriving DecidableEq
def RelV:V→Value→Prop
 | .non,u=>u=Value.none
 | .bl b,u=>u=Value.bool b
 | .int i,u=>∃t,u=Value.int i t
 | .str x,u=>∃t,u=Value.str x t
 | .byt b,u=>∃t,u=Value.bytes b t
 | .flt b,u=>∃t,u=Value.float b t
 | .ref a,u=>u=Value.ref a
 | .ty n,u=>u=Value.type n
abbrev Vals:List V→List Value→Prop:=Paired RelV
theorem Vals.length {xs:List V} {us:List Value} (r:Vals xs us):xs.length=us.length:=Paired.length r
theorem Vals.get:∀{xs:List V} {us:List Value} {i:Nat} {x:V},Vals xs us→xs[i]?=some x→∃u,us[i]?=some u∧RelV x u
 | _,_,_,_,.nil,e=>by simp at e
 | _,_,0,_,.cons r _,e=>by simp at e;subst e;exact⟨_,rfl,r⟩
 | _,_,i+1,x,.cons _ t,e=>by
  obtain⟨u,h1,h2⟩:=Vals.get (i:=i) (x:=x) t (by simpa using e)
  exact⟨u,by simpa using h1,h2⟩
theorem Vals.set {x:V} {u:Value} (r:RelV x u):∀{xs:List V} {us:List Value} (i:Nat),Vals xs us→Vals (xs.set i x) (us.set i u)
 | _,_,_,.nil=>.nil
 | _,_,0,.cons _ t=>.cons r t
 | _,_,i+1,.cons q t=>.cons q (Vals.set r i t)
theorem Vals.append:∀{xs ys:List V} {us ws:List Value},Vals xs us→Vals ys ws→Vals (xs ++ ys) (us ++ ws)
 | _,_,_,_,.nil,s=>s
 | _,_,_,_,.cons r t,s=>.cons r (Vals.append t s)
theorem Vals.take:∀{xs:List V} {us:List Value} (n:Nat),Vals xs us→Vals (xs.take n) (us.take n)
 | _,_,0,_=>.nil
 | _,_,_+1,.nil=>.nil
 | _,_,n+1,.cons r t=>.cons r (Vals.take n t)
theorem Vals.drop:∀{xs:List V} {us:List Value} (n:Nat),Vals xs us→Vals (xs.drop n) (us.drop n)
 | _,_,0,r=>r
 | _,_,_+1,.nil=>.nil
 | _,_,n+1,.cons _ t=>Vals.drop n t
def uJ:Option V→Option Value→Prop
 | some v,some u=>RelV v u
 | none,none=>True
 | _,_=>False
def KV {κ:Type}:List (κ×V)→List (κ×Value)→Prop:=Paired fun(p:κ×V) (q:κ×Value)=>p.1=q.1∧RelV p.2 q.2
def kV:Key→V
 | .inl i=>.int i
 | .inr x=>.str x
inductive HO where
  | lst (xs:List V)
  | tup (xs:List V)
  | dK (kvs:List (Key×V)) | dT (kvs:List (List Key×V))
  | set (S:Int→Bool) (n:Nat)
  | ins (C dx:Addr) (fs:List (Str×V))
  | own (x:Addr)
  | xd (fs:List (Str×V))
  | met (f x:Addr)
  | rng (lo hi:Int)
  | frz (o:Obj) (u:HO)
  | tbl (ps:Array Value)
  | ext (φ:Heap→Prop)
abbrev Hp:=Addr→Option HO
def upd (H:Hp) (a:Addr) (o:HO):Hp:=fun b=>if b=a then some o else H b
theorem aA {H:Hp} {a:Addr} {o:HO}:upd H a o a=some o:=by unfold upd;rw [if_pos rfl]
theorem aM {H:Hp} {a b:Addr} {o:HO} (h:b≠a):upd H a o b=H b:=by unfold upd;rw [if_neg h]
theorem qj {H:Hp} {a:Addr} {o u:HO}:upd (upd H a o) a u=upd H a u:=by
 funext b;unfold upd;split <;> rfl
theorem gC {H:Hp} {a b:Addr} {o u:HO} (h:H a=some o) (h':H b=some u) (d:o≠u):a≠b:=by
 intro e;subst e;rw [h] at h';exact d (Option.some.inj h')
theorem aD {H:Hp} {a b:Addr} {o:HO} (h:H a=some o) (h':H b=none):a≠b:=by
 intro e;subst e;rw [h] at h';cases h'
section
variable (P:Program) (w:World)
def fM (H:Hp) (h:Heap) (a:Addr):HO→Prop
 | .lst xs=>xs.length≤sizeLine∧∃(its:List Value) (n:Nat),Vals xs its∧h.get? a=some { cls:=.type "list",data:=.seq its.toArray n }
 | .tup xs=>xs.length≤sizeLine∧∃its:List Value,Vals xs its∧IsTup h a its.toArray
 | .dK kvs=>kvs.length≤sizeLine∧(a == sysModules)=false∧∃vs,KV kvs vs∧h.DictOf (cz P w) a vs
 | .dT kvs=>kvs.length≤sizeLine∧(a == sysModules)=false∧∃xs:List (List Key×Addr×Value),
   Paired (fun(p:List Key×V) (q:List Key×Addr×Value)=>p.1=q.1∧H q.2.1=some (.tup (p.1.map kV))∧RelV p.2 q.2.2) kvs xs∧
   ∃o es ep,h.get? a=some o∧o.ExactDict∧o.data=.dict es ep∧es.toList=xs.map (entryOfKey (tupleKind (cz P w)))∧(xs.map (·.1)).Nodup
 | .set S n=>h.SetOf (intKind P w) a S n
 | .ins C dx fs=>H dx=some (.own a)∧fs.length≤1000∧dx≠a∧h.get? a=some (PySem.W.instObj C dx)∧
   ∃mA,h.Ns1 dx mA∧(∀f,uJ (fs.lookup f) (mA f))∧PySem.Within mA (fs.map (·.1))
 | .own _=>∃o,h.get? a=some o
 | .xd fs=>∃mA,h.Ns1 a mA∧∀f,uJ (fs.lookup f) (mA f)
 | .rng lo hi=>∃t u v,h.get? a=some { cls:=.type "range",data:=.fields #[.int lo t,.int hi u,.int 1 v] }
 | .frz o u=>h.get? a=some o∧fM H h a u
 | .tbl ps=>h.get? a=some { cls:=.none,data:=.fields ps }
 | .met f x=>h.get? a=some (PySem.W.methodObj (.ref f) (.ref x))
 | .ext φ=>φ h∧(∃o,h.get? a=some o)∧∀h1 h2:Heap,φ h1→(∀o,h1.get? a=some o→h2.get? a=some o)→φ h2
def HOk (H:Hp) (h:Heap):Prop:=∀a o,H a=some o→fM P w H h a o
end
section
variable {P:Program} {w:World} {H H':Hp} {h h':Heap} {a:Addr} {o:HO}
theorem fM.lt (x:fM P w H h a o):a <h.objs.size:=by
 cases o with
 | lst xs=>obtain⟨_,_,_,_,e⟩:=x;exact Heap.lt_size e
 | tup xs=>obtain⟨_,_,_,p⟩:=x;exact p.lt
 | dK kvs=>obtain⟨_,_,_,_,o,_,_,e,_⟩:=x;exact Heap.lt_size e
 | dT kvs=>obtain⟨_,_,_,_,o,_,_,e,_⟩:=x;exact Heap.lt_size e
 | set S n=>obtain⟨o,_,_,_,e,_⟩:=x;exact Heap.lt_size e
 | ins C dx fs=>obtain⟨_,_,_,e,_⟩:=x;exact Heap.lt_size e
 | own y=>obtain⟨_,e⟩:=x;exact Heap.lt_size e
 | xd fs=>obtain⟨_,⟨_,_,_,e,_⟩,_⟩:=x;exact Heap.lt_size e
 | rng lo hi=>obtain⟨_,_,_,e⟩:=x;exact Heap.lt_size e
 | frz ob u=>obtain⟨e,_⟩:=x;exact Heap.lt_size e
 | tbl ps=>exact Heap.lt_size (show h.get? a=some _ from x)
 | met f y=>exact Heap.lt_size (show h.get? a=some _ from x)
 | ext φ=>obtain⟨_,⟨_,e⟩,_⟩:=x;exact Heap.lt_size e
theorem Paired.mapP {α β:Type} {F G:α→β→Prop}:∀{l₁:List α} {l₂:List β},Paired F l₁ l₂→(∀a b,F a b→G a b)→Paired G l₁ l₂
 | _,_,.nil,_=>.nil
 | _,_,.cons r t,f=>.cons (f _ _ r) (Paired.mapP t f)
theorem fM.stay (x:fM P w H h a o) (k:∀b u,(b=a∨H b=some (.own a))→h.get? b=some u→h'.get? b=some u)
  (ho:∀b,H b=some (.own a)→H' b=some (.own a)) (ht:∀b xs,H b=some (.tup xs)→H' b=some (.tup xs)):fM P w H' h' a o:=by
 induction o with
 | lst xs=>obtain⟨z,its,n,r,e⟩:=x;exact⟨z,its,n,r,k _ _ (.inl rfl) e⟩
 | tup xs=>obtain⟨z,its,r,ob,e,c⟩:=x;exact⟨z,its,r,ob,k _ _ (.inl rfl) e,c⟩
 | dK kvs=>obtain⟨z,y,vs,r,ob,es,ep,e,c⟩:=x;exact⟨z,y,vs,r,ob,es,ep,k _ _ (.inl rfl) e,c⟩
 | dT kvs=>
  obtain⟨z,y,xs,r,ob,es,ep,e,c⟩:=x
  exact⟨z,y,xs,Paired.mapP r fun p q z=>⟨z.1,ht _ _ z.2.1,z.2.2⟩,ob,es,ep,k _ _ (.inl rfl) e,c⟩
 | set S n=>obtain⟨ob,es,ep,t,e,c⟩:=x;exact⟨ob,es,ep,t,k _ _ (.inl rfl) e,c⟩
 | ins C dx fs=>
  obtain⟨d,z,ne,e,mA,⟨od,es,ep,e2,c⟩,r⟩:=x
  exact⟨ho _ d,z,ne,k _ _ (.inl rfl) e,mA,⟨od,es,ep,k _ _ (.inr d) e2,c⟩,r⟩
 | own y=>obtain⟨ob,e⟩:=x;exact⟨ob,k _ _ (.inl rfl) e⟩
 | xd fs=>obtain⟨mA,⟨od,es,ep,e,c⟩,r⟩:=x;exact⟨mA,⟨od,es,ep,k _ _ (.inl rfl) e,c⟩,r⟩
 | rng lo hi=>obtain⟨t,u,v,e⟩:=x;exact⟨t,u,v,k _ _ (.inl rfl) e⟩
 | frz ob u ih=>obtain⟨e,q⟩:=x;exact⟨k _ _ (.inl rfl) e,ih q⟩
 | tbl ps=>
  have e:h.get? a=some { cls:=.none,data:=.fields ps }:=x
  show h'.get? a=some { cls:=.none,data:=.fields ps }
  exact k a _ (.inl rfl) e
 | met f y=>
  have e:h.get? a=some (PySem.W.methodObj (.ref f) (.ref y)):=x
  show h'.get? a=some (PySem.W.methodObj (.ref f) (.ref y))
  exact k a _ (.inl rfl) e
 | ext φ=>obtain⟨p,⟨o,e⟩,st⟩:=x;exact⟨st _ _ p fun o q=>k _ _ (.inl rfl) q,⟨o,k _ _ (.inl rfl) e⟩,st⟩
theorem HOk.lt (x:HOk P w H h) (e:H a=some o):a <h.objs.size:=(x a o e).lt
theorem HOk.fresh (x:HOk P w H h) (e:h.objs.size≤a):H a=none:=by
 cases q:H a with
 | none=>rfl
 | some u=>exact absurd (Nat.lt_of_lt_of_le (x.lt q) e) (Nat.lt_irrefl _)
theorem HOk.kept (x:HOk P w H h) (k:∀b u,h.get? b=some u→h'.get? b=some u):HOk P w H h':=fun a o e=>
 (x a o e).stay (fun b u _ q=>k b u q) (fun _ q=>q) fun _ _ q=>q
theorem HOk.laid (x:HOk P w H h) (k:∀b u,h.get? b=some u→h'.get? b=some u) (hp:h.objs.size≤a) (new:fM P w (upd H a o) h' a o):HOk P w (upd H a o) h':=fun b u e=>by
 have hn:=x.fresh hp
 by_cases hb:b=a
 ·subst hb;rw [aA] at e;cases e;exact new
 ·rw [aM hb] at e
  exact(x b u e).stay (fun c v _ q=>k c v q) (fun c q=>by rw [aM (aD q hn)];exact q) fun c xs q=>by rw [aM (aD q hn)];exact q
end
def Rd (H:Hp) (a:Addr) (u:HO):Prop:=H a=some u∨∃o,H a=some (.frz o u)
theorem Rd.ok {P:Program} {w:World} {H:Hp} {h:Heap} {a:Addr} {u:HO} (r:Rd H a u) (x:HOk P w H h):fM P w H h a u:=by
 rcases r with r | ⟨o,r⟩
 ·exact x a u r
 ·obtain⟨_,q⟩:=x a _ r
  exact q
def Mut:Option HO→Prop
 | some (.lst _)=>True
 | some (.dK _)=>True
 | some (.dT _)=>True
 | some (.set _ _)=>True
 | some (.ins _ _ _)=>True
 | some (.ext _)=>True
 | _=>False
section
variable {P:Program} {w:World} {H:Hp} {h h':Heap} {x e:Addr} {o':HO}
theorem HOk.write (ok:HOk P w H h) (mu:Mut (H x)) (he:e=x∨H e=some (.own x)) (k:∀b u,b≠e→h.get? b=some u→h'.get? b=some u) (heo:∃u,h'.get? e=some u)
  (new:fM P w (upd H x o') h' x o'):HOk P w (upd H x o') h':=fun b u q=>by
 have nown:∀c y,H c=some (.own y)→c≠x:=fun c y r z=>by subst z;rw [r] at mu;exact mu
 have ntup:∀c xs,H c=some (.tup xs)→c≠x:=fun c xs r z=>by subst z;rw [r] at mu;exact mu
 by_cases hb:b=x
 ·subst hb;rw [aA] at q;cases q;exact new
 ·rw [aM hb] at q
  by_cases hbe:b=e
  ·have q':H b=some (.own x):=by
    rcases he with z | z
    ·exact absurd (hbe.trans z) hb
    ·rw [hbe];exact z
   rw [q] at q';cases q'
   obtain⟨v,hv⟩:=heo
   exact⟨v,by rw [hbe];exact hv⟩
  ·refine(ok b u q).stay (fun c v hc r=>k c v ?_ r) (fun c r=>by rw [aM (nown c b r)];exact r) fun c xs r=>by rw [aM (ntup c xs r)];exact r
   rcases hc with rfl | hc
   ·exact hbe
   ·rintro rfl
    rcases he with z | z
    ·exact nown c b hc z
    ·rw [hc] at z;cases z;exact hb rfl
end
structure Un (fs ex:List Addr) (H H':Hp) (h h':Heap):Prop where
 keep:∀b o,h.get? b=some o→H b=none→b∉fs→b∉ex→h'.get? b=some o
 slot:∀b o,h.get? b=some o→H b=none→b∈fs→b∉ex→∃sl,h'.get? b=some { o with slots:=sl }
 free:∀b o,h.get? b=some o→H b=none→b∉ex→H' b=none
 there:∀b o,h.get? b=some o→b∉ex→∃o',h'.get? b=some o'
 tups:∀b xs,H b=some (.tup xs)→H' b=some (.tup xs)
 frzs:∀b o u,H b=some (.frz o u)→H' b=some (.frz o u)
 tbls:∀b ps,H b=some (.tbl ps)→∃more,H' b=some (.tbl (ps ++ more))
section
variable {fs fs' ex ex':List Addr} {H H1 H2:Hp} {h h1 h2 h':Heap} {a x e:Addr} {o:HO}
theorem Un.any (u:Un fs ex H H1 h h1) {b:Addr} {ob:Obj} (q:h.get? b=some ob) (n:H b=none) (hx:b∉ex):∃sl,h1.get? b=some { ob with slots:=sl }:=by
 by_cases hb:b∈fs
 ·exact u.slot b ob q n hb hx
 ·exact⟨ob.slots,u.keep b ob q n hb hx⟩
theorem Un.kept (k:∀b u,h.get? b=some u→h'.get? b=some u):Un fs ex H H h h':=
 ⟨fun b ob q _ _ _=>k b ob q,fun b ob q _ _ _=>⟨ob.slots,k b ob q⟩,fun _ _ _ n _=>n,fun b ob q _=>⟨ob,k b ob q⟩,fun _ _ q=>q,fun _ _ _ q=>q,fun _ ps q=>⟨#[],by rw [q];simp⟩⟩
theorem Un.refl:Un fs ex H H h h:=Un.kept fun _ _ q=>q
theorem Un.laid (k:∀b u,h.get? b=some u→h'.get? b=some u) (hp:h.objs.size≤a) (hn:H a=none):Un fs ex H (upd H a o) h h' where
 keep:=fun b u q _ _ _=>k b u q
 slot:=fun b u q _ _ _=>⟨u.slots,k b u q⟩
 free:=fun b u q n _=>by rw [aM (Nat.ne_of_lt (Nat.lt_of_lt_of_le (Heap.lt_size q) hp))];exact n
 there:=fun b u q _=>⟨u,k b u q⟩
 tups:=fun b xs q=>by rw [aM (aD q hn)];exact q
 frzs:=fun b u xs q=>by rw [aM (aD q hn)];exact q
 tbls:=fun b ps q=>⟨#[],by rw [aM (aD q hn),q];simp⟩
theorem Un.write (mu:Mut (H x)) (he:e=x∨H e=some (.own x)) (k:∀b u,b≠e→h.get? b=some u→h'.get? b=some u) (heo:∃u,h'.get? e=some u):Un fs ex H (upd H x o) h h':=by
 have hx:∀b,H b=none→b≠x:=fun b n z=>by subst z;rw [n] at mu;exact mu
 have hb:∀b,H b=none→b≠e:=fun b n z=>by
  subst z
  rcases he with r | r
  ·exact hx b n r
  ·rw [n] at r;cases r
 have hm:∀b u,H b=some u→¬Mut (some u)→b≠x:=fun b u q nm z=>by subst z;rw [q] at mu;exact nm mu
 refine⟨fun b u q n _ _=>k b u (hb b n) q,fun b u q n _ _=>⟨u.slots,k b u (hb b n) q⟩,fun b u q n _=>by rw [aM (hx b n)];exact n,fun b u q _=>?_,
  fun b xs q=>by rw [aM (hm b _ q fun z=>z)];exact q,fun b u xs q=>by rw [aM (hm b _ q fun z=>z)];exact q,fun b ps q=>⟨#[],by rw [aM (hm b _ q fun z=>z),q];simp⟩⟩
 by_cases hbe:b=e
 ·subst hbe;exact heo
 ·exact⟨u,k b u hbe q⟩
end
def trk (h:Heap) (H:Hp):List Addr:=(List.range h.objs.size).filter fun a=>(H a).isSome
def hidT (h:Heap) (H:Hp):Heap:=PySem.W.hideAll h (trk h H)
theorem hidT_size (h:Heap) (H:Hp):(hidT h H).objs.size=h.objs.size:=PySem.W.hideAll_size _ _
theorem hidT_get {h:Heap} {H:Hp} {b:Addr} {o:Obj} (e:h.get? b=some o) (n:H b=none):(hidT h H).get? b=some o:=
 PySem.W.hideAll_get _ e fun hm=>by
  have q:(H b).isSome=true:=(List.mem_filter.mp hm).2
  rw [n] at q;simp at q
theorem of_hidT {h:Heap} {H:Hp} {b:Addr} {o:Obj} (e:(hidT h H).get? b=some o):h.get? b=some o∧H b=none:=by
 have e':h.get? b=some o:=PySem.W.of_hideAll (trk h H) e
 refine⟨e',?_⟩
 cases q:H b with
 | none=>rfl
 | some x=>
  have hm:b∈trk h H:=List.mem_filter.mpr ⟨List.mem_range.mpr (Heap.lt_size e'),by simp [q]⟩
  have z:(hidT h H).get? b=none:=PySem.W.hideAll_none (trk h H) hm
  rw [z] at e;cases e
end L2
namespace L2
open PySem PySem.Spec PyProof.Rows
structure Mod (K:PySem.W.Frag) (mg:Str→Option Value) (base:Heap):Prop where
 kin:K.In base
 glob:base.Ns mainGlobals mg
 blt:∃mb,base.Ns builtinsNs mb∧∀x:Str,x≠ "__name__" →mb x=bootBuiltins x
 nolimit:base.NoLimit
structure Cx where
 prog:Program
 w:World
 K:PySem.W.Frag
 mg:Str→Option Value
 base:Heap
 A:Around
 N:List Str
 s₀:Shared
 H₀:Hp
 env:Env
 outer:List Env
 stack:List Env
 ex:List Addr
 fn:Str→Bool
 calm:Bool
 pn:List (Addr×Obj)
 xe:Value→Shared→Prop
def frs (l:List Env):List Addr:=l.filterMap (·.frame)
abbrev Cx.fs (X:Cx):List Addr:=frs X.outer
def Vis (sc:Scope) (x:Str):Prop:=sc.names.lookup x=some .local∨sc.names.lookup x=some .cell∨sc.names.lookup x=some .free
def Loc (sc:Scope) (x:Str):Prop:=sc.names.lookup x=some .local∨sc.names.lookup x=some .cell
def Look (env:Env) (h:Heap) (m:Str→Option Value) (x:Str) (u:Value):Prop:=
 (env.kindOf x=some .local∧m x=some u)∨((env.kindOf x=some .cell∨env.kindOf x=some .free)∧∃c,env.cells.lookup x=some c∧h.IsCell c (some u))
structure Cx.Ok (X:Cx):Prop where
 mod:Mod X.K X.mg X.base
 kind:X.env.scope.kind=.function
 glob:X.env.globals=mainGlobals
 blt:X.env.builtins=builtinsNs
 above:X.s₀.heap.objs.size≤X.env.locals
 inj:∀x y c,X.env.cells.lookup x=some c→X.env.cells.lookup y=some c→x=y
 has:∀x,(X.env.kindOf x=some .cell∨X.env.kindOf x=some .free)→∃c,X.env.cells.lookup x=some c
 cab:∀x c,X.fn x=true→X.env.cells.lookup x=some c→X.s₀.heap.objs.size≤c
 hd:X.calm=true→X.A.handled=none
 frames:X.A.frames=some X.stack
 stk:X.stack=X.outer∨(X.stack=X.env:: X.outer∧X.env.frame=some X.env.locals)
 exf:∀b∈X.ex,b≠X.env.locals∧∀x c,X.env.cells.lookup x=some c→c≠b
 bs:∀b o,X.base.get? b=some o→X.s₀.heap.get? b=some o∧X.H₀ b=none
 bsz:X.base.objs.size≤X.s₀.heap.objs.size
 noex:∀b o,X.base.get? b=some o→b∉X.ex
 exfs:∀b∈X.ex,b∉X.fs
 funs:X.s₀.heap.FunFrames X.base X.outer
 frf:∀b∈X.fs,X.H₀ b=none
structure Inv (X:Cx) (pins:List (Addr×Obj)) (σ:List (Option V)) (H:Hp) (s:Shared):Prop where
 ok:X.Ok
 os:s.os=X.s₀.os
 bare:AllBare s.gens
 base:Un X.fs X.ex X.H₀ H X.s₀.heap s.heap
 loc:∃m,s.heap.Ns X.env.locals m∧∀(i:Nat) (x:Str) (v:V),X.N[i]?=some x→σ[i]?=some (some v)→Vis X.env.scope x→∃u,RelV v u∧Look X.env s.heap m x u
 cell:∀x c,X.env.cells.lookup x=some c→∃v,s.heap.IsCell c v
 free:H X.env.locals=none
 freeC:∀x c,X.env.cells.lookup x=some c→H c=none
 pin:∀p∈X.pn ++ pins,s.heap.get? p.1=some p.2∧H p.1=none∧p.1≠X.env.locals∧p.1∉X.fs∧∀v,p.2.data≠.cell v
 hok:HOk X.prog X.w H s.heap
 len:σ.length=X.N.length
section
variable {X:Cx} {pins:List (Addr×Obj)} {σ:List (Option V)} {H H':Hp} {s:Shared} {h':Heap}
theorem Cx.Ok.nofr (ok:X.Ok) {b:Addr} {o:Obj} (e:X.base.get? b=some o):b∉X.fs:=fun hb=>by
 have:=(ok.funs.mem hb).1
 rw [e] at this;cases this
theorem Inv.bs (I:Inv X pins σ H s):∀b o,X.base.get? b=some o→s.heap.get? b=some o∧H b=none:=fun b o e=>
 ⟨I.base.keep b o (I.ok.bs b o e).1 (I.ok.bs b o e).2 (I.ok.nofr e) (I.ok.noex b o e),I.base.free b o (I.ok.bs b o e).1 (I.ok.bs b o e).2 (I.ok.noex b o e)⟩
theorem Inv.bk (I:Inv X pins σ H s):∀b o,X.base.get? b=some o→s.heap.get? b=some o:=fun b o e=>(I.bs b o e).1
theorem Inv.mod (I:Inv X pins σ H s):Mod X.K X.mg X.base:=I.ok.mod
theorem Inv.kIn (I:Inv X pins σ H s):X.K.In s.heap:=I.ok.mod.kin.keeps I.bk
theorem Inv.lt (I:Inv X pins σ H s):X.env.locals <s.heap.objs.size:=let ⟨_,hn,_⟩:=I.loc;hn.lt
theorem Inv.sz (I:Inv X pins σ H s):X.s₀.heap.objs.size≤s.heap.objs.size:=Nat.le_trans I.ok.above (Nat.le_of_lt I.lt)
theorem Inv.nofs (I:Inv X pins σ H s) {a:Addr} (h:s.heap.objs.size≤a):a∉X.fs:=fun hb=>by
 obtain⟨_,o,ho,_⟩:=I.ok.funs.mem hb
 exact absurd (Nat.lt_of_lt_of_le (Heap.lt_size ho) (Nat.le_trans I.sz h)) (Nat.lt_irrefl _)
theorem Inv.cne (I:Inv X pins σ H s):∀x c,X.env.cells.lookup x=some c→c≠X.env.locals:=fun x c e z=>by
 obtain⟨v,o,ho,hd⟩:=I.cell x c e
 obtain⟨m,⟨o',es,ep,ho',hd',_⟩,_⟩:=I.loc
 rw [z,ho'] at ho;cases ho;rw [hd'] at hd;cases hd
theorem Inv.funs (I:Inv X pins σ H s):s.heap.FunFrames X.base X.outer:=by
 have all:∀(l:List Env),(∀b∈frs l,b∈X.fs)→X.s₀.heap.FunFrames X.base l→s.heap.FunFrames X.base l:=by
  intro l
  induction l with
  | nil=>intro _ _;trivial
  | cons env r ih=>
   intro hs hl
   obtain⟨hk,⟨L,o,hf,hn,ho,hd⟩,hr⟩:=hl
   have hL:L∈X.fs:=hs L (by unfold frs;rw [List.filterMap_cons,hf];exact List.mem_cons_self)
   obtain⟨sl,e⟩:=I.base.slot L o ho (I.ok.frf L hL) hL fun z=>I.ok.exfs L z hL
   exact⟨hk,⟨L,_,hf,hn,e,hd⟩,ih (fun b hb=>hs b (by unfold frs;rw [List.filterMap_cons,hf];exact List.mem_cons_of_mem _ hb)) hr⟩
 exact all X.outer (fun _ hb=>hb) I.ok.funs
theorem Inv.stack (I:Inv X pins σ H s):s.heap.FunFrames X.base X.stack:=by
 rcases I.ok.stk with e | ⟨e,hf⟩
 ·rw [e];exact I.funs
 ·rw [e]
  obtain⟨m,hn,_⟩:=I.loc
  refine .cons (by rw [I.ok.kind];decide) hf hn ?_ I.funs
  exact Heap.get?_none_of_le (Nat.le_trans I.ok.bsz I.ok.above)
theorem Inv.stkSub (I:Inv X pins σ H s):∀b∈frs X.stack,b∈X.env.locals:: X.fs:=fun b hb=>by
 rcases I.ok.stk with e | ⟨e,hf⟩
 ·rw [e] at hb;exact List.mem_cons_of_mem _ hb
 ·rw [e] at hb
  unfold frs at hb
  rw [List.filterMap_cons,hf] at hb
  exact hb
theorem Inv.stkFree (I:Inv X pins σ H s):∀b∈frs X.stack,H b=none:=fun b hb=>by
 rcases List.mem_cons.mp (I.stkSub b hb) with e | hb
 ·rw [e];exact I.free
 ·obtain⟨_,o,ho,_⟩:=I.ok.funs.mem hb
  exact I.base.free b o ho (I.ok.frf b hb) fun z=>I.ok.exfs b z hb
theorem Inv.step {g':Array GenState} {t':Nat} {d':Drawn} {ch:List Addr} (I:Inv X pins σ H s)
  (hch:∀b∈ch,(b∈X.ex∨X.s₀.heap.objs.size≤b)∧b≠X.env.locals∧(∀x c,X.env.cells.lookup x=some c→c≠b)∧∀p∈X.pn ++ pins,p.1≠b)
  (keep:∀b o,b≠X.env.locals→b∉X.fs→b∉ch→s.heap.get? b=some o→H b=none→h'.get? b=some o)
  (slot:∀b o,b≠X.env.locals→b∈X.fs→b∉ch→s.heap.get? b=some o→H b=none→∃sl,h'.get? b=some { o with slots:=sl }) (free:∀b o,b∉ch→s.heap.get? b=some o→H b=none→H' b=none)
  (there:∀b o,b∉ch→s.heap.get? b=some o→∃o',h'.get? b=some o')
  (tups:∀b xs,H b=some (.tup xs)→H' b=some (.tup xs)) (frzs:∀b o u,H b=some (.frz o u)→H' b=some (.frz o u)) (tbls:∀b ps,H b=some (.tbl ps)→∃more,H' b=some (.tbl (ps ++ more)))
  (ns:∀m,s.heap.Ns X.env.locals m→h'.Ns X.env.locals m) (hok:HOk X.prog X.w H' h') (hg:AllBare g'):
  Inv X pins σ H' { s with heap:=h',gens:=g',drawn:=d',toks:=t' }:=by
 have neL:∀b o,X.s₀.heap.get? b=some o→b≠X.env.locals:=fun b o e=>Nat.ne_of_lt (Nat.lt_of_lt_of_le (Heap.lt_size e) I.ok.above)
 have neC:∀b o,X.s₀.heap.get? b=some o→b∉X.ex→b∉ch:=fun b o e hx hb=>by
  rcases(hch b hb).1 with z | z
  ·exact hx z
  ·exact absurd (Nat.lt_of_lt_of_le (Heap.lt_size e) z) (Nat.lt_irrefl _)
 have cellK:∀x c,X.env.cells.lookup x=some c→∀v,s.heap.IsCell c v→h'.IsCell c v:=fun x c e v ⟨o,ho,hd⟩=>by
  have nch:c∉ch:=fun z=>(hch c z).2.2.1 x c e rfl
  by_cases hc:c∈X.fs
  ·obtain⟨sl,q⟩:=slot c o (I.cne x c e) hc nch ho (I.freeC x c e)
   exact⟨_,q,hd⟩
  ·exact⟨o,keep c o (I.cne x c e) hc nch ho (I.freeC x c e),hd⟩
 refine⟨I.ok,I.os,hg,⟨fun b o e n hb hx=>?_,fun b o e n hb hx=>?_,fun b o e n hx=>?_,fun b o e hx=>?_,fun b xs e=>tups b xs (I.base.tups b xs e),fun b o xs e=>frzs b o xs (I.base.frzs b o xs e),fun b ps e=>?_⟩,?_,fun x c e=>?_,?_,fun x c e=>?_,fun p hp=>?_,hok,I.len⟩
 ·exact keep b o (neL b o e) hb (neC b o e hx) (I.base.keep b o e n hb hx) (I.base.free b o e n hx)
 ·obtain⟨sl,e1⟩:=I.base.slot b o e n hb hx
  obtain⟨sl',e2⟩:=slot b _ (neL b o e) hb (neC b o e hx) e1 (I.base.free b o e n hx)
  exact⟨sl',e2⟩
 ·obtain⟨o',e1⟩:=I.base.there b o e hx
  exact free b o' (neC b o e hx) e1 (I.base.free b o e n hx)
 ·obtain⟨o',e1⟩:=I.base.there b o e hx
  exact there b o' (neC b o e hx) e1
 ·obtain⟨m1,e1⟩:=I.base.tbls b ps e
  obtain⟨m2,e2⟩:=tbls b _ e1
  exact⟨m1 ++ m2,by rw [e2,Array.append_assoc]⟩
 ·obtain⟨m,hn,hl⟩:=I.loc
  refine⟨m,ns m hn,fun i x v e1 e2 e3=>?_⟩
  obtain⟨u,r,l⟩:=hl i x v e1 e2 e3
  refine⟨u,r,?_⟩
  rcases l with l | ⟨k,c,e,z⟩
  ·exact .inl l
  ·exact .inr ⟨k,c,e,cellK x c e _ z⟩
 ·obtain⟨v,z⟩:=I.cell x c e
  exact⟨v,cellK x c e v z⟩
 ·obtain⟨m,⟨o,_,_,ho,_⟩,_⟩:=I.loc
  exact free _ o (fun z=>(hch _ z).2.1 rfl) ho I.free
 ·obtain⟨v,o,ho,hd⟩:=I.cell x c e
  exact free c o (fun z=>(hch c z).2.2.1 x c e rfl) ho (I.freeC x c e)
 ·obtain⟨e,n,ne,nf,d⟩:=I.pin p hp
  have nch:p.1∉ch:=fun z=>(hch p.1 z).2.2.2 p hp rfl
  exact⟨keep p.1 p.2 ne nf nch e n,free p.1 p.2 nch e n,ne,nf,d⟩
theorem Inv.un {t':Nat} (I:Inv X pins σ H s) (u:Un X.fs [] H H' s.heap h') (hok:HOk X.prog X.w H' h'):Inv X pins σ H' { s with heap:=h',toks:=t' }:=by
 obtain⟨m,⟨o,es,ep,ho,r⟩,_⟩:=id I.loc
 obtain⟨sl,hL⟩:=u.any ho I.free (by simp)
 exact I.step (g':=s.gens) (d':=s.drawn) (ch:=[]) (fun _ z=>nomatch z) (fun b o _ hb _ e n=>u.keep b o e n hb (by simp)) (fun b o _ hb _ e n=>u.slot b o e n hb (by simp)) (fun b o _ e n=>u.free b o e n (by simp)) (fun b o _ e=>u.there b o e (by simp)) u.tups u.frzs u.tbls (fun m' hm=>by
  obtain⟨o',es',ep',ho',r'⟩:=hm
  rw [ho] at ho';cases ho'
  exact⟨_,es',ep',hL,r'⟩) hok I.bare
theorem Inv.call {g':Array GenState} {t':Nat} {d':Drawn} {ch:List Addr} (I:Inv X pins σ H s) (u:Un (frs X.stack) ch H H' s.heap h') (hok:HOk X.prog X.w H' h') (hg:AllBare g')
  (hch:∀b∈ch,(b∈X.ex∨X.s₀.heap.objs.size≤b)∧b≠X.env.locals∧(∀x c,X.env.cells.lookup x=some c→c≠b)∧∀p∈X.pn ++ pins,p.1≠b):
  Inv X pins σ H' { s with heap:=h',gens:=g',drawn:=d',toks:=t' }:=by
 obtain⟨m,⟨o,es,ep,ho,r⟩,_⟩:=id I.loc
 obtain⟨sl,hL⟩:=u.any ho I.free fun z=>(hch _ z).2.1 rfl
 exact I.step (ch:=ch) hch (fun b o hL hb hc e n=>u.keep b o e n (fun z=>(List.mem_cons.mp (I.stkSub b z)).elim hL hb) hc) (fun b o _ _ hc e n=>u.any e n hc) (fun b o hc e n=>u.free b o e n hc) (fun b o hc e=>u.there b o e hc) u.tups u.frzs u.tbls (fun m' hm=>by
  obtain⟨o',es',ep',ho',r'⟩:=hm
  rw [ho] at ho';cases ho'
  exact⟨_,es',ep',hL,r'⟩) hok hg
theorem Inv.turned {t':Nat} {it:Addr} (I:Inv X pins σ H s) (k:∀b o,b≠it→s.heap.get? b=some o→h'.get? b=some o) (hn:H it=none) (hL:it≠X.env.locals)
  (h1:it∈X.ex∨X.s₀.heap.objs.size≤it) (h2:∀x c,X.env.cells.lookup x=some c→c≠it) (h3:∀p∈X.pn ++ pins,p.1≠it):Inv X pins σ H { s with heap:=h',toks:=t' }:=by
 have nit:∀b u,H b=some u→b≠it:=fun b u e z=>by rw [z,hn] at e;cases e
 refine I.step (g':=s.gens) (d':=s.drawn) (ch:=[it]) (fun b hb=>?_) (fun b o _ _ hc e _=>k b o (fun z=>hc (by simp [z])) e) (fun b o _ _ hc e _=>⟨o.slots,k b o (fun z=>hc (by simp [z])) e⟩) (fun _ _ _ _ n=>n)
  (fun b o hc e=>⟨o,k b o (fun z=>hc (by simp [z])) e⟩) (fun _ _ e=>e) (fun _ _ _ e=>e) (fun b ps e=>⟨#[],by rw [e];simp⟩) (fun m hm=>?_) (fun b u e=>?_) I.bare
 ·have e:b=it:=by simpa using hb
  subst e
  exact⟨h1,hL,h2,h3⟩
 ·obtain⟨o,es,ep,ho,r⟩:=hm
  exact⟨o,es,ep,k _ o (Ne.symm hL) ho,r⟩
 ·refine(I.hok b u e).stay (fun c v hc q=>k c v ?_ q) (fun _ q=>q) fun _ _ q=>q
  rcases hc with z | z
  ·rw [z];exact nit b u e
  ·exact nit c _ z
theorem Inv.tok (I:Inv X pins σ H s) (t:Nat):Inv X pins σ H { s with toks:=t }:=I.un (h':=s.heap) (t':=t) Un.refl I.hok
theorem Inv.kept {t':Nat} (I:Inv X pins σ H s) (k:∀b u,s.heap.get? b=some u→h'.get? b=some u):Inv X pins σ H { s with heap:=h',toks:=t' }:=I.un (Un.kept k) (I.hok.kept k)
theorem Inv.laid {a:Addr} {o:HO} {t':Nat} (I:Inv X pins σ H s) (k:∀b u,s.heap.get? b=some u→h'.get? b=some u) (hp:s.heap.objs.size≤a) (new:fM X.prog X.w (upd H a o) h' a o):
  Inv X pins σ (upd H a o) { s with heap:=h',toks:=t' }:=I.un (Un.laid k hp (I.hok.fresh hp)) (I.hok.laid k hp new)
theorem Inv.write {x e:Addr} {o:HO} {t':Nat} (I:Inv X pins σ H s) (mu:Mut (H x)) (he:e=x∨H e=some (.own x)) (k:∀b u,b≠e→s.heap.get? b=some u→h'.get? b=some u) (heo:∃u,h'.get? e=some u)
  (new:fM X.prog X.w (upd H x o) h' x o):Inv X pins σ (upd H x o) { s with heap:=h',toks:=t' }:=I.un (Un.write mu he k heo) (I.hok.write mu he k heo new)
theorem Inv.weak {σ':List (Option V)} (I:Inv X pins σ H s) (hl:σ'.length=σ.length) (w:∀(i:Nat) v,σ'[i]?=some (some v)→σ[i]?=some (some v)):Inv X pins σ' H s:=
 ⟨I.ok,I.os,I.bare,I.base,let ⟨m,hn,hl'⟩:=I.loc;⟨m,hn,fun i x v e1 e2 e3=>hl' i x v e1 (w i v e2) e3⟩,I.cell,I.free,I.freeC,I.pin,I.hok,hl.trans I.len⟩
theorem Inv.pins_of {pins':List (Addr×Obj)} (I:Inv X pins σ H s) (h:∀p∈pins',s.heap.get? p.1=some p.2∧H p.1=none∧p.1≠X.env.locals∧p.1∉X.fs∧∀v,p.2.data≠.cell v):Inv X pins' σ H s:=
 ⟨I.ok,I.os,I.bare,I.base,I.loc,I.cell,I.free,I.freeC,fun p hp=>(List.mem_append.mp hp).elim (fun z=>I.pin p (List.mem_append_left _ z)) (h p),I.hok,I.len⟩
theorem nodup_ix {N:List Str} (hN:N.Nodup) {i j:Nat} {x:Str} (a:N[i]?=some x) (b:N[j]?=some x):i=j:=by
 obtain⟨h1,e1⟩:=List.getElem?_eq_some_iff.mp a
 obtain⟨h2,e2⟩:=List.getElem?_eq_some_iff.mp b
 exact(List.getElem_inj hN).mp (e1.trans e2.symm)
theorem store_ok2 {M:Model} {A:Around} {E:Value→Shared→Prop} {i:Nat} {x:Str} {v:V} {u:Value} {Q:Unit→Shared→Prop} (I:Inv X pins σ H s) (hN:X.N.Nodup) (hi:X.N[i]?=some x) (hx:Loc X.env.scope x) (r:RelV v u)
  (h:∀s',Inv X pins (σ.set i (some v)) H s'→(∃a,Heap.SameBut a s.heap s'.heap∧(a=X.env.locals∨X.env.cells.lookup x=some a))→Q () s') (hf:X.fn x=true∨X.env.scope.names.lookup x=some .local:=by first | exact .inl rfl | exact .inr rfl | assumption):wpAny M A (storeName X.env x u) Q E s:=by
 obtain⟨m,hn,hl⟩:=id I.loc
 have hcls:(X.env.scope.kind == .class || (X.env.scope.kind == .module && X.env.locals != X.env.globals))=false:=by rw [I.ok.kind];rfl
 have hiσ:i <σ.length:=by rw [I.len];exact(List.getElem?_eq_some_iff.mp hi).1
 have cne:=I.cne
 have tracked:∀{a:Addr} {h':Heap},(∃o,s.heap.get? a=some o∧H a=none)→Heap.SameBut a s.heap h'→HOk X.prog X.w H h':=fun {a h'} ha hs b ob e=>by
  obtain⟨_,_,hfree⟩:=ha
  refine(I.hok b ob e).stay (fun c w' hc q=>(hs.2 c ?_).trans q) (fun _ q=>q) fun _ _ q=>q
  rintro rfl
  rcases hc with rfl | hc
  ·rw [hfree] at e;cases e
  ·rw [hfree] at hc;cases hc
 rcases hx with hk | hk
 ·refine wpAny_storeName_local hk hn (fun h' hn' hs=>?_) hcls
  obtain⟨oL,_,_,hoL,_⟩:=id hn
  refine h _ ⟨I.ok,I.os,I.bare,⟨fun b o e n hb hx=>?_,fun b o e n hb hx=>?_,I.base.free,fun b o e hx=>?_,I.base.tups,I.base.frzs,I.base.tbls⟩,⟨_,hn',fun j y v' e1 e2 e3=>?_⟩,fun y c e=>?_,I.free,I.freeC,fun p hp=>?_,tracked ⟨oL,hoL,I.free⟩ hs,by simpa using I.len⟩ ⟨_,hs,.inl rfl⟩
  ·exact(hs.2 b (Nat.ne_of_lt (Nat.lt_of_lt_of_le (Heap.lt_size e) I.ok.above))).trans (I.base.keep b o e n hb hx)
  ·obtain⟨sl,e1⟩:=I.base.slot b o e n hb hx
   exact⟨sl,(hs.2 b (Nat.ne_of_lt (Nat.lt_of_lt_of_le (Heap.lt_size e) I.ok.above))).trans e1⟩
  ·obtain⟨o',e1⟩:=I.base.there b o e hx
   exact⟨o',(hs.2 b (Nat.ne_of_lt (Nat.lt_of_lt_of_le (Heap.lt_size e) I.ok.above))).trans e1⟩
  ·by_cases hj:j=i
   ·subst hj
    rw [hi] at e1;cases e1
    rw [List.getElem?_set_self hiσ] at e2
    cases e2
    exact⟨u,r,.inl ⟨hk,by simp⟩⟩
   ·rw [List.getElem?_set_ne (Ne.symm hj)] at e2
    obtain⟨u',r',q⟩:=hl j y v' e1 e2 e3
    refine⟨u',r',?_⟩
    rcases q with ⟨k,e⟩ | ⟨k,c,e,z⟩
    ·refine .inl ⟨k,?_⟩
     have:y≠x:=fun e=>hj (nodup_ix hN e1 (e ▸ hi))
     simp [this,e]
    ·exact .inr ⟨k,c,e,z.sameBut hs (cne y c e)⟩
  ·obtain⟨w',z⟩:=I.cell y c e
   exact⟨w',z.sameBut hs (cne y c e)⟩
  ·obtain⟨e,n,ne,nf,d⟩:=I.pin p hp
   exact⟨(hs.2 p.1 ne).trans e,n,ne,nf,d⟩
 ·have hfn:X.fn x=true:=by
   rcases hf with z | z
   ·exact z
   ·rw [z] at hk;cases hk
  obtain⟨c,hc⟩:=I.ok.has x (.inl hk)
  obtain⟨w',z⟩:=I.cell x c hc
  refine wpAny_storeName_cell I.ok.kind hk hc z (fun h' hc' hs=>?_)
  obtain⟨oc,hoc,hocd⟩:=id z
  refine h { s with heap:=h' } ⟨I.ok,I.os,I.bare,⟨fun b o e n hb hx=>?_,fun b o e n hb hx=>?_,I.base.free,fun b o e hx=>?_,I.base.tups,I.base.frzs,I.base.tbls⟩,⟨m,hn.sameBut hs (Ne.symm (cne x c hc)),fun j y v' e1 e2 e3=>?_⟩,fun y c' e=>?_,I.free,I.freeC,fun p hp=>?_,tracked ⟨oc,hoc,I.freeC x c hc⟩ hs,by simpa using I.len⟩ ⟨c,hs,.inr hc⟩
  ·exact(hs.2 b (Nat.ne_of_lt (Nat.lt_of_lt_of_le (Heap.lt_size e) (I.ok.cab x c hfn hc)))).trans (I.base.keep b o e n hb hx)
  ·obtain⟨sl,e1⟩:=I.base.slot b o e n hb hx
   exact⟨sl,(hs.2 b (Nat.ne_of_lt (Nat.lt_of_lt_of_le (Heap.lt_size e) (I.ok.cab x c hfn hc)))).trans e1⟩
  ·obtain⟨o',e1⟩:=I.base.there b o e hx
   exact⟨o',(hs.2 b (Nat.ne_of_lt (Nat.lt_of_lt_of_le (Heap.lt_size e) (I.ok.cab x c hfn hc)))).trans e1⟩
  ·by_cases hj:j=i
   ·subst hj
    rw [hi] at e1;cases e1
    rw [List.getElem?_set_self hiσ] at e2
    cases e2
    exact⟨u,r,.inr ⟨.inl hk,c,hc,hc'⟩⟩
   ·rw [List.getElem?_set_ne (Ne.symm hj)] at e2
    obtain⟨u',r',q⟩:=hl j y v' e1 e2 e3
    refine⟨u',r',?_⟩
    rcases q with q | ⟨k,c',e,z'⟩
    ·exact .inl q
    ·refine .inr ⟨k,c',e,z'.sameBut hs ?_⟩
     rintro rfl
     exact hj (nodup_ix hN e1 (I.ok.inj _ _ _ e hc ▸ hi))
  ·by_cases hcc:c'=c
   ·subst hcc;exact⟨_,hc'⟩
   ·obtain⟨w2,z2⟩:=I.cell y c' e
    exact⟨w2,z2.sameBut hs hcc⟩
  ·obtain⟨e,n,ne,nf,d⟩:=I.pin p hp
   refine⟨(hs.2 p.1 ?_).trans e,n,ne,nf,d⟩
   intro q
   rw [q,hoc] at e
   have q':oc=p.2:=Option.some.inj e
   exact d w' (by rw [←q'];exact hocd)
theorem Ak {M:Model} {A:Around} {E:Value→Shared→Prop} {i:Nat} {x:Str} {v:V} {u:Value} {Q:Unit→Shared→Prop} (I:Inv X pins σ H s) (hN:X.N.Nodup) (hi:X.N[i]?=some x) (hx:Loc X.env.scope x) (r:RelV v u)
  (h:∀s',Inv X pins (σ.set i (some v)) H s'→Q () s') (hf:X.fn x=true∨X.env.scope.names.lookup x=some .local:=by first | exact .inl rfl | exact .inr rfl | assumption):wpAny M A (storeName X.env x u) Q E s:=
 store_ok2 I hN hi hx r (fun s' I' _=>h s' I') hf
theorem Inv.call' {s':Shared} {ch:List Addr} (I:Inv X pins σ H s) (ho:s'.os=s.os) (u:Un (frs X.stack) ch H H' s.heap s'.heap) (hok:HOk X.prog X.w H' s'.heap) (hg:AllBare s'.gens)
  (hch:∀b∈ch,(b∈X.ex∨X.s₀.heap.objs.size≤b)∧b≠X.env.locals∧(∀x c,X.env.cells.lookup x=some c→c≠b)∧∀p∈X.pn ++ pins,p.1≠b):Inv X pins σ H' s':=by
 obtain⟨h',g',d',t',o'⟩:=s'
 have e:o'=s.os:=ho
 subst e
 exact I.call (g':=g') (t':=t') (d':=d') u hok hg hch
end
abbrev XK:=Value→Option Addr→Hp→Prop
abbrev St:=List (Option V)
abbrev VK:=V→Hp→Prop
abbrev TE:=St→Hp→VK→Prop
abbrev TT:=St→Hp→(Bool→Hp→Prop)→Prop
abbrev TA:=St→Hp→(List V→Hp→Prop)→Prop
structure Ends where
 nx:St→Hp→Prop
 rt:VK
 bk:St→Hp→Prop:=fun _ _=>False
 ct:St→Hp→Prop:=fun _ _=>False
abbrev TS:=Ends→St→Hp→Prop
def EP (X:Cx) (pins:List (Addr×Obj)) (σ:St) (Q:VK) (u:Value) (s':Shared):Prop:=∃v H',Inv X pins σ H' s'∧RelV v u∧Q v H'
def TP (X:Cx) (pins:List (Addr×Obj)) (σ:St) (Q:Bool→Hp→Prop) (b:Bool) (s':Shared):Prop:=∃H',Inv X pins σ H' s'∧Q b H'
def AP (X:Cx) (pins:List (Addr×Obj)) (σ:St) (Q:List V→Hp→Prop) (us:List Value) (s':Shared):Prop:=∃vs H',Inv X pins σ H' s'∧Vals vs us∧Q vs H'
def SP (X:Cx) (pins:List (Addr×Obj)) (D:Ends) (f:Flow) (s':Shared):Prop:=
 match f with
 | .next=>∃σ' H',Inv X pins σ' H' s'∧D.nx σ' H'
 | .brk=>∃σ' H',Inv X pins σ' H' s'∧D.bk σ' H'
 | .cont=>∃σ' H',Inv X pins σ' H' s'∧D.ct σ' H'
 | .ret u=>∃v σ' H',Inv X pins σ' H' s'∧RelV v u∧D.rt v H'
def PE (X:Cx) (e:Expr) (t:TE):Prop:=
 ∀(pins:List (Addr×Obj)) (s:Shared) (σ:St) (H:Hp) (Q:VK),Inv X pins σ H s→t σ H Q→wpAny (model X.prog X.w) X.A (eval e X.env) (EP X pins σ Q) X.xe s
def PT (X:Cx) (e:Expr) (t:TT):Prop:=
 ∀(pins:List (Addr×Obj)) (s:Shared) (σ:St) (H:Hp) (Q:Bool→Hp→Prop),Inv X pins σ H s→t σ H Q→wpAny (model X.prog X.w) X.A (isTrue e X.env (eval e X.env)) (TP X pins σ Q) X.xe s
def PW (X:Cx) (e:Expr) (t:TT):Prop:=
 ∀(whole:Sem Value) (pins:List (Addr×Obj)) (s:Shared) (σ:St) (H:Hp) (Q:Bool→Hp→Prop),Inv X pins σ H s→t σ H Q→wpAny (model X.prog X.w) X.A (isTrue e X.env whole) (TP X pins σ Q) X.xe s
theorem PW.pt {X:Cx} {e:Expr} {t:TT} (h:PW X e t):PT X e t:=h _
def PA (X:Cx) (es:List Expr) (t:TA):Prop:=
 ∀(pos:Pos) (pins:List (Addr×Obj)) (s:Shared) (σ:St) (H:Hp) (Q:List V→Hp→Prop),Inv X pins σ H s→t σ H Q→wpAny (model X.prog X.w) X.A (spliced (backTo pos (starEach es X.env))) (AP X pins σ Q) X.xe s
def PS (X:Cx) (st:Stmt) (t:TS):Prop:=
 ∀(pins:List (Addr×Obj)) (s:Shared) (σ:St) (H:Hp) (D:Ends),Inv X pins σ H s→t D σ H→wpAny (model X.prog X.w) X.A (exec st X.env) (SP X pins D) X.xe s
def PSs (X:Cx) (st:List Stmt) (t:TS):Prop:=
 ∀(pins:List (Addr×Obj)) (s:Shared) (σ:St) (H:Hp) (D:Ends),Inv X pins σ H s→t D σ H→wpAny (model X.prog X.w) X.A (execs st X.env) (SP X pins D) X.xe s
theorem thn {α:Type} {t:Sem α} {Q Q':α→Shared→Prop} {M:Model} {A:Around} {E:Value→Shared→Prop} {s:Shared} (h:wpAny M A t Q E s) (hQ:∀a s,Q a s→Q' a s):wpAny M A t Q' E s:=wpAny_mono h hQ fun _ _ x=>x
end L2
namespace L2
open PySem PySem.Spec PyProof.Rows
section
variable {X:Cx}
def tVar (i:Nat):TE:=fun σ H Q=>∃v,σ[i]?=some (some v)∧Q v H
def tC (v:V):TE:=fun _ H Q=>Q v H
theorem pe_var {i:Nat} {x:Str} {pos:Pos} (hN:X.N[i]?=some x) (hv:Vis X.env.scope x) (hd:(x == ("__debug__" :Str))=false:=by decide) (hcd:(x == ("__classdict__" :Str))=false:=by decide):PE X (.Name x pos) (tVar i):=by
 intro pins s σ H Q I h
 obtain⟨v,e,h⟩:=h
 obtain⟨m,hn,hl⟩:=I.loc
 obtain⟨u,r,l⟩:=hl i x v hN e hv
 have fin:EP X pins σ Q u s:=⟨v,H,I,r,h⟩
 rcases l with ⟨hk,hm⟩ | ⟨hk,c,hc,hcell⟩
 ·exact wpAny_Name (wpAny_loadName_local I.ok.kind hk hn hm fin) hd
 ·rcases hk with hk | hk
  ·exact wpAny_Name (wpAny_loadName_cell I.ok.kind hk hc hcell fin) hd
  ·exact wpAny_Name (wpAny_loadName_free I.ok.kind hk hc hcell fin hcd) hd
theorem aq {i j pos}:PE X (.Constant (.int i) j pos) (tC (.int i)):=fun _ _ _ H _ I h=>wpAny_Constant_int ⟨.int i,H,I.tok _,⟨_,rfl⟩,h⟩
theorem fB {b j pos}:PE X (.Constant (.bool b) j pos) (tC (.bl b)):=fun _ _ _ H _ I h=>Constant_bool ⟨.bl b,H,I,rfl,h⟩
theorem pe_non {j pos}:PE X (.Constant .none j pos) (tC .non):=fun _ _ _ H _ I h=>Constant_none ⟨.non,H,I,rfl,h⟩
theorem bM {x j pos}:PE X (.Constant (.str x) j pos) (tC (.str x)):=fun _ _ _ H _ I h=>Calls.Constant_str ⟨.str x,H,I.tok _,⟨_,rfl⟩,h⟩
def Gl (X:Cx) (x:Str):Prop:=X.env.kindOf x=some .globalImplicit
theorem ld_glob {E:Value→Shared→Prop} {pins:List (Addr×Obj)} {s:Shared} {σ:St} {H:Hp} {x:Str} {u:Value} {pos:Pos} {Q:Value→Shared→Prop} (I:Inv X pins σ H s) (hg:Gl X x) (hm:X.mg x=some u) (h:Q u s)
  (hd:(x == ("__debug__" :Str))=false:=by decide):wpAny (model X.prog X.w) X.A (eval (.Name x pos) X.env) Q E s:=
 Calls.Name_function_global I.ok.kind hg (Calls.loadGlobal_global (by rw [I.ok.glob];exact I.mod.glob.keeps I.bk) hm h) hd
theorem yX {E:Value→Shared→Prop} {pins:List (Addr×Obj)} {s:Shared} {σ:St} {H:Hp} {x:Str} {u:Value} {pos:Pos} {Q:Value→Shared→Prop} (I:Inv X pins σ H s) (hg:Gl X x) (hm:X.mg x=none) (hv:bootBuiltins x=some u) (h:Q u s)
  (hn:x≠ "__name__" :=by decide) (hd:(x == ("__debug__" :Str))=false:=by decide):wpAny (model X.prog X.w) X.A (eval (.Name x pos) X.env) Q E s:=by
 obtain⟨mb,h1,h2⟩:=I.mod.blt
 exact Calls.Name_function_global I.ok.kind hg (Calls.loadGlobal_builtin (by rw [I.ok.glob];exact I.mod.glob.keeps I.bk) hm (by rw [I.ok.blt];exact h1.keeps I.bk) ((h2 x hn).trans hv) h) hd
theorem pe_glob {x:Str} {v:V} {u:Value} {pos:Pos} (hg:Gl X x) (hm:X.mg x=some u) (r:RelV v u) (hd:(x == ("__debug__" :Str))=false:=by decide):PE X (.Name x pos) (tC v):=
 fun _ _ _ H _ I h=>ld_glob I hg hm ⟨v,H,I,r,h⟩ hd
theorem pe_bltn {x:Str} {v:V} {u:Value} {pos:Pos} (hg:Gl X x) (hm:X.mg x=none) (hv:bootBuiltins x=some u) (r:RelV v u) (hn:x≠ "__name__" :=by decide) (hd:(x == ("__debug__" :Str))=false:=by decide):PE X (.Name x pos) (tC v):=
 fun _ _ _ H _ I h=>yX I hg hm hv ⟨v,H,I,r,h⟩ hn hd
variable {a b:Expr} {ta tb:TE} {pos:Pos}
def PC (X:Cx) (op:CmpOp) (a b:Expr) (t:TE):Prop:=
 ∀(pins:List (Addr×Obj)) (s:Shared) (σ:St) (H:Hp) (Q:VK),Inv X pins σ H s→t σ H Q→
  wpAny (model X.prog X.w) X.A (eval a X.env) (fun v s₁=>wpAny (model X.prog X.w) X.A (eval b X.env) (fun u s₂=>wpAny (model X.prog X.w) X.A (compareOp op v u) (EP X pins σ Q) X.xe s₂) X.xe s₁) X.xe s
theorem nobehind (b:Expr) {op:CmpOp} (h:op≠.In) (h2:op≠.NotIn):behindInMarks op b=false:=by
 have e1:(op == CmpOp.In)=false:=by cases op <;> first | rfl | exact absurd rfl h
 have e2:(op == CmpOp.NotIn)=false:=by cases op <;> first | rfl | exact absurd rfl h2
 cases b <;> simp [behindInMarks,e1,e2]
def tNotN (ta:TE):TE:=fun σ H Q=>ta σ H fun x H1=>Q (.bl (!decide (x=.non))) H1
theorem RelV.none_iff {x:V} {v:Value} (r:RelV x v):(v == Value.none)=decide (x=.non):=by
 cases x with
 | non=>cases r;rfl
 | bl _=>cases r;rfl
 | int _=>obtain⟨t,rfl⟩:=r;rfl
 | str _=>obtain⟨t,rfl⟩:=r;rfl
 | byt _=>obtain⟨t,rfl⟩:=r;rfl
 | flt _=>obtain⟨t,rfl⟩:=r;rfl
 | ref _=>cases r;rfl
 | ty _=>cases r;rfl
theorem pc_notN {j pos'} (ha:PE X a ta):PC X .IsNot a (.Constant .none j pos') (tNotN ta):=by
 intro pins s σ H Q I h
 refine thn (ha pins s σ H _ I h) fun v s1 hpt=>?_
 obtain⟨x,H1,I1,r1,q1⟩:=hpt
 exact Constant_none (isnot_none_gen ⟨.bl _,H1,I1,by rw [r1.none_iff];rfl,q1⟩)
def tB (t:TE):TT:=fun σ H Q=>t σ H fun x H1=>∃c,x=.bl c∧Q c H1
theorem pe_cmp {op:CmpOp} {t:TE} (h:PC X op a b t) (h1:behindInMarks op b=false:=by first | exact nobehind _ (by decide) (by decide) | rfl):PE X (.Compare a [op] [b] pos) t:=fun pins s σ H Q I hw=>wpAny_Compare1 (h pins s σ H Q I hw) h1
theorem qR {op:CmpOp} {t:TE} (h:PC X op a b t) (h1:behindInMarks op b=false:=by first | exact nobehind _ (by decide) (by decide) | rfl):PT X (.Compare a [op] [b] pos) (tB t):=by
 intro pins s σ H Q I hw
 refine wpAny_isTrue_Compare1 (thn (h pins s σ H _ I hw) fun v s1 h1=>thn h1 fun u s2 h2=>thn h2 fun c s3 hpt=>?_) h1
 obtain⟨x,H1,I1,r1,q1⟩:=hpt
 obtain⟨d,rfl,q⟩:=q1
 cases r1
 exact wpAny_truthy_bool ⟨H1,I1,q⟩
theorem dM {e:Expr} {t:TE} (h:PE X e t) (he:∀whole,isTrue e X.env whole=(do let v ←whole;standAt e.pos;holding [v] (truthy v)):=by intro _;rfl):PT X e (tB t):=by
 intro pins s σ H Q I hw
 refine isTrue_plain (thn (h pins s σ H _ I hw) fun v s1 ⟨x,H1,I1,r1,q1⟩=>?_) (he _)
 obtain⟨d,rfl,q⟩:=q1
 cases r1
 exact wpAny_truthy_bool ⟨H1,I1,q⟩
variable {tA tB':TT} {rest:List Expr}
def tAnd (t u:TT):TT:=fun σ H Q=>t σ H fun c H1=>if c=true then u σ H1 Q else Q false H1
def tOr (t u:TT):TT:=fun σ H Q=>t σ H fun c H1=>if c=true then Q true H1 else u σ H1 Q
def tNot (t:TT):TT:=fun σ H Q=>t σ H fun c H1=>Q (!c) H1
theorem qw (ha:PT X a tA):PW X (.BoolOp .And [a] pos) tA:=by
 intro wh pins s σ H Q I h
 refine isTrue_and (thn (ha pins s σ H Q I h) fun c s1 e=>?_)
 cases c with
 | true=>exact isTrue_and_nil e
 | false=>exact e
theorem mz (ha:PT X a tA):PW X (.BoolOp .Or [a] pos) tA:=by
 intro wh pins s σ H Q I h
 refine isTrue_or (thn (ha pins s σ H Q I h) fun c s1 e=>?_)
 cases c with
 | false=>exact isTrue_or_nil e
 | true=>exact e
theorem uy (ha:PT X a tA) (hb:PW X (.BoolOp .And (b:: rest) pos) tB'):PW X (.BoolOp .And (a:: b:: rest) pos) (tAnd tA tB'):=by
 intro wh pins s σ H Q I h
 refine isTrue_and (thn (ha pins s σ H _ I h) fun c s1 hpt=>?_)
 obtain⟨H1,I1,q1⟩:=hpt
 cases c with
 | true=>exact hb wh pins s1 σ H1 Q I1 q1
 | false=>exact⟨H1,I1,q1⟩
theorem mH (ha:PT X a tA) (hb:PW X (.BoolOp .Or (b:: rest) pos) tB'):PW X (.BoolOp .Or (a:: b:: rest) pos) (tOr tA tB'):=by
 intro wh pins s σ H Q I h
 refine isTrue_or (thn (ha pins s σ H _ I h) fun c s1 hpt=>?_)
 obtain⟨H1,I1,q1⟩:=hpt
 cases c with
 | true=>exact⟨H1,I1,q1⟩
 | false=>exact hb wh pins s1 σ H1 Q I1 q1
theorem dZ (ha:PT X a tA):PT X (.UnaryOp .Not a pos) (tNot tA):=by
 intro pins s σ H Q I h
 exact isTrue_not (ha pins s σ H (fun c H1=>Q (!c) H1) I h)
def tAndV (ta tb:TE):TE:=fun σ H Q=>ta σ H fun x H1=>∃c,x=.bl c∧if c=true then tb σ H1 Q else Q (.bl false) H1
def tOrV (ta tb:TE):TE:=fun σ H Q=>ta σ H fun x H1=>∃c,x=.bl c∧if c=true then Q (.bl true) H1 else tb σ H1 Q
def tNotV (ta:TE):TE:=fun σ H Q=>ta σ H fun x H1=>∃c,x=.bl c∧Q (.bl (!c)) H1
theorem Bk {op} {t:TE} (h:PE X a t):PE X (.BoolOp op [a] pos) t:=fun pins s σ H Q I hw=>BoolOp_one (h pins s σ H Q I hw)
theorem pe_and (ha:PE X a ta) (hb:PE X (.BoolOp .And (b:: rest) pos) tb):PE X (.BoolOp .And (a:: b:: rest) pos) (tAndV ta tb):=by
 intro pins s σ H Q I h
 refine BoolOp_and (thn (ha pins s σ H _ I h) fun v s1 hpt=>?_)
 obtain⟨x,H1,I1,r1,q1⟩:=hpt
 obtain⟨c,rfl,q1⟩:=q1
 cases r1
 refine wpAny_truthy_bool ?_
 cases c with
 | true=>exact hb pins s1 σ H1 Q I1 q1
 | false=>exact⟨.bl false,H1,I1,rfl,q1⟩
theorem pe_or (ha:PE X a ta) (hb:PE X (.BoolOp .Or (b:: rest) pos) tb):PE X (.BoolOp .Or (a:: b:: rest) pos) (tOrV ta tb):=by
 intro pins s σ H Q I h
 refine BoolOp_or (thn (ha pins s σ H _ I h) fun v s1 hpt=>?_)
 obtain⟨x,H1,I1,r1,q1⟩:=hpt
 obtain⟨c,rfl,q1⟩:=q1
 cases r1
 refine wpAny_truthy_bool ?_
 cases c with
 | false=>exact hb pins s1 σ H1 Q I1 q1
 | true=>exact⟨.bl true,H1,I1,rfl,q1⟩
theorem pe_not (ha:PE X a ta):PE X (.UnaryOp .Not a pos) (tNotV ta):=by
 intro pins s σ H Q I h
 refine UnaryOp_ (thn (ha pins s σ H _ I h) fun v s1 hpt=>?_)
 obtain⟨x,H1,I1,r1,q1⟩:=hpt
 obtain⟨c,rfl,q1⟩:=q1
 cases r1
 exact not_of (wpAny_truthy_bool ⟨.bl (!c),H1,I1,rfl,q1⟩)
def tIf (t:TT) (ta tb:TE):TE:=fun σ H Q=>t σ H fun c H1=>if c=true then ta σ H1 Q else tb σ H1 Q
theorem pe_ifExp {c:Expr} (hc:PT X c tA) (ha:PE X a ta) (hb:PE X b tb):PE X (.IfExp c a b pos) (tIf tA ta tb):=by
 intro pins s σ H Q I h
 refine wpAny_IfExp (thn (hc pins s σ H _ I h) fun d s1 hpt=>?_)
 obtain⟨H1,I1,q1⟩:=hpt
 cases d with
 | true=>exact ha pins s1 σ H1 Q I1 q1
 | false=>exact hb pins s1 σ H1 Q I1 q1
end
end L2
namespace L2
open PySem PySem.Spec PyProof.Rows
def SqL (K:PySem.W.Frag) (H:Hp) (a:Addr) (xs:List V):Prop:=
 Rd H a (.lst xs)∨
  ∃(o:Obj) (its:Array Value) (n:Nat),K.lookup a=some o∧o.cls=.type "list" ∧o.dict=none∧o.data=.seq its n∧its.size≤sizeLine∧Vals xs its.toList
def SqT (K:PySem.W.Frag) (H:Hp) (a:Addr) (xs:List V):Prop:=
 Rd H a (.tup xs)∨
  ∃(o:Obj) (its:Array Value) (n:Nat),K.lookup a=some o∧o.cls=.type "tuple" ∧o.data=.seq its n∧its.size≤sizeLine∧Vals xs its.toList
def absV:Value→Option V
 | .none=>some .non
 | .bool b=>some (.bl b)
 | .int i _=>some (.int i)
 | .str x _=>some (.str x)
 | .bytes b _=>some (.byt b)
 | .float b _=>some (.flt b)
 | .ref a=>some (.ref a)
 | .type n=>some (.ty n)
 | _=>none
theorem RelV.abs {x:V} {u:Value} (r:RelV x u):absV u=some x:=by
 cases x with
 | non=>cases r;rfl
 | bl _=>cases r;rfl
 | int _=>obtain⟨t,rfl⟩:=r;rfl
 | str _=>obtain⟨t,rfl⟩:=r;rfl
 | byt _=>obtain⟨t,rfl⟩:=r;rfl
 | flt _=>obtain⟨t,rfl⟩:=r;rfl
 | ref _=>cases r;rfl
 | ty _=>cases r;rfl
theorem RelV.inj {x y:V} {u:Value} (r:RelV x u) (q:RelV y u):x=y:=Option.some.inj (r.abs.symm.trans q.abs)
theorem Vals.inj:∀{xs ys:List V} {us:List Value},Vals xs us→Vals ys us→xs=ys
 | _,_,_,.nil,.nil=>rfl
 | _,_,_,.cons r t,.cons r' t'=>by rw [r.inj r',Vals.inj t t']
section
variable {X:Cx} {pins:List (Addr×Obj)} {σ:St} {H:Hp} {s:Shared} {a:Addr} {xs ys:List V}
theorem SqL.of {K:PySem.W.Frag} (h:H a=some (.lst xs)):SqL K H a xs:=.inl (.inl h)
theorem SqT.of {K:PySem.W.Frag} (h:H a=some (.tup xs)):SqT K H a xs:=.inl (.inl h)
theorem Inv.list (I:Inv X pins σ H s) (h:SqL X.K H a xs):∃its:List Value,Vals xs its∧PlainL s.heap a its.toArray∧xs.length≤sizeLine:=by
 rcases h with h | ⟨o,its,n,hk,hc,hd,hs,hz,r⟩
 ·obtain⟨z,its,n,r,e⟩:=h.ok I.hok
  exact⟨its,r,⟨_,n,e,rfl,rfl,rfl⟩,z⟩
 ·refine⟨its.toList,r,⟨o,n,I.kIn a o hk,hc,hd,by simpa using hs⟩,?_⟩
  have e:=r.length
  simp only [Array.length_toList] at e
  omega
theorem Inv.tuple (I:Inv X pins σ H s) (h:SqT X.K H a xs):∃its:List Value,Vals xs its∧IsTup s.heap a its.toArray∧xs.length≤sizeLine:=by
 rcases h with h | ⟨o,its,n,hk,hc,hs,hz,r⟩
 ·obtain⟨z,its,r,p⟩:=h.ok I.hok
  exact⟨its,r,p,z⟩
 ·refine⟨its.toList,r,⟨o,I.kIn a o hk,hc,n,by simpa using hs⟩,?_⟩
  have e:=r.length
  simp only [Array.length_toList] at e
  omega
theorem Inv.list_inj (I:Inv X pins σ H s) (h:SqL X.K H a xs) (h':SqL X.K H a ys):xs=ys:=by
 obtain⟨its,r,⟨o,n,e,_,_,d⟩,_⟩:=I.list h
 obtain⟨its',r',⟨o',n',e',_,_,d'⟩,_⟩:=I.list h'
 rw [e] at e';cases e'
 rw [d] at d'
 injection d' with d1 _
 have:its=its':=by simpa using congrArg Array.toList d1
 subst this
 exact r.inj r'
theorem Inv.tuple_inj (I:Inv X pins σ H s) (h:SqT X.K H a xs) (h':SqT X.K H a ys):xs=ys:=by
 obtain⟨its,r,⟨o,e,_,n,d⟩,_⟩:=I.tuple h
 obtain⟨its',r',⟨o',e',_,n',d'⟩,_⟩:=I.tuple h'
 rw [e] at e';cases e'
 rw [d] at d'
 injection d' with d1 _
 have:its=its':=by simpa using congrArg Array.toList d1
 subst this
 exact r.inj r'
end
abbrev Cx.wish (X:Cx) (E:Value→Shared→Prop):Cx:={ X with xe:=E }
abbrev Cx.nox (X:Cx):Cx:=X.wish fun _ _=>False
theorem Cx.Ok.wish {X:Cx} (ok:X.Ok) (E:Value→Shared→Prop):(X.wish E).Ok:=
 ⟨ok.mod,ok.kind,ok.glob,ok.blt,ok.above,ok.inj,ok.has,ok.cab,ok.hd,ok.frames,ok.stk,ok.exf,ok.bs,ok.bsz,ok.noex,ok.exfs,ok.funs,ok.frf⟩
theorem Cx.Ok.unwish {X:Cx} {E:Value→Shared→Prop} (ok:(X.wish E).Ok):X.Ok:=
 ⟨ok.mod,ok.kind,ok.glob,ok.blt,ok.above,ok.inj,ok.has,ok.cab,ok.hd,ok.frames,ok.stk,ok.exf,ok.bs,ok.bsz,ok.noex,ok.exfs,ok.funs,ok.frf⟩
section
variable {X:Cx} {pins:List (Addr×Obj)} {σ:St} {H:Hp} {s:Shared} {E:Value→Shared→Prop}
theorem Inv.wish (I:Inv X pins σ H s) (E:Value→Shared→Prop):Inv (X.wish E) pins σ H s:=⟨I.ok.wish E,I.os,I.bare,I.base,I.loc,I.cell,I.free,I.freeC,I.pin,I.hok,I.len⟩
theorem Inv.unwish (I:Inv (X.wish E) pins σ H s):Inv X pins σ H s:=⟨I.ok.unwish,I.os,I.bare,I.base,I.loc,I.cell,I.free,I.freeC,I.pin,I.hok,I.len⟩
theorem SP.unwish {D:Ends} {f:Flow} {s':Shared} (h:SP (X.wish E) pins D f s'):SP X pins D f s':=by
 cases f with
 | next=>obtain⟨σ',H',I,q⟩:=h;exact⟨σ',H',I.unwish,q⟩
 | brk=>obtain⟨σ',H',I,q⟩:=h;exact⟨σ',H',I.unwish,q⟩
 | cont=>obtain⟨σ',H',I,q⟩:=h;exact⟨σ',H',I.unwish,q⟩
 | ret u=>obtain⟨v,σ',H',I,r,q⟩:=h;exact⟨v,σ',H',I.unwish,r,q⟩
theorem PSs.nox {st:List Stmt} {t:TS} (h:PSs X.nox st t):PSs X st t:=fun pins s σ H D I hw=>
 wpAny_mono (h pins s σ H D (I.wish _) hw) (fun _ _ q=>q.unwish) fun _ _ z=>False.elim z
end
section
variable {X:Cx} {st:Stmt} {rest:List Stmt} {t u:TS} {e:Expr} {te:TE} {pos:Pos}
def tNext:TS:=fun D σ H=>D.nx σ H
def zc (t u:TS):TS:=fun D σ H=>t { D with nx:=u D } σ H
theorem bD:PSs X [] tNext:=fun _ _ σ H _ I h=>wpAny_execs_nil ⟨σ,H,I,h⟩
theorem au (h1:PS X st t) (h2:PSs X rest u):PSs X (st:: rest) (zc t u):=by
 intro pins s σ H D I h
 refine wpAny_execs_cons (thn (h1 pins s σ H { D with nx:=u D } I h) fun f s1 q=>?_)
 cases f with
 | next=>
  obtain⟨σ',H',I',q⟩:=q
  exact h2 pins s1 σ' H' D I' q
 | ret v=>exact q
 | brk=>exact q
 | cont=>exact q
theorem aB (h1:PS X st t):PSs X [st] t:=by
 intro pins s σ H D I h
 refine wpAny_execs_cons (thn (h1 pins s σ H D I h) fun f s1 q=>?_)
 cases f with
 | next=>exact wpAny_execs_nil q
 | ret v=>exact q
 | brk=>exact q
 | cont=>exact q
theorem Inv.quiet {pins:List (Addr×Obj)} {σ:St} {H:Hp} {s:Shared} (I:Inv X pins σ H s):interactive X.env=false:=by simp [interactive,I.ok.kind]
def tDrop (te:TE):TS:=fun D σ H=>te σ H fun _ H1=>D.nx σ H1
theorem bH (he:PE X e te) (hs:swapsWith e none pos.line X.env=pure false:=by rfl):PS X (.Expr e pos) (tDrop te):=by
 intro pins s σ H D I h
 exact wpAny_Expr_any (thn (he pins s σ H _ I h) fun v s1 ⟨x,H1,I1,r1,q1⟩=>⟨σ,H1,I1,q1⟩) I.quiet hs
def tRet (te:TE):TS:=fun D σ H=>te σ H D.rt
theorem aY (he:PE X e te):PS X (.Return (some e) pos) (tRet te):=by
 intro pins s σ H D I h
 exact wpAny_Return_some (thn (he pins s σ H _ I h) fun v s1 ⟨x,H1,I1,r1,q1⟩=>⟨x,σ,H1,I1,r1,q1⟩)
def tIfS (c:TT) (t u:TS):TS:=fun D σ H=>c σ H fun b H1=>if b=true then t D σ H1 else u D σ H1
theorem bT {c:Expr} {a b:List Stmt} {tc:TT} (hc:PT X c tc) (ha:PSs X a t) (hb:PSs X b u):PS X (.If c a b pos) (tIfS tc t u):=by
 intro pins s σ H D I h
 refine wpAny_If (thn (hc pins s σ H _ I h) fun d s1 hpt=>?_)
 obtain⟨H1,I1,q1⟩:=hpt
 cases d with
 | true=>exact ha pins s1 σ H1 D I1 q1
 | false=>exact hb pins s1 σ H1 D I1 q1
def tNever:TS:=fun _ _ _=>False
theorem eE:PS X st tNever:=fun _ _ _ _ _ _ h=>h.elim
end
abbrev TG:=V→St→Hp→(St→Hp→Prop)→Prop
abbrev TGs:=List V→St→Hp→(St→Hp→Prop)→Prop
def PG (X:Cx) (target:Expr) (t:TG):Prop:=
 ∀(pins:List (Addr×Obj)) (s:Shared) (σ:St) (H:Hp) (v:V) (u:Value) (Q:St→Hp→Prop),Inv X pins σ H s→RelV v u→t v σ H Q→
  wpAny (model X.prog X.w) X.A (assign target X.env u) (fun _ s'=>∃σ' H',Inv X pins σ' H' s'∧Q σ' H') X.xe s
def PGs (X:Cx) (ts:List Expr) (t:TGs):Prop:=
 ∀(pins:List (Addr×Obj)) (s:Shared) (σ:St) (H:Hp) (vs:List V) (us:List Value) (Q:St→Hp→Prop),Inv X pins σ H s→Vals vs us→t vs σ H Q→
  wpAny (model X.prog X.w) X.A (assignInOrder ((assignEach ts X.env).map (·.2)) us) (fun _ s'=>∃σ' H',Inv X pins σ' H' s'∧Q σ' H') X.xe s
abbrev TSet:=V→V→V→Hp→(Hp→Prop)→Prop
def PSet (X:Cx) (t:TSet):Prop:=
 ∀(pins:List (Addr×Obj)) (s:Shared) (σ:St) (H:Hp) (o i v:V) (ov iv u:Value) (Q:Hp→Prop),Inv X pins σ H s→RelV o ov→RelV i iv→RelV v u→t o i v H Q→
  wpAny (model X.prog X.w) X.A (setItem ov iv u) (fun _ s'=>∃H',Inv X pins σ H' s'∧Q H') X.xe s
section
variable {X:Cx} {pos:Pos}
def gName (i:Nat):TG:=fun v σ H Q=>Q (σ.set i (some v)) H
theorem bU {i:Nat} {x:Str} (hN:X.N.Nodup) (hi:X.N[i]?=some x) (hx:Loc X.env.scope x) (hf:X.fn x=true∨X.env.scope.names.lookup x=some .local:=by first | exact .inl rfl | exact .inr rfl | assumption):PG X (.Name x pos) (gName i):=by
 intro pins s σ H v u Q I r h
 exact wpAny_assign_Name (Ak I hN hi hx r (fun s' I'=>⟨_,H,I',h⟩) hf)
def gNil:TGs:=fun vs σ H Q=>vs=[]∧Q σ H
def gCons (t:TG) (u:TGs):TGs:=fun vs σ H Q=>∃v r,vs=v:: r∧t v σ H fun σ' H'=>u r σ' H' Q
theorem Aa:PGs X [] gNil:=by
 intro pins s σ H vs us Q I r h
 obtain⟨e,h⟩:=h
 subst e
 cases r
 exact assignInOrder_nil ⟨σ,H,I,h⟩
theorem gh {e:Expr} {es:List Expr} {t:TG} {u:TGs} (h1:PG X e t) (h2:PGs X es u)
  (hs:(assignEach (e:: es) X.env).map (·.2)=assign e X.env:: (assignEach es X.env).map (·.2):=by rfl):PGs X (e:: es) (gCons t u):=by
 intro pins s σ H vs us Q I r h
 obtain⟨v,vr,e1,h⟩:=h
 subst e1
 cases r with
 | cons r rr=>
  rw [hs]
  refine assignInOrder_cons (thn (h1 pins s σ H _ _ _ I r h) fun _ s1 hpt=>?_)
  obtain⟨σ1,H1,I1,q1⟩:=hpt
  exact h2 pins s1 σ1 H1 _ _ Q I1 rr q1
def gTup (K:PySem.W.Frag) (n:Nat) (t:TGs):TG:=fun v σ H Q=>∃a xs,v=.ref a∧SqT K H a xs∧xs.length=n∧t xs σ H Q
theorem pg_tup {es:List Expr} {k:Nat} {t:TGs} {n:Nat} (hc:X.calm=true) (h:PGs X es t)
  (hn:(assignEach es X.env).length=n:=by rfl) (hst:(assignEach es X.env).findIdx? (·.1)=none:=by rfl):PG X (.Tuple es k pos) (gTup X.K n t):=by
 intro pins s σ H v u Q I r hw
 obtain⟨a,xs,e1,hq,hl,hw⟩:=hw
 subst e1
 cases r
 obtain⟨its,rv,ht,hz⟩:=I.tuple hq
 refine assign_Tuple_tuple (I.ok.hd hc) ht (by simp [hn,←hl,rv.length]) hst fun h' hx=>?_
 have I1:Inv X pins σ H { s with heap:=h' }:=I.kept (t':=s.toks) fun b o e=>hx b o (Nat.ne_of_lt (Heap.lt_size e)) e
 exact h pins _ σ H xs _ Q I1 (by simpa using rv) hw
def gSub (to ti:TE) (t:TSet):TG:=fun v σ H Q=>to σ H fun o H1=>ti σ H1 fun i H2=>t o i v H2 fun H3=>Q σ H3
theorem pg_sub {o i:Expr} {to ti:TE} {t:TSet} (ho:PE X o to) (hi:PE X i ti) (hs:PSet X t)
  (ha:∀v,assign (.Subscript o i pos) X.env v=(do
   let ov ←holding [v] (eval o X.env)
   let iv ←holding [v,ov] (eval i X.env)
   standAt pos
   holding [v,ov,iv] (setItem ov iv v)
   release [v,ov,iv] []):=by intro _;rfl):PG X (.Subscript o i pos) (gSub to ti t):=by
 intro pins s σ H v u Q I r h
 rw [ha]
 refine wpAny_bind (wpAny_holding (thn (ho pins s σ H _ I h) fun ov s1 hpt=>?_))
 obtain⟨x,H1,I1,r1,q1⟩:=hpt
 refine wpAny_bind (wpAny_holding (thn (hi pins s1 σ H1 _ I1 q1) fun iv s2 hpt=>?_))
 obtain⟨y,H2,I2,r2,q2⟩:=hpt
 refine wpAny_bind (wpAny_standAt (wpAny_bind (wpAny_holding (thn (hs pins s2 σ H2 x y v ov iv u _ I2 r1 r2 r q2) fun _ s3 hpt=>?_))))
 obtain⟨H3,I3,q3⟩:=hpt
 exact wpAny_release ⟨σ,H3,I3,q3⟩
def tAsg (te:TE) (g:TG):TS:=fun D σ H=>te σ H fun x H1=>g x σ H1 D.nx
theorem ps_asg {tg e:Expr} {te:TE} {g:TG} (he:PE X e te) (hg:PG X tg g) (hs:swapsWithSole [tg] e pos.line X.env=pure false:=by rfl) (hw:swappedStores [tg] e X.env=pure none:=by rfl)
  (h1:(assignEach [tg] X.env).map (·.2)=[assign tg X.env]:=by rfl):PS X (.Assign [tg] e pos) (tAsg te g):=by
 intro pins s σ H D I h
 refine wpAny_Assign_stores (thn (he pins s σ H _ I h) fun v s1 hpt=>?_) hs hw
 obtain⟨x,H1,I1,r1,q1⟩:=hpt
 rw [h1]
 exact thn (hg pins s1 σ H1 x v _ I1 r1 q1) fun _ s2 q=>q
theorem aZ {i:Nat} {x:Str} {e:Expr} {te:TE} {pos':Pos} (hN:X.N.Nodup) (hi:X.N[i]?=some x) (hx:Loc X.env.scope x) (he:PE X e te) (hs:swapsWith e (some (.Name x pos')) pos.line X.env=pure false:=by rfl) (hf:X.fn x=true∨X.env.scope.names.lookup x=some .local:=by first | exact .inl rfl | exact .inr rfl | assumption):
  PS X (.Assign [.Name x pos'] e pos) (tAsg te (gName i)):=by
 intro pins s σ H D I h
 refine wpAny_Assign_Name (thn (he pins s σ H _ I h) fun v s1 hpt=>?_) hs
 obtain⟨y,H1,I1,r1,q1⟩:=hpt
 exact Ak I1 hN hi hx r1 (fun s2 I2=>⟨_,H1,I2,q1⟩) hf
end
section
variable {X:Cx} {pos:Pos}
def tWhile (c:TT) (tb:TS):TS:=fun D σ H=>∃W:Nat→St→Hp→Prop,(∃m,W m σ H)∧∀m σ H,W m σ H→
 c σ H fun b H1=>if b=true then ∃N:St→Hp→Prop,(∀σ' H',N σ' H'→∃m',m' <m∧W m' σ' H')∧tb { D with nx:=N,ct:=N,bk:=D.nx } σ H1 else D.nx σ H1
theorem rR {c:Expr} {body:List Stmt} {tc:TT} {tb:TS} (hp:PassesOwn (model X.prog X.w) X.A X.env X.xe) (hc:PT X c tc) (hb:PSs X body tb):PS X (.While c body [] pos) (tWhile tc tb):=by
 intro pins s σ H D I h
 obtain⟨W,⟨m0,w0⟩,turn⟩:=h
 refine wpAny_While (codeAny_whileLoop (fun n s'=>∃σ' H',Inv X pins σ' H' s'∧W n σ' H') ?_ m0 ⟨σ,H,I,w0⟩)
 rintro n s1 ⟨σ1,H1,I1,w1⟩
 refine wpAny_passesOwn hp (thn (hc pins s1 σ1 H1 _ I1 (turn n σ1 H1 w1)) fun b s2 hpt=>?_)
 obtain⟨H2,I2,q2⟩:=hpt
 cases b with
 | true=>
  obtain⟨N,hN,q2⟩:=q2
  rw [if_pos rfl]
  refine wpAny_passesOwn hp (thn (hb pins s2 σ1 H2 _ I2 q2) fun f s3 q3=>?_)
  cases f with
  | next=>
   obtain⟨σ3,H3,I3,n3⟩:=q3
   obtain⟨m',hm,w3⟩:=hN σ3 H3 n3
   exact⟨m',hm,σ3,H3,I3,w3⟩
  | cont=>
   obtain⟨σ3,H3,I3,n3⟩:=q3
   obtain⟨m',hm,w3⟩:=hN σ3 H3 n3
   exact⟨m',hm,σ3,H3,I3,w3⟩
  | brk=>exact q3
  | ret v=>exact q3
 | false=>
  rw [if_neg Bool.false_ne_true]
  exact wpAny_execs_nil ⟨σ1,H2,I2,q2⟩
end
structure It where
 go:Nat→Hp→Prop
 yld:Nat→Hp→V→Hp→Prop
 stop:Nat→Hp→Prop
def FpOk (X:Cx) (pins:List (Addr×Obj)) (H:Hp) (b:Addr):Prop:=
 H b=none∧b≠X.env.locals∧b∉X.fs∧(b∈X.ex∨X.s₀.heap.objs.size≤b)∧(∀x c,X.env.cells.lookup x=some c→c≠b)∧∀p∈X.pn ++ pins,p.1≠b
theorem Inv.fpOk {X:Cx} {pins:List (Addr×Obj)} {σ:St} {H H':Hp} {s:Shared} {b:Addr} (I:Inv X pins σ H s) (hb:s.heap.objs.size≤b) (hn:H' b=none):FpOk X pins H' b:=by
 refine⟨hn,Nat.ne_of_gt (Nat.lt_of_lt_of_le I.lt hb),I.nofs hb,.inr (Nat.le_trans I.sz hb),fun x c e z=>?_,fun p hp z=>?_⟩
 ·obtain⟨v,q⟩:=I.cell x c e
  exact absurd (Nat.lt_of_lt_of_le q.lt (by rw [z];exact hb)) (Nat.lt_irrefl _)
 ·exact absurd (Nat.lt_of_lt_of_le (Heap.lt_size (I.pin p hp).1) (by rw [z];exact hb)) (Nat.lt_irrefl _)
structure Turn (P:Program) (w:World) (K:PySem.W.Frag) (tg:Expr) (J:It) (fp:List Addr) (it:Addr) (tn:Nat→Heap→Prop):Prop where
 mem:it∈fp
 obj:∀i h,tn i h→∀b∈fp,∃o,h.get? b=some o∧∀v,o.data≠.cell v
 keep:∀i h h',tn i h→(∀b∈fp,∀o,h.get? b=some o→h'.get? b=some o)→tn i h'
 item:∀(X:Cx),X.prog=P→X.w=w→X.K=K→X.calm=true→∀(i:Nat) (pins:List (Addr×Obj)) (s:Shared) (σ:St) (H:Hp) (E:Value→Shared→Prop),Inv X pins σ H s→(∀b∈fp,FpOk X pins H b)→tn i s.heap→J.go i H→
  wpAny (model P w) X.A (pyNext (.ref it)) (fun r s1=>∃u,r=some u∧
   wpAny (model P w) X.A (letOwnedTupleGo tg (.ref it) u) (fun _ s2=>∃x H',Inv X pins σ H' s2∧RelV x u∧J.yld i H x H'∧tn (i+1) s2.heap∧∀b∈fp,H' b=none) E s1) E s
 done:∀(X:Cx),X.prog=P→X.w=w→X.K=K→X.calm=true→∀(i:Nat) (pins:List (Addr×Obj)) (s:Shared) (σ:St) (H:Hp) (E:Value→Shared→Prop),Inv X pins σ H s→(∀b∈fp,FpOk X pins H b)→tn i s.heap→J.stop i H→
  wpAny (model P w) X.A (pyNext (.ref it)) (fun r s1=>r=none∧Inv X pins σ H s1) E s
 self:∀(A:Around) (i:Nat) (s:Shared) (Q:Value→Shared→Prop) (E:Value→Shared→Prop),tn i s.heap→Q (.ref it) s→wpAny (model P w) A (pyIter (.ref it)) Q E s
abbrev TI:=St→Hp→(It→Hp→Prop)→Prop
def PIE (X:Cx) (pins:List (Addr×Obj)) (σ:St) (tg:Expr) (R:It→Hp→Prop) (itv:Value) (s2:Shared):Prop:=
 ∃(it:Addr) (fp:List Addr) (tn:Nat→Heap→Prop) (J:It) (H':Hp),itv=.ref it∧Inv X pins σ H' s2∧Turn X.prog X.w X.K tg J fp it tn∧tn 0 s2.heap∧(∀b∈fp,FpOk X pins H' b)∧R J H'
def PI (X:Cx) (tg iter:Expr) (wi:TI):Prop:=
 ∀(pins:List (Addr×Obj)) (s:Shared) (σ:St) (H:Hp) (R:It→Hp→Prop),Inv X pins σ H s→wi σ H R→
  wpAny (model X.prog X.w) X.A (eval iter X.env) (fun v s1=>wpAny (model X.prog X.w) X.A (pyIter v) (PIE X pins σ tg R) X.xe s1) X.xe s
theorem go_of {M:Model} {A:Around} {E:Value→Shared→Prop} {s:Shared} {tg:Expr} {it:Addr} {u:Value} {o:Obj} {n:String} {vs:Array Value} {Q:Unit→Shared→Prop} (ho:s.heap.get? it=some o) (hc:o.cls=.type n) (hd:o.data=.fields vs)
  (hn:["enumerate", "zip", "dict_itemiterator", "dict_reverseitemiterator", "odict_iterator", "itertools.zip_longest", "itertools.pairwise"].contains n=false) (hQ:Q () s):wpAny M A (letOwnedTupleGo tg (.ref it) u) Q E s:=by
 unfold letOwnedTupleGo
 cases tg <;> first
  | exact wpAny_pure hQ
  | (cases u <;> first
    | exact wpAny_pure hQ
    | (refine wpAny_bind (wpAny_load ho ?_)
       rw [hc,hd]
       show wpAny M A (if (["enumerate", "zip", "dict_itemiterator", "dict_reverseitemiterator", "odict_iterator", "itertools.zip_longest", "itertools.pairwise"].contains n && vs[0]? == some (rawInt _))=true then _ else _) Q E s
       rw [if_neg (by intro h;rw [hn,Bool.false_and] at h;cases h)]
       exact wpAny_pure hQ))
def Itl (K:PySem.W.Frag) (a:Addr):It:=
 ⟨fun i H=>∃xs x,SqL K H a xs∧xs[i]?=some x,fun i H x H'=>H'=H∧∀xs,SqL K H a xs→xs[i]?=some x,fun i H=>∃xs,SqL K H a xs∧xs.length≤i⟩
def Itt (K:PySem.W.Frag) (a:Addr):It:=
 ⟨fun i H=>∃xs x,SqT K H a xs∧xs[i]?=some x,fun i H x H'=>H'=H∧∀xs,SqT K H a xs→xs[i]?=some x,fun i H=>∃xs,SqT K H a xs∧xs.length≤i⟩
def Itr (lo:Int) (n:Nat):It:=⟨fun i _=>i <n,fun i H x H'=>H'=H∧x=.int (lo+i),fun i _=>n≤i⟩
theorem turn_list {P:Program} {w:World} {K:PySem.W.Frag} {tg:Expr} (a it:Addr):Turn P w K tg (Itl K a) [it] it (fun i h=>h.IsListIter it a i) where
 mem:=by simp
 obj:=fun i h st b hb=>by
  have e:b=it:=by simpa using hb
  subst e
  obtain⟨o,e,c,d⟩:=st
  exact⟨o,e,fun v z=>by rw [d] at z;cases z⟩
 keep:=fun i h h' st k=>st.at fun o e=>k it (by simp) o e
 item:=by
  intro X hP hw hK hc i pins s σ H E I hf st hg
  subst hP hw hK
  obtain⟨xs,x,hq,hx⟩:=hg
  obtain⟨its,rv,p,hz⟩:=I.list hq
  obtain⟨u,hu,ru⟩:=rv.get hx
  obtain⟨f0,f1,f2,f3,f4,f5⟩:=hf it (by simp)
  refine wpAny_pyNext_list_item st p.isList (x:=u) (by simpa using hu) fun h' st' sb=>?_
  have I1:Inv X pins σ H { s with heap:=h' }:=I.turned (t':=s.toks) (fun b o hb e=>(sb.2 b hb).trans e) f0 f1 f3 f4 f5
  obtain⟨o,e,c,d⟩:=id st'
  exact⟨u,rfl,go_of (s:={ s with heap:=h' }) e c d (by decide) ⟨x,H,I1,ru,⟨rfl,fun ys hy=>by rw [I.list_inj hy hq];exact hx⟩,st',fun b hb=>(hf b hb).1⟩⟩
 done:=by
  intro X hP hw hK hc i pins s σ H E I hf st hg
  subst hP hw hK
  obtain⟨xs,hq,hx⟩:=hg
  obtain⟨its,rv,p,hz⟩:=I.list hq
  obtain⟨f0,f1,f2,f3,f4,f5⟩:=hf it (by simp)
  have hl:=rv.length
  exact wpAny_pyNext_list_end (I.ok.hd hc) st p.isList (by simp;omega) fun h' eb=>⟨rfl,I.turned (t':=s.toks) (fun b o hb e=>eb b o hb e) f0 f1 f3 f4 f5⟩
 self:=fun _ _ _ _ _ st h=>wpAny_pyIter_listiter st h
theorem turn_tuple {P:Program} {w:World} {K:PySem.W.Frag} {tg:Expr} (a it:Addr):Turn P w K tg (Itt K a) [it] it (fun i h=>h.IsTupleIter it a i) where
 mem:=by simp
 obj:=fun i h st b hb=>by
  have e:b=it:=by simpa using hb
  subst e
  obtain⟨o,e,c,d⟩:=st
  exact⟨o,e,fun v z=>by rw [d] at z;cases z⟩
 keep:=fun i h h' st k=>st.at fun o e=>k it (by simp) o e
 item:=by
  intro X hP hw hK hc i pins s σ H E I hf st hg
  subst hP hw hK
  obtain⟨xs,x,hq,hx⟩:=hg
  obtain⟨its,rv,p,hz⟩:=I.tuple hq
  obtain⟨u,hu,ru⟩:=rv.get hx
  obtain⟨f0,f1,f2,f3,f4,f5⟩:=hf it (by simp)
  refine wpAny_pyNext_tuple_item st (show s.heap.IsTuple a its.toArray from p) (x:=u) (by simpa using hu) fun h' st' sb=>?_
  have I1:Inv X pins σ H { s with heap:=h' }:=I.turned (t':=s.toks) (fun b o hb e=>(sb.2 b hb).trans e) f0 f1 f3 f4 f5
  obtain⟨o,e,c,d⟩:=id st'
  exact⟨u,rfl,go_of (s:={ s with heap:=h' }) e c d (by decide) ⟨x,H,I1,ru,⟨rfl,fun ys hy=>by rw [I.tuple_inj hy hq];exact hx⟩,st',fun b hb=>(hf b hb).1⟩⟩
 done:=by
  intro X hP hw hK hc i pins s σ H E I hf st hg
  subst hP hw hK
  obtain⟨xs,hq,hx⟩:=hg
  obtain⟨its,rv,p,hz⟩:=I.tuple hq
  obtain⟨f0,f1,f2,f3,f4,f5⟩:=hf it (by simp)
  have hl:=rv.length
  exact wpAny_pyNext_tuple_end (I.ok.hd hc) st (show s.heap.IsTuple a its.toArray from p) (by simp;omega) fun h' eb=>⟨rfl,I.turned (t':=s.toks) (fun b o hb e=>eb b o hb e) f0 f1 f3 f4 f5⟩
 self:=fun _ _ _ _ _ st h=>wpAny_pyIter_tupleiter st h
theorem turn_range {P:Program} {w:World} {K:PySem.W.Frag} {tg:Expr} (it:Addr) (lo:Int) (n:Nat):Turn P w K tg (Itr lo n) [it] it (fun i h=>IsRangeIter h it (lo+(i:Nat) * 1) ((n:Int) - (i:Nat)) 1) where
 mem:=by simp
 obj:=fun i h st b hb=>by
  have e:b=it:=by simpa using hb
  subst e
  exact⟨_,st,fun v z=>by
   have z':Data.fields _=Data.cell v:=z
   cases z'⟩
 keep:=fun i h h' st k=>k it (by simp) _ st
 item:=by
  intro X hP hw hK hc i pins s σ H E I hf st hg
  subst hP hw hK
  obtain⟨f0,f1,f2,f3,f4,f5⟩:=hf it (by simp)
  have W:=Walks.range (prog:=X.prog) (w:=X.w) (I.ok.hd hc) it lo 1 n
  refine W.item i s _ _ hg st fun v h' tk hv st' kk=>?_
  obtain⟨t,rfl⟩:=hv
  have I1:Inv X pins σ H { s with heap:=h',toks:=tk }:=I.turned (fun b o hb e=>kk b o (by simpa using hb) e) f0 f1 f3 f4 f5
  refine⟨_,rfl,go_of (s:={ s with heap:=h',toks:=tk }) (n:= "range_iterator") st' rfl rfl (by decide) ⟨.int (lo+i),H,I1,⟨t,?_⟩,⟨rfl,rfl⟩,st',fun b hb=>(hf b hb).1⟩⟩
  rw [Int.mul_one]
 done:=by
  intro X hP hw hK hc i pins s σ H E I hf st hg
  subst hP hw hK
  obtain⟨f0,f1,f2,f3,f4,f5⟩:=hf it (by simp)
  exact wpAny_pyNext_range_end (I.ok.hd hc) st (by have:n≤i:=hg;omega) fun h' eb=>⟨rfl,I.turned (t':=s.toks) (fun b o hb e=>eb b o hb e) f0 f1 f3 f4 f5⟩
 self:=fun _ _ _ _ _ st h=>wpAny_pyIter_rangeiter st h
end L2
namespace L2
open PySem PySem.Spec PyProof.Rows
section
variable {X:Cx} {tg:Expr}
def iList (K:PySem.W.Frag) (tl:TE):TI:=fun σ H R=>tl σ H fun x H1=>∃a,x=.ref a∧(∃xs,SqL K H1 a xs)∧R (Itl K a) H1
def iTup (K:PySem.W.Frag) (tl:TE):TI:=fun σ H R=>tl σ H fun x H1=>∃a,x=.ref a∧(∃xs,SqT K H1 a xs)∧R (Itt K a) H1
theorem dg {l:Expr} {tl:TE} (hl:PE X l tl):PI X tg l (iList X.K tl):=by
 intro pins s σ H R I h
 refine thn (hl pins s σ H _ I h) fun v s1 hpt=>?_
 obtain⟨x,H1,I1,r1,q1⟩:=hpt
 obtain⟨a,e,⟨xs,hq⟩,q⟩:=q1
 subst e
 cases r1
 obtain⟨its,rv,p,hz⟩:=I1.list hq
 refine wpAny_pyIter_list p.isList ?_
 refine⟨s1.heap.objs.size,[s1.heap.objs.size],_,_,H1,rfl,I1.kept (t':=s1.toks) fun b o e=>Heap.get?_push_of_some _ e,turn_list a _,⟨_,Heap.get?_push_size _ rfl,rfl,rfl⟩,fun b hb=>?_,q⟩
 have e:b=s1.heap.objs.size:=by simpa using hb
 subst e
 exact I1.fpOk (Nat.le_refl _) (I1.hok.fresh (Nat.le_refl _))
theorem pi_tup {l:Expr} {tl:TE} (hl:PE X l tl):PI X tg l (iTup X.K tl):=by
 intro pins s σ H R I h
 refine thn (hl pins s σ H _ I h) fun v s1 hpt=>?_
 obtain⟨x,H1,I1,r1,q1⟩:=hpt
 obtain⟨a,e,⟨xs,hq⟩,q⟩:=q1
 subst e
 cases r1
 obtain⟨its,rv,p,hz⟩:=I1.tuple hq
 refine wpAny_pyIter_tuple (show s1.heap.IsTuple a its.toArray from p) ?_
 refine⟨s1.heap.objs.size,[s1.heap.objs.size],_,_,H1,rfl,I1.kept (t':=s1.toks) fun b o e=>Heap.get?_push_of_some _ e,turn_tuple a _,⟨_,Heap.get?_push_size _ rfl,rfl,rfl⟩,fun b hb=>?_,q⟩
 have e:b=s1.heap.objs.size:=by simpa using hb
 subst e
 exact I1.fpOk (Nat.le_refl _) (I1.hok.fresh (Nat.le_refl _))
theorem range_it {pins:List (Addr×Obj)} {σ:St} {H:Hp} {s:Shared} {R:It→Hp→Prop} {E:Value→Shared→Prop} {lo hi:Int} {t u v:Tok} {tk:Nat} (I:Inv X pins σ H s) (h1: -(2 ^ 62)≤lo) (h2:lo <2 ^ 62) (h3: -(2 ^ 62)≤hi) (h4:hi <2 ^ 62)
  (q:R (Itr lo (hi - lo).toNat) H):wpAny (model X.prog X.w) X.A (pyIter (.ref s.heap.objs.size)) (PIE X pins σ tg R) E { s with heap:=s.heap.push { cls:=.type "range",data:=.fields #[.int lo t,.int hi u,.int 1 v] },toks:=tk }:=by
 refine wpAny_pyIter_range (IsRange.new ..) (small_one h1 h2 h3 h4) ?_
 have I1:Inv X pins σ H { s with heap:=s.heap.push { cls:=.type "range",data:=.fields #[.int lo t,.int hi u,.int 1 v] },toks:=tk }:=I.kept fun b o e=>Heap.get?_push_of_some _ e
 refine⟨(s.heap.push { cls:=.type "range",data:=.fields #[.int lo t,.int hi u,.int 1 v] }).objs.size,[(s.heap.push { cls:=.type "range",data:=.fields #[.int lo t,.int hi u,.int 1 v] }).objs.size],_,_,H,rfl,
  I1.kept (t':=tk) fun b o e=>Heap.get?_push_of_some _ e,turn_range _ lo (hi - lo).toNat,?_,fun b hb=>?_,q⟩
 ·have e1:lo+((0:Nat):Int) * 1=lo:=by simp
  have e2:(((hi - lo).toNat:Nat):Int) - ((0:Nat):Int)=Builtin.Range.rangeSize lo hi 1:=by rw [rangeSize_one];split <;> omega
  show IsRangeIter _ _ (lo+((0:Nat):Int) * 1) ((((hi - lo).toNat:Nat):Int) - ((0:Nat):Int)) 1
  rw [e1,e2]
  exact Heap.get?_push_size _ rfl
 ·have e:b=(s.heap.push { cls:=.type "range",data:=.fields #[.int lo t,.int hi u,.int 1 v] }).objs.size:=by simpa using hb
  subst e
  exact I1.fpOk (Nat.le_refl _) (I1.hok.fresh (Nat.le_refl _))
def iRng1 (ta:TA):TI:=fun σ H R=>ta σ H fun vs H1=>∃j:Int,vs=[.int j]∧ -(2 ^ 62)≤j∧j <2 ^ 62∧R (Itr 0 j.toNat) H1
def iRng2 (ta:TA):TI:=fun σ H R=>ta σ H fun vs H1=>∃i j:Int,vs=[.int i,.int j]∧(-(2 ^ 62)≤i∧i <2 ^ 62∧ -(2 ^ 62)≤j∧j <2 ^ 62)∧R (Itr i (j - i).toNat) H1
theorem gU {a:Expr} {ta:TA} {p pos:Pos} (hg:Gl X "range") (hm:X.mg "range" =none) (ha:PA X [a] ta) (hs:starEach [a] X.env=[(false,eval a X.env)]:=by rfl):PI X tg (.Call (.Name "range" p) [a] [] pos) (iRng1 ta):=by
 intro pins s σ H R I h
 refine Call_ (yX I hg hm boot_range (PyProof.Rows.callWith_type1 (thn (ha pos pins s σ H _ I h) fun us s1 ⟨vs,H1,I1,r1,q1⟩=>?_) hs rfl))
 obtain⟨j,e,q1,q2,q⟩:=q1
 subst e
 cases r1 with
 | cons r rr=>
  cases rr
  obtain⟨t,rfl⟩:=r
  exact call_range_1 (range_it I1 (by omega) (by omega) q1 q2 (by simpa using q))
theorem pi_range2 {a b:Expr} {ta:TA} {p pos:Pos} (hg:Gl X "range") (hm:X.mg "range" =none) (ha:PA X [a,b] ta) (hs:starEach [a,b] X.env=[(false,eval a X.env),(false,eval b X.env)]:=by rfl) (hs2:starEach [b] X.env=[(false,eval b X.env)]:=by rfl):
  PI X tg (.Call (.Name "range" p) [a,b] [] pos) (iRng2 ta):=by
 intro pins s σ H R I h
 refine Call_ (yX I hg hm boot_range (PyProof.Rows.callWith_type1 (thn (ha pos pins s σ H _ I h) fun us s1 ⟨vs,H1,I1,r1,q1⟩=>?_) (by rw [hs,hs2]) (by rw [hs2];rfl)))
 obtain⟨i,j,e,⟨q1,q2,q3,q4⟩,q⟩:=q1
 subst e
 cases r1 with
 | cons r rr=>
  cases rr with
  | cons r' rr=>
   cases rr
   obtain⟨t,rfl⟩:=r
   obtain⟨t',rfl⟩:=r'
   exact call_range_2 (range_it I1 q1 q2 q3 q4 q)
def tFor (wi:TI) (g:TG) (tb:TS):TS:=fun D σ H=>wi σ H fun J H1=>∃W:Nat→Nat→St→Hp→Prop,(∃m,W 0 m σ H1)∧∀i m σ H,W i m σ H→
 (J.stop i H∧D.nx σ H)∨(J.go i H∧∃N:St→Hp→Prop,(∀σ' H',N σ' H'→∃m',m' <m∧W (i+1) m' σ' H')∧∀x H',J.yld i H x H'→g x σ H' fun σ2 H2=>tb { D with nx:=N,ct:=N,bk:=D.nx } σ2 H2)
def Bq (fp:List Addr) (h:Heap):List (Addr×Obj):=fp.filterMap fun b=>(h.get? b).map fun o=>(b,o)
theorem ue {fp:List Addr} {h:Heap} {b:Addr} {o:Obj} (hb:b∈fp) (e:h.get? b=some o):(b,o)∈Bq fp h:=List.mem_filterMap.mpr ⟨b,hb,by rw [e];rfl⟩
theorem of_pinsAt {fp:List Addr} {h:Heap} {p:Addr×Obj} (hp:p∈Bq fp h):p.1∈fp∧h.get? p.1=some p.2:=by
 obtain⟨b,hb,e⟩:=List.mem_filterMap.mp hp
 cases q:h.get? b with
 | none=>rw [q] at e;cases e
 | some o=>
  rw [q] at e
  have e':(b,o)=p:=Option.some.inj e
  subst e'
  exact⟨hb,q⟩
theorem Inv.pinned {pins:List (Addr×Obj)} {σ:St} {H:Hp} {s:Shared} {fp:List Addr} (I:Inv X pins σ H s) (hf:∀b∈fp,FpOk X pins H b) (ho:∀b∈fp,∃o,s.heap.get? b=some o∧∀v,o.data≠.cell v):Inv X (pins ++ Bq fp s.heap) σ H s:=
 I.pins_of fun p hp=>(List.mem_append.mp hp).elim (fun z=>I.pin p (List.mem_append_right _ z)) fun z=>by
  obtain⟨hb,e⟩:=of_pinsAt z
  obtain⟨f0,f1,f2,_⟩:=hf p.1 hb
  obtain⟨o,e',d⟩:=ho p.1 hb
  rw [e] at e';cases e'
  exact⟨e,f0,f1,f2,d⟩
theorem Inv.unpinned {pins pl:List (Addr×Obj)} {σ:St} {H:Hp} {s:Shared} (I:Inv X (pins ++ pl) σ H s):Inv X pins σ H s:=I.pins_of fun p hp=>I.pin p (List.mem_append_right _ (List.mem_append_left _ hp))
theorem d9 {iter:Expr} {body:List Stmt} {wi:TI} {g:TG} {tb:TS} {pos:Pos} (hp:PassesOwn (model X.prog X.w) X.A X.env X.xe) (hc:X.calm=true) (hi:PI X tg iter wi) (hg:PG X tg g) (hb:PSs X body tb)
  (hs:∀x,foldedSetIterable iter X.env x=pure x:=by intro _;rfl):PS X (.For tg iter body [] pos) (tFor wi g tb):=by
 intro pins s σ H D I h
 refine wpAny_For (thn (hi pins s σ H _ I h) fun v s1 h1=>thn h1 fun itv s2 h2=>?_) hs
 obtain⟨it,fp,tn,J,H2,e,I2,T,st2,f2,W,⟨m0,w0⟩,turn⟩:=h2
 subst e
 have stat:∀{H':Hp},(∀b∈fp,H' b=none)→∀b∈fp,FpOk X pins H' b:=fun hn b hb=>⟨hn b hb,(f2 b hb).2⟩
 refine codeAny_forLoop_any (fun n s'=>∃i σ' H',Inv X pins σ' H' s'∧tn i s'.heap∧(∀b∈fp,H' b=none)∧W i n σ' H') ?_ m0 ⟨0,σ,H2,I2,st2,fun b hb=>(f2 b hb).1,w0⟩
 rintro n s3 ⟨i,σ3,H3,I3,st3,fr3,w3⟩
 rcases turn i n σ3 H3 w3 with ⟨stop,qn⟩ | ⟨go,N,hN,step⟩
 ·refine wpAny_passesOwn hp (thn (T.done X rfl rfl rfl hc i pins s3 σ3 H3 X.xe I3 (stat fr3) st3 stop) fun r s4 hpt=>?_)
  obtain⟨hr,I4⟩:=hpt
  subst hr
  exact wpAny_execs_nil ⟨σ3,H3,I4,qn⟩
 ·refine wpAny_passesOwn hp (thn (T.item X rfl rfl rfl hc i pins s3 σ3 H3 X.xe I3 (stat fr3) st3 go) fun r s4 hpt=>?_)
  obtain⟨u,hr,h4⟩:=hpt
  subst hr
  refine wpAny_passesOwn hp (thn h4 fun _ s5 hpt=>?_)
  obtain⟨x,H5,I5,r5,y5,st5,fr5⟩:=hpt
  have I5':=I5.pinned (stat fr5) (T.obj _ _ st5)
  refine wpAny_passesOwn hp (thn (hg _ s5 σ3 H5 x u _ I5' r5 (step x H5 y5)) fun _ s6 hpt=>?_)
  obtain⟨σ6,H6,I6,q6⟩:=hpt
  refine wpAny_passesOwn hp (thn (hb _ s6 σ6 H6 _ I6 q6) fun f s7 q7=>?_)
  have again:∀{σ7:St} {H7:Hp},Inv X (pins ++ Bq fp s5.heap) σ7 H7 s7→N σ7 H7→∃m,m <n∧∃i σ' H',Inv X pins σ' H' s7∧tn i s7.heap∧(∀b∈fp,H' b=none)∧W i m σ' H':=fun {σ7 H7} I7 n7=>by
   obtain⟨m',hm,w7⟩:=hN σ7 H7 n7
   refine⟨m',hm,i+1,σ7,H7,I7.unpinned,T.keep _ _ _ st5 fun b hb o e=>(I7.pin (b,o) (List.mem_append_right _ (List.mem_append_right _ (ue hb e)))).1,fun b hb=>?_,w7⟩
   obtain⟨o,e,d⟩:=T.obj _ _ st5 b hb
   exact(I7.pin (b,o) (List.mem_append_right _ (List.mem_append_right _ (ue hb e)))).2.1
  cases f with
  | next=>obtain⟨σ7,H7,I7,n7⟩:=q7;exact again I7 n7
  | cont=>obtain⟨σ7,H7,I7,n7⟩:=q7;exact again I7 n7
  | brk=>obtain⟨σ7,H7,I7,q7⟩:=q7;exact⟨σ7,H7,I7.unpinned,q7⟩
  | ret v=>obtain⟨x7,σ7,H7,I7,r7,q7⟩:=q7;exact⟨x7,σ7,H7,I7.unpinned,r7,q7⟩
end
theorem il {K:PySem.W.Frag} {a:Addr} {xs:List V} {g:TG} {tb:TS} {D:Ends} {σ:St} {H:Hp} (Pv:Nat→St→Hp→Prop) (h0:Pv 0 σ H) (hl:∀i σ H,i≤xs.length→Pv i σ H→SqL K H a xs)
  (hs:∀i x σ H,xs[i]?=some x→Pv i σ H→g x σ H fun σ2 H2=>tb { D with nx:=Pv (i+1),ct:=Pv (i+1),bk:=D.nx } σ2 H2) (hd:∀σ H,Pv xs.length σ H→D.nx σ H):
  ∃W:Nat→Nat→St→Hp→Prop,(∃m,W 0 m σ H)∧∀i m σ H,W i m σ H→
   ((Itl K a).stop i H∧D.nx σ H)∨((Itl K a).go i H∧∃N:St→Hp→Prop,(∀σ' H',N σ' H'→∃m',m' <m∧W (i+1) m' σ' H')∧∀x H',(Itl K a).yld i H x H'→g x σ H' fun σ2 H2=>tb { D with nx:=N,ct:=N,bk:=D.nx } σ2 H2):=by
 refine⟨fun i m σ H=>m=xs.length - i∧i≤xs.length∧Pv i σ H,⟨xs.length,by simp,Nat.zero_le _,h0⟩,?_⟩
 rintro i m σ H ⟨rfl,hi,p⟩
 have q:=hl i σ H hi p
 by_cases hlt:i <xs.length
 ·refine .inr ⟨⟨xs,xs[i],q,by simp [hlt]⟩,Pv (i+1),fun σ' H' p'=>⟨xs.length - (i+1),by omega,rfl,hlt,p'⟩,fun x H' y=>?_⟩
  obtain⟨e,y⟩:=y
  subst e
  exact hs i x σ _ (y xs q) p
 ·have e:i=xs.length:=by omega
  subst e
  exact .inl ⟨⟨xs,q,Nat.le_refl _⟩,hd σ H p⟩
theorem for_tup {K:PySem.W.Frag} {a:Addr} {xs:List V} {g:TG} {tb:TS} {D:Ends} {σ:St} {H:Hp} (Pv:Nat→St→Hp→Prop) (h0:Pv 0 σ H) (hl:∀i σ H,i≤xs.length→Pv i σ H→SqT K H a xs)
  (hs:∀i x σ H,xs[i]?=some x→Pv i σ H→g x σ H fun σ2 H2=>tb { D with nx:=Pv (i+1),ct:=Pv (i+1),bk:=D.nx } σ2 H2) (hd:∀σ H,Pv xs.length σ H→D.nx σ H):
  ∃W:Nat→Nat→St→Hp→Prop,(∃m,W 0 m σ H)∧∀i m σ H,W i m σ H→
   ((Itt K a).stop i H∧D.nx σ H)∨((Itt K a).go i H∧∃N:St→Hp→Prop,(∀σ' H',N σ' H'→∃m',m' <m∧W (i+1) m' σ' H')∧∀x H',(Itt K a).yld i H x H'→g x σ H' fun σ2 H2=>tb { D with nx:=N,ct:=N,bk:=D.nx } σ2 H2):=by
 refine⟨fun i m σ H=>m=xs.length - i∧i≤xs.length∧Pv i σ H,⟨xs.length,by simp,Nat.zero_le _,h0⟩,?_⟩
 rintro i m σ H ⟨rfl,hi,p⟩
 have q:=hl i σ H hi p
 by_cases hlt:i <xs.length
 ·refine .inr ⟨⟨xs,xs[i],q,by simp [hlt]⟩,Pv (i+1),fun σ' H' p'=>⟨xs.length - (i+1),by omega,rfl,hlt,p'⟩,fun x H' y=>?_⟩
  obtain⟨e,y⟩:=y
  subst e
  exact hs i x σ _ (y xs q) p
 ·have e:i=xs.length:=by omega
  subst e
  exact .inl ⟨⟨xs,q,Nat.le_refl _⟩,hd σ H p⟩
theorem oX {lo:Int} {n:Nat} {g:TG} {tb:TS} {D:Ends} {σ:St} {H:Hp} (Pv:Nat→St→Hp→Prop) (h0:Pv 0 σ H)
  (hs:∀i σ H,i <n→Pv i σ H→g (.int (lo+i)) σ H fun σ2 H2=>tb { D with nx:=Pv (i+1),ct:=Pv (i+1),bk:=D.nx } σ2 H2) (hd:∀σ H,Pv n σ H→D.nx σ H):
  ∃W:Nat→Nat→St→Hp→Prop,(∃m,W 0 m σ H)∧∀i m σ H,W i m σ H→
   ((Itr lo n).stop i H∧D.nx σ H)∨((Itr lo n).go i H∧∃N:St→Hp→Prop,(∀σ' H',N σ' H'→∃m',m' <m∧W (i+1) m' σ' H')∧∀x H',(Itr lo n).yld i H x H'→g x σ H' fun σ2 H2=>tb { D with nx:=N,ct:=N,bk:=D.nx } σ2 H2):=by
 refine⟨fun i m σ H=>m=n - i∧i≤n∧Pv i σ H,⟨n,by simp,Nat.zero_le _,h0⟩,?_⟩
 rintro i m σ H ⟨rfl,hi,p⟩
 by_cases hlt:i <n
 ·refine .inr ⟨hlt,Pv (i+1),fun σ' H' p'=>⟨n - (i+1),by omega,rfl,hlt,p'⟩,fun x H' y=>?_⟩
  obtain⟨e,y⟩:=y
  subst e y
  exact hs i σ _ hlt p
 ·have e:i=n:=by omega
  subst e
  exact .inl ⟨Nat.le_refl _,hd σ H p⟩
theorem rO {c:TT} {tb:TS} {D:Ends} {σ:St} {H:Hp} (Pv:St→Hp→Prop) (μ:St→Hp→Nat) (h0:Pv σ H)
  (hs:∀σ H,Pv σ H→c σ H fun b H1=>if b=true then tb { D with nx:=fun σ' H'=>Pv σ' H'∧μ σ' H' <μ σ H,ct:=fun σ' H'=>Pv σ' H'∧μ σ' H' <μ σ H,bk:=D.nx } σ H1 else D.nx σ H1)
  (mono:∀σ H Q Q',(∀b H1,Q b H1→Q' b H1)→c σ H Q→c σ H Q'):tWhile c tb D σ H:=by
 refine⟨fun m σ H=>m=μ σ H∧Pv σ H,⟨_,rfl,h0⟩,?_⟩
 rintro m σ H ⟨rfl,p⟩
 refine mono σ H _ _ (fun b H1 q=>?_) (hs σ H p)
 cases b with
 | true=>exact⟨_,fun σ' H' ⟨p',l⟩=>⟨_,l,rfl,p'⟩,q⟩
 | false=>exact q
end L2
namespace L2
open PySem PySem.Spec PyProof.Rows
abbrev R2:=V→V→Hp→VK→Prop
def OpR (X:Cx) (f:Value→Value→Sem Value) (r:R2):Prop:=
 ∀(pins:List (Addr×Obj)) (s:Shared) (σ:St) (H:Hp) (x y:V) (v u:Value) (Q:VK),Inv X pins σ H s→RelV x v→RelV y u→r x y H Q→
  wpAny (model X.prog X.w) X.A (f v u) (EP X pins σ Q) X.xe s
def UnR (X:Cx) (f:Value→Sem Value) (r:V→Hp→VK→Prop):Prop:=
 ∀(pins:List (Addr×Obj)) (s:Shared) (σ:St) (H:Hp) (x:V) (v:Value) (Q:VK),Inv X pins σ H s→RelV x v→r x H Q→
  wpAny (model X.prog X.w) X.A (f v) (EP X pins σ Q) X.xe s
def oK (X:Cx) (f:Value) (r:List V→Hp→VK→Prop):Prop:=
 ∀(pins:List (Addr×Obj)) (s:Shared) (σ:St) (H:Hp) (xs:List V) (us:List Value) (Q:VK),Inv X pins σ H s→Vals xs us→r xs H Q→
  wpAny (model X.prog X.w) X.A (call f us) (EP X pins σ Q) X.xe s
def tOp (r:R2) (ta tb:TE):TE:=fun σ H Q=>ta σ H fun x H1=>tb σ H1 fun y H2=>r x y H2 Q
def tUn (r:V→Hp→VK→Prop) (ta:TE):TE:=fun σ H Q=>ta σ H fun x H1=>r x H1 Q
def rI (C:Int→Int→Prop) (g:Int→Int→V):R2:=fun x y H Q=>∃i j,x=.int i∧y=.int j∧C i j∧Q (g i j) H
def rI0 (g:Int→Int→V):R2:=fun x y H Q=>∃i j,x=.int i∧y=.int j∧Q (g i j) H
def rU (g:Int→V):V→Hp→VK→Prop:=fun x H Q=>∃i,x=.int i∧Q (g i) H
section
variable {X:Cx} {a b c:Expr} {ta tb tc:TE} {pos:Pos}
theorem binT (ha:PE X a ta) (hb:PE X b tb) {pins:List (Addr×Obj)} {s:Shared} {σ:St} {H:Hp} {R:V→V→Hp→Prop} (I:Inv X pins σ H s)
  (h:ta σ H fun x H1=>tb σ H1 fun y H2=>R x y H2) {Q:Value→Shared→Prop} {f:Value→Value→Sem Value}
  (hf:∀v u s2 x y H2,Inv X pins σ H2 s2→RelV x v→RelV y u→R x y H2→wpAny (model X.prog X.w) X.A (f v u) Q X.xe s2):
  wpAny (model X.prog X.w) X.A (eval a X.env) (fun v s₁=>wpAny (model X.prog X.w) X.A (eval b X.env) (fun u s₂=>wpAny (model X.prog X.w) X.A (f v u) Q X.xe s₂) X.xe s₁) X.xe s:=by
 refine thn (ha pins s σ H _ I h) fun v s1 hpt=>?_
 obtain⟨x,H1,I1,r1,q1⟩:=hpt
 refine thn (hb pins s1 σ H1 _ I1 q1) fun u s2 hpt=>?_
 obtain⟨y,H2,I2,r2,q2⟩:=hpt
 exact hf v u s2 x y H2 I2 r1 r2 q2
theorem bw {op:Operator} {r:R2} (ho:OpR X (binaryOp op) r) (ha:PE X a ta) (hb:PE X b tb):PE X (.BinOp a op b pos) (tOp r ta tb):=by
 intro pins s σ H Q I h
 exact wpAny_BinOp (binT ha hb I h fun v u s2 x y H2 I2 rx ry q=>ho pins s2 σ H2 x y v u Q I2 rx ry q)
theorem pe_un {op:UnaryOp} {r:V→Hp→VK→Prop} (ho:UnR X (unaryOp op) r) (ha:PE X a ta):PE X (.UnaryOp op a pos) (tUn r ta):=by
 intro pins s σ H Q I h
 exact UnaryOp_ (thn (ha pins s σ H _ I h) fun v s1 ⟨x,H1,I1,r1,q1⟩=>ho pins s1 σ H1 x v Q I1 r1 q1)
theorem opI {f:Value→Value→Sem Value} {C:Int→Int→Prop} {g:Int→Int→Int}
  (rule:∀(i j:Int) (t u:Tok) (s:Shared) (Q:Value→Shared→Prop) (E:Value→Shared→Prop),C i j→Q (.int (g i j) s.toks) { s with toks:=s.toks+1 }→wpAny (model X.prog X.w) X.A (f (.int i t) (.int j u)) Q E s):
  OpR X f (rI C fun i j=>.int (g i j)):=by
 intro pins s σ H x y v u Q I rx ry h
 obtain⟨i,j,rfl,rfl,hc,q⟩:=h
 obtain⟨t,rfl⟩:=rx
 obtain⟨t',rfl⟩:=ry
 exact rule i j t t' s _ _ hc ⟨.int (g i j),H,I.tok _,⟨_,rfl⟩,q⟩
theorem opI0 {f:Value→Value→Sem Value} {g:Int→Int→Int}
  (rule:∀(i j:Int) (t u:Tok) (s:Shared) (Q:Value→Shared→Prop) (E:Value→Shared→Prop),Q (.int (g i j) s.toks) { s with toks:=s.toks+1 }→wpAny (model X.prog X.w) X.A (f (.int i t) (.int j u)) Q E s):
  OpR X f (rI0 fun i j=>.int (g i j)):=by
 intro pins s σ H x y v u Q I rx ry h
 obtain⟨i,j,rfl,rfl,q⟩:=h
 obtain⟨t,rfl⟩:=rx
 obtain⟨t',rfl⟩:=ry
 exact rule i j t t' s _ _ ⟨.int (g i j),H,I.tok _,⟨_,rfl⟩,q⟩
theorem opB0 {f:Value→Value→Sem Value} {g:Int→Int→Bool}
  (rule:∀(i j:Int) (t u:Tok) (s:Shared) (Q:Value→Shared→Prop) (E:Value→Shared→Prop),Q (.bool (g i j)) s→wpAny (model X.prog X.w) X.A (f (.int i t) (.int j u)) Q E s):
  OpR X f (rI0 fun i j=>.bl (g i j)):=by
 intro pins s σ H x y v u Q I rx ry h
 obtain⟨i,j,rfl,rfl,q⟩:=h
 obtain⟨t,rfl⟩:=rx
 obtain⟨t',rfl⟩:=ry
 exact rule i j t t' s _ _ ⟨.bl (g i j),H,I,rfl,q⟩
def CPow (i j:Int):Prop:=0≤j∧j≤1000000∧i.natAbs <2 ^ 64
theorem dm:OpR X (binaryOp .Add) (rI0 fun i j=>.int (i+j)):=opI0 fun _ _ _ _ _ _ _ q=>add_int q
theorem xR:OpR X (binaryOp .Sub) (rI0 fun i j=>.int (i - j)):=opI0 fun _ _ _ _ _ _ _ q=>sub_int q
theorem cB:OpR X (binaryOp .Mod) (rI (fun _ j=>0 <j) fun i j=>.int (i % j)):=opI fun i j _ _ _ _ _ hc q=>by
 have h1:(0:Int) <j:=hc
 exact mod_int' (by omega) (by rw [Int.fmod_eq_emod_of_nonneg i (by omega)];exact q)
theorem op_pow:OpR X (binaryOp .Pow) (rI CPow fun i j=>.int (i ^ j.toNat)):=opI fun _ _ _ _ _ _ _ hc q=>pow_int_small hc.1 hc.2.1 hc.2.2 q
theorem unI {f:Value→Sem Value} {g:Int→Int}
  (rule:∀(i:Int) (t:Tok) (s:Shared) (Q:Value→Shared→Prop) (E:Value→Shared→Prop),Q (.int (g i) s.toks) { s with toks:=s.toks+1 }→wpAny (model X.prog X.w) X.A (f (.int i t)) Q E s):
  UnR X f (rU fun i=>.int (g i)):=by
 intro pins s σ H x v Q I rx h
 obtain⟨i,rfl,q⟩:=h
 obtain⟨t,rfl⟩:=rx
 exact rule i t s _ _ ⟨.int (g i),H,I.tok _,⟨_,rfl⟩,q⟩
theorem un_neg:UnR X (unaryOp .USub) (rU fun i=>.int (-i)):=unI fun _ _ _ _ _ q=>neg_int q
end
def scal:V→V→Bool
 | .non,.non=>true | .non,.int _=>true | .int _,.non=>true | .non,.bl _=>true | .bl _,.non=>true | .non,.str _=>true | .str _,.non=>true
 | .int _,.int _=>true | .bl _,.bl _=>true | .str _,.str _=>true | .byt _,.byt _=>true
 | .int _,.str _=>true | .str _,.int _=>true | .bl _,.str _=>true | .str _,.bl _=>true
 | _,_=>false
def rEq:R2:=fun x y H Q=>scal x y=true∧Q (.bl (decide (x=y))) H
def rNe:R2:=fun x y H Q=>scal x y=true∧Q (.bl (!decide (x=y))) H
theorem dec_int {i j:Int}:decide (V.int i=V.int j)=(i == j):=by
 rw [Bool.eq_iff_iff]
 simp
theorem dec_bl {i j:Bool}:decide (V.bl i=V.bl j)=(i == j):=by
 rw [Bool.eq_iff_iff]
 simp
theorem dec_str {i j:Str}:decide (V.str i=V.str j)=(i == j):=by
 rw [Bool.eq_iff_iff]
 simp
theorem dec_byt {i j:Array UInt8}:decide (V.byt i=V.byt j)=(i.toList == j.toList):=by
 rw [Bool.eq_iff_iff]
 cases i
 cases j
 simp
section
variable {X:Cx} {a b c:Expr} {ta tb tc:TE} {pos:Pos}
theorem cu {pins:List (Addr×Obj)} {σ:St} {H:Hp} {s:Shared} {Q:VK} {k k':Bool} (I:Inv X pins σ H s) (q:Q (.bl k) H) (e:k=k'):EP X pins σ Q (.bool k') s:=by
 subst e
 exact⟨.bl k,H,I,rfl,q⟩
theorem iG:OpR X (compareOp .Eq) rEq:=by
 intro pins s σ H x y v u Q I rx ry h
 obtain⟨hs,q⟩:=h
 cases x with
 | non=>
  cases rx
  cases y with
  | non=>cases ry;exact PySem.EqNone.eq_none_none (cu I q (by simp))
  | bl j=>cases ry;exact PySem.EqNone.eq_none_bool (cu I q (by simp))
  | int j=>obtain⟨t',rfl⟩:=ry;exact PySem.EqNone.eq_none_int (cu I q (by simp))
  | str j=>obtain⟨t',rfl⟩:=ry;exact PySem.EqNone.eq_none_str (cu I q (by simp))
  | _=>exact absurd (show false=true from hs) Bool.false_ne_true
 | bl i=>
  cases rx
  cases y with
  | non=>cases ry;exact PySem.EqNone.eq_bool_none (cu I q (by simp))
  | bl j=>cases ry;exact eq_bool (cu I q dec_bl)
  | str j=>obtain⟨t',rfl⟩:=ry;exact PySem.EqMixed.eq_bool_str (cu I q (by simp))
  | _=>exact absurd (show false=true from hs) Bool.false_ne_true
 | int i=>
  obtain⟨t,rfl⟩:=rx
  cases y with
  | non=>cases ry;exact PySem.EqNone.eq_int_none (cu I q (by simp))
  | int j=>obtain⟨t',rfl⟩:=ry;exact eq_int (cu I q dec_int)
  | str j=>obtain⟨t',rfl⟩:=ry;exact PySem.EqMixed.eq_int_str (cu I q (by simp))
  | _=>exact absurd (show false=true from hs) Bool.false_ne_true
 | str i=>
  obtain⟨t,rfl⟩:=rx
  cases y with
  | non=>cases ry;exact PySem.EqNone.eq_str_none (cu I q (by simp))
  | bl j=>cases ry;exact PySem.EqMixed.eq_str_bool (cu I q (by simp))
  | int j=>obtain⟨t',rfl⟩:=ry;exact PySem.EqMixed.eq_str_int (cu I q (by simp))
  | str j=>obtain⟨t',rfl⟩:=ry;exact eq_str (cu I q dec_str)
  | _=>exact absurd (show false=true from hs) Bool.false_ne_true
 | byt i=>
  obtain⟨t,rfl⟩:=rx
  cases y with
  | byt j=>obtain⟨t',rfl⟩:=ry;exact PySem.W.eq_bytes (cu I q dec_byt)
  | _=>exact absurd (show false=true from hs) Bool.false_ne_true
 | _=>cases y <;> exact absurd (show false=true from hs) Bool.false_ne_true
theorem zM:OpR X (compareOp .NotEq) rNe:=by
 intro pins s σ H x y v u Q I rx ry h
 obtain⟨hs,q⟩:=h
 cases x with
 | non=>
  cases rx
  cases y with
  | non=>cases ry;exact PySem.EqNone.ne_none_none (cu I q (by simp))
  | bl j=>cases ry;exact PySem.EqNone.ne_none_bool (cu I q (by simp))
  | int j=>obtain⟨t',rfl⟩:=ry;exact PySem.EqNone.ne_none_int (cu I q (by simp))
  | str j=>obtain⟨t',rfl⟩:=ry;exact PySem.EqNone.ne_none_str (cu I q (by simp))
  | _=>exact absurd (show false=true from hs) Bool.false_ne_true
 | bl i=>
  cases rx
  cases y with
  | non=>cases ry;exact PySem.EqNone.ne_bool_none (cu I q (by simp))
  | bl j=>cases ry;exact ne_bool (cu I q (congrArg not dec_bl))
  | str j=>obtain⟨t',rfl⟩:=ry;exact PySem.EqMixed.ne_bool_str (cu I q (by simp))
  | _=>exact absurd (show false=true from hs) Bool.false_ne_true
 | int i=>
  obtain⟨t,rfl⟩:=rx
  cases y with
  | non=>cases ry;exact PySem.EqNone.ne_int_none (cu I q (by simp))
  | int j=>obtain⟨t',rfl⟩:=ry;exact ne_int (cu I q (congrArg not dec_int))
  | str j=>obtain⟨t',rfl⟩:=ry;exact PySem.EqMixed.ne_int_str (cu I q (by simp))
  | _=>exact absurd (show false=true from hs) Bool.false_ne_true
 | str i=>
  obtain⟨t,rfl⟩:=rx
  cases y with
  | non=>cases ry;exact PySem.EqNone.ne_str_none (cu I q (by simp))
  | bl j=>cases ry;exact PySem.EqMixed.ne_str_bool (cu I q (by simp))
  | int j=>obtain⟨t',rfl⟩:=ry;exact PySem.EqMixed.ne_str_int (cu I q (by simp))
  | str j=>obtain⟨t',rfl⟩:=ry;exact ne_str (cu I q (congrArg not dec_str))
  | _=>exact absurd (show false=true from hs) Bool.false_ne_true
 | byt i=>
  obtain⟨t,rfl⟩:=rx
  cases y with
  | byt j=>obtain⟨t',rfl⟩:=ry;exact PySem.W.ne_bytes (cu I q (congrArg not dec_byt))
  | _=>exact absurd (show false=true from hs) Bool.false_ne_true
 | _=>cases y <;> exact absurd (show false=true from hs) Bool.false_ne_true
theorem rN:OpR X (compareOp .Lt) (rI0 fun i j=>.bl (decide (i <j))):=opB0 fun _ _ _ _ _ _ _ q=>lt_int q
theorem uI:OpR X (compareOp .LtE) (rI0 fun i j=>.bl (decide (i≤j))):=opB0 fun _ _ _ _ _ _ _ q=>le_int q
theorem op_gt:OpR X (compareOp .Gt) (rI0 fun i j=>.bl (decide (j <i))):=opB0 fun _ _ _ _ _ _ _ q=>gt_int q
theorem yS:OpR X (compareOp .In) (fun x y H Q=>∃i j,x=.str i∧y=.str j∧Q (.bl (!(Builtin.Str.occurrences j i 0 j.length 1).isEmpty)) H):=by
 intro pins s σ H x y v u Q I rx ry h
 obtain⟨i,j,rfl,rfl,q⟩:=h
 obtain⟨t,rfl⟩:=rx
 obtain⟨t',rfl⟩:=ry
 exact in_str (cu I q rfl)
theorem bL (b:Expr) {op:CmpOp} (h:op≠.In:=by decide) (h2:op≠.NotIn:=by decide):behindInMarks op b=false:=by
 have e1:(op == CmpOp.In)=false:=by cases op <;> first | rfl | exact absurd rfl h
 have e2:(op == CmpOp.NotIn)=false:=by cases op <;> first | rfl | exact absurd rfl h2
 cases b <;> simp [behindInMarks,e1,e2]
theorem wK {op:CmpOp} {r:R2} (ho:OpR X (compareOp op) r) (ha:PE X a ta) (hb:PE X b tb) (hm:behindInMarks op b=false):PE X (.Compare a [op] [b] pos) (tOp r ta tb):=by
 intro pins s σ H Q I h
 exact wpAny_Compare1 (binT ha hb I h fun v u s2 x y H2 I2 rx ry q=>ho pins s2 σ H2 x y v u Q I2 rx ry q) hm
def tTest (t:TE):TT:=fun σ H Q=>t σ H fun x H'=>∃k,x=.bl k∧Q k H'
theorem bf {op:CmpOp} {r:R2} (ho:OpR X (compareOp op) r) (ha:PE X a ta) (hb:PE X b tb) (hm:behindInMarks op b=false):PT X (.Compare a [op] [b] pos) (tTest (tOp r ta tb)):=by
 intro pins s σ H Q I h
 refine wpAny_isTrue_Compare1 (thn (ha pins s σ H _ I h) fun v s1 ⟨x,H1,I1,r1,q1⟩=>thn (hb pins s1 σ H1 _ I1 q1) fun u s2 ⟨y,H2,I2,r2,q2⟩=>
  thn (ho pins s2 σ H2 x y v u _ I2 r1 r2 q2) fun c s3 ⟨z,H3,I3,r3,k,e,q3⟩=>?_) hm
 subst e
 cases r3
 exact wpAny_truthy_bool ⟨H3,I3,q3⟩
def tChain (r r':R2) (ta tb tc:TE):TE:=fun σ H Q=>ta σ H fun x H1=>tb σ H1 fun y H2=>r x y H2 fun z H3=>∃k,z=.bl k∧
 (if k=true then tc σ H3 fun w' H4=>r' y w' H4 Q else Q (.bl false) H3)
theorem pe_chain {op op':CmpOp} {r r':R2} (ho:OpR X (compareOp op) r) (ho':OpR X (compareOp op') r') (ha:PE X a ta) (hb:PE X b tb) (hc:PE X c tc)
  (hm:lastMarks [op,op'] [b,c]=false:=by with_unfolding_all rfl):PE X (.Compare a [op,op'] [b,c] pos) (tChain r r' ta tb tc):=by
 intro pins s σ H Q I h
 refine Compare_chain (thn (ha pins s σ H _ I h) fun v s1 ⟨x,H1,I1,r1,q1⟩=>chain_link (thn (hb pins s1 σ H1 _ I1 q1) fun u s2 ⟨y,H2,I2,r2,q2⟩=>
  thn (ho pins s2 σ H2 x y v u _ I2 r1 r2 q2) fun d s3 ⟨z,H3,I3,r3,k,e,q3⟩=>?_)) hm
 subst e
 cases r3
 refine wpAny_truthy_bool ?_
 cases k with
 | false=>exact ite_ff ⟨.bl false,H3,I3,rfl,q3⟩
 | true=>exact ite_tt (chain_last (thn (hc pins s3 σ H3 _ I3 q3) fun w' s4 ⟨z',H4,I4,r4,q4⟩=>ho' pins s4 σ H4 y z' u w' Q I4 r2 r4 q4))
theorem yL {op op':CmpOp} {r r':R2} (ho:OpR X (compareOp op) r) (ho':OpR X (compareOp op') r') (ha:PE X a ta) (hb:PE X b tb) (hc:PE X c tc)
  (hm:lastMarks [op,op'] [b,c]=false:=by with_unfolding_all rfl):PT X (.Compare a [op,op'] [b,c] pos) (tTest (tChain r r' ta tb tc)):=by
 intro pins s σ H Q I h
 refine isTrue_chain (thn (ha pins s σ H _ I h) fun v s1 ⟨x,H1,I1,r1,q1⟩=>test_link (thn (hb pins s1 σ H1 _ I1 q1) fun u s2 ⟨y,H2,I2,r2,q2⟩=>
  thn (ho pins s2 σ H2 x y v u _ I2 r1 r2 q2) fun d s3 ⟨z,H3,I3,r3,k,e,q3⟩=>?_)) hm
 subst e
 cases r3
 refine wpAny_truthy_bool ?_
 cases k with
 | false=>
  obtain⟨k',e',q'⟩:=q3
  cases e'
  exact ite_ff ⟨H3,I3,q'⟩
 | true=>
  refine ite_tt (test_last (thn (hc pins s3 σ H3 _ I3 q3) fun w' s4 ⟨z',H4,I4,r4,q4⟩=>thn (ho' pins s4 σ H4 y z' u w' _ I4 r2 r4 q4) fun d' s5 hpt=>?_))
  obtain⟨z2,H5,I5,r5,k2,e2,q5⟩:=hpt
  subst e2
  cases r5
  exact wpAny_truthy_bool ⟨H5,I5,q5⟩
theorem Bl:(sizeLine:Nat) <2 ^ 63:=by rw [sizeLine_eq];decide
theorem yc:OpR X (binaryOp .Add) (fun x y H Q=>∃i j,x=.str i∧y=.str j∧i.length+j.length≤sizeLine∧Q (.str (i ++ j)) H):=by
 intro pins s σ H x y v u Q I rx ry h
 obtain⟨i,j,rfl,rfl,hz,q⟩:=h
 obtain⟨t,rfl⟩:=rx
 obtain⟨t',rfl⟩:=ry
 exact add_str (fun t' tk=>⟨.str (i ++ j),H,I.tok _,⟨_,rfl⟩,q⟩) hz
theorem vals1 {x:V} {us:List Value} (r:Vals [x] us):∃u,us=[u]∧RelV x u:=by
 cases r with
 | cons r1 r2=>cases r2;exact⟨_,rfl,r1⟩
theorem vals2 {x y:V} {us:List Value} (r:Vals [x,y] us):∃u w',us=[u,w']∧RelV x u∧RelV y w':=by
 cases r with
 | cons r1 r2=>
  cases r2 with
  | cons r3 r4=>cases r4;exact⟨_,_,rfl,r1,r3⟩
theorem call_max2 (hc:X.calm=true):oK X (.builtin "max") (fun xs H Q=>∃i j,xs=[.int i,.int j]∧Q (.int (if j >i then j else i)) H):=by
 intro pins s σ H xs us Q I r h
 obtain⟨i,j,rfl,q⟩:=h
 obtain⟨u,w',rfl,⟨t,rfl⟩,⟨t',rfl⟩⟩:=vals2 r
 refine max_two_ints (I.ok.hd hc) fun h' tk k=>⟨_,H,I.kept k,?_,q⟩
 by_cases hj:j >i
 ·rw [if_pos hj,if_pos hj];exact⟨_,rfl⟩
 ·rw [if_neg hj,if_neg hj];exact⟨_,rfl⟩
theorem call_str_int:oK X (.type "str") (fun xs H Q=>∃i,xs=[.int i]∧i.natAbs.log2 <1920∧Q (.str (toString i)) H):=by
 intro pins s σ H xs us Q I r h
 obtain⟨i,rfl,hz,q⟩:=h
 obtain⟨u,rfl,t,rfl⟩:=vals1 r
 exact PySem.P.str_of_int hz ⟨.str _,H,I.tok _,⟨_,rfl⟩,q⟩
def LenV (K:PySem.W.Frag) (x:V) (H:Hp) (n:Nat):Prop:=
 match x with
 | .str y=>y.length≤sizeLine∧n=y.length
 | .byt y=>y.size≤sizeLine∧n=y.size
 | .ref p=>(∃xs,SqL K H p xs∧n=xs.length)∨∃xs,SqT K H p xs∧n=xs.length
 | _=>False
theorem bN:oK X (.builtin "len") (fun xs H Q=>∃x n,xs=[x]∧LenV X.K x H n∧Q (.int n) H):=by
 intro pins s σ H xs us Q I r h
 obtain⟨x,n,rfl,e,q⟩:=h
 obtain⟨u,rfl,rx⟩:=vals1 r
 have hl:=Bl
 have hs:sizeLine=16777216:=sizeLine_eq
 cases x with
 | str y=>
  obtain⟨t,rfl⟩:=rx
  obtain⟨hy,e'⟩:y.length≤sizeLine∧n=y.length:=e
  subst e'
  exact len_str (by omega) ⟨.int _,H,I.tok _,⟨_,rfl⟩,q⟩
 | byt y=>
  obtain⟨t,rfl⟩:=rx
  obtain⟨hy,e'⟩:y.size≤sizeLine∧n=y.size:=e
  subst e'
  exact PySem.W.len_bytes (by omega) ⟨.int _,H,I.tok _,⟨_,rfl⟩,q⟩
 | ref p=>
  cases rx
  have e':(∃xs,SqL X.K H p xs∧n=xs.length)∨∃xs,SqT X.K H p xs∧n=xs.length:=e
  rcases e' with ⟨xs,hx,e'⟩ | ⟨xs,hx,e'⟩
  ·subst e'
   obtain⟨its,r',pl,hz⟩:=I.list hx
   have hlen:=r'.length
   exact Calls.call_len_list pl.isList (by simp only [List.size_toArray];omega) ⟨.int xs.length,H,I.tok _,⟨_,by simp only [List.size_toArray];rw [hlen]⟩,q⟩
  ·subst e'
   obtain⟨its,r',pl,hz⟩:=I.tuple hx
   have hlen:=r'.length
   exact len_tuple pl (by simp only [List.size_toArray];omega) ⟨.int xs.length,H,I.tok _,⟨_,by simp only [List.size_toArray];rw [hlen]⟩,q⟩
 | _=>exact(show False from e).elim
end
end L2
namespace L2
open PySem PySem.Spec PyProof.Rows
structure ObjM (h:Heap) (x dx C:Addr) (mA:Str→Option Value):Prop where
 obj:h.get? x=some (PySem.W.instObj C dx)
 ns:h.Ns1 dx mA
 ne:dx≠x
theorem lookIn_ns {h:Heap} {dx:Addr} {mA:Str→Option Value} (n:h.Ns1 dx mA):∃od,h.get? dx=some od∧∀name,PySem.W.lookIn name od=some (mA name):=by
 obtain⟨o,es,ep,ho,hd,hk,_,hm⟩:=n
 refine⟨o,ho,fun name=>?_⟩
 have e:=hm name
 unfold nsFind findBy at e
 rw [←Array.find?_toList] at e
 unfold PySem.W.lookIn
 rw [hd]
 dsimp only
 split
 ·rename_i y q
  rw [q] at e
  exact congrArg some e
 ·rename_i q
  rw [q] at e
  have a:es.toList.any (·.refKey)=false:=by
   rw [List.any_eq_false]
   intro y hy
   obtain⟨z,t,hkey⟩:=hk y (Array.mem_toList_iff.mp hy)
   simp [DictEntry.refKey,hkey]
  have a':¬es.toList.any (·.refKey)=true:=by rw [a];exact Bool.false_ne_true
  rw [if_neg a']
  exact congrArg some e
theorem ObjM.look {h:Heap} {x dx C:Addr} {mA:Str→Option Value} (I:ObjM h x dx C mA):∃od,PySem.W.InstAt h x (PySem.W.instObj C dx) C (some od)∧∀name,PySem.W.lookIn name od=some (mA name):=
 let ⟨od,ho,hl⟩:=lookIn_ns I.ns
 ⟨od,⟨I.obj,rfl,rfl,ho⟩,hl⟩
section
variable {prog:Program} {w:World} {A:Around} {E:Value→Shared→Prop} {s:Shared} {K:PySem.W.Frag} {x dx C f:Addr} {mA:Str→Option Value} {name:Str} {v:Value}
theorem get_map {expr:Bool} {Q:Value→Shared→Prop} (X:K.In s.heap) (I:ObjM s.heap x dx C mA) (hg:PySem.W.plainGet K C name=true) (hh:PySem.W.hasDictIn K C=true)
  (ha:PySem.W.findIn K (.ref C) name=some none) (hv:mA name=some v) (hv':PySem.W.handedIn v=true) (h:Q v { s with toks:=s.toks+1 }):
  wpAny (model prog w) A (getAttr (.ref x) name expr) Q E s:=by
 obtain⟨od,J,hl⟩:=I.look
 exact PySem.W.get_value X J (PySem.W.plainGet_of hg).1 (PySem.W.findObj_own hh ha rfl (by rw [hl,hv])) hv' h
theorem get_meth {pl:Sem Bool} {Q:Value×List Value→Shared→Prop} (X:K.In s.heap) (I:ObjM s.heap x dx C mA) (hg:PySem.W.plainGet K C name=true)
  (hf:PySem.W.findIn K (.ref C) name=some (some (.ref f))) (ht:PySem.W.isFn K (.ref f)=true) (hv:mA name=none) (h:Q (.ref f,[.ref x]) s):
  wpAny (model prog w) A (getMethod (.ref x) name pl) Q E s:=by
 obtain⟨od,J,hl⟩:=I.look
 exact PySem.W.method_fn X J (PySem.W.plainGet_of hg).1 (PySem.W.plainGet_of hg).2 hf (beq_iff_eq.mp ht) (by show(PySem.W.lookIn name od).map (·.isSome)=some false;rw [hl,hv];rfl) h
theorem set_map {ns:List Str} {Q:Unit→Shared→Prop} (X:K.In s.heap) (I:ObjM s.heap x dx C mA)
  (hs:PySem.W.findIn K (.ref C) "__setattr__" =some (some (.builtin "object.__setattr__"))) (hp:PySem.W.plainOver K C=true) (ht:PySem.W.takerIn K C name=some none) (hh:PySem.W.hasDictIn K C=true)
  (hw:PySem.Within mA ns) (hsz:ns.length≤sizeLine)
  (h:∀h',ObjM h' x dx C (fun y=>if y=name then some v else mA y)→Heap.SameBut dx s.heap h'→Q () { s with heap:=h',toks:=s.toks+2 }):
  wpAny (model prog w) A (setAttr (.ref x) name v) Q E s:=by
 obtain⟨od,J,hl⟩:=I.look
 refine PySem.W.set_plain X J hs (PySem.W.osa_open (s:={ s with toks:=s.toks+1 }) (r:=none) X J hp ht fun b=>?_)
 obtain⟨cd,hc,hd'⟩:=PySem.W.any_some hh
 have hx:s.heap.get? x=some ⟨.ref C,some dx,.plain,#[]⟩:=I.obj
 refine wpAny_bind (wpAny_pure (wpAny_bind (wpAny_bind (wpAny_loadPart hx (wpAny_bind (PySem.W.Looks.here (s:={ s with toks:=s.toks+1 }) (PySem.W.looks_clsIn X hc) ?_))))))
 rw [hd']
 refine wpAny_pure (a:=some dx) (wpAny_bind (wpAny_pure (wpAny_bind ?_)))
 refine wpAny_nsSet1 (s:={ s with toks:=s.toks+1 }) I.ns fun h' hn2 hs2=>?_
 obtain⟨oD,esD,epD,hoD,hdD,hcD⟩:=hn2.count (PySem.Within.cons name v hw)
 refine wpAny_bind (wpAny_lookBehind hoD (by rw [hdD];exact pastItsLine_dict (Nat.le_trans hcD (by rw [List.length_cons];omega))) ?_)
 exact wpAny_pure (h _ ⟨(hs2.2 _ (Ne.symm I.ne)).trans I.obj,hn2,I.ne⟩ hs2)
theorem make_map {R:Result→Shared→Prop} {vs:List Value} {kw:List (Str×Value)} (X:K.In s.heap) (hm:PySem.W.makesIn K C=true)
  (hi:PySem.W.findIn K (.ref C) "__init__" =some (some (.ref f))) (hf:PySem.W.typeIn K (.ref f)=some (.type "function"))
  (h:codeAny (model prog w) (A.under (.builtin "type.__call__" ⟨.ref C:: vs,kw⟩)) (.call (.ref f) ⟨.ref (s.heap.objs.size+1):: vs,kw⟩) (PySem.W.InitBack (s.heap.objs.size+1) R)
   { s with heap:=(s.heap.push PySem.W.emptyDict).push (PySem.W.instObj C s.heap.objs.size) }):
  codeAny (model prog w) A (.call (.ref C) ⟨vs,kw⟩) R s:=by
 obtain⟨hh,g,d,t,os⟩:=s
 exact PySem.W.make_core (PySem.W.makes_of X hm) (PySem.W.looks_findIn X hi) (fun self=>PySem.W.bind_fn X self hf) (.inl rfl) h
end
def bh (f:Str) (v:V):List (Str×V)→List (Str×V)
 | []=>[(f,v)]
 | (g,x):: r=>if g=f then(g,v):: r else(g,x):: bh f v r
theorem aN (f g:Str) (v:V):∀fs:List (Str×V),(bh f v fs).lookup g=if g=f then some v else fs.lookup g
 | []=>by
  show List.lookup g [(f,v)]=_
  by_cases h:g=f
  ·have hb:(g == f)=true:=beq_iff_eq.mpr h
   simp only [List.lookup,hb,if_pos h]
  ·have hb:(g == f)=false:=beq_eq_false_iff_ne.mpr h
   simp only [List.lookup,hb,if_neg h]
 | (k,x):: r=>by
  have ih:=aN f g v r
  rw [show bh f v ((k,x):: r)=(if k=f then(k,v):: r else(k,x):: bh f v r) from rfl]
  by_cases hk:k=f
  ·rw [if_pos hk]
   by_cases h:g=k
   ·have hb:(g == k)=true:=beq_iff_eq.mpr h
    simp only [List.lookup,hb,if_pos (h.trans hk)]
   ·have hb:(g == k)=false:=beq_eq_false_iff_ne.mpr h
    simp only [List.lookup,hb,if_neg (fun e:g=f=>h (e.trans hk.symm))]
  ·rw [if_neg hk]
   by_cases h:g=k
   ·have hb:(g == k)=true:=beq_iff_eq.mpr h
    simp only [List.lookup,hb,if_neg (fun e:g=f=>hk (h.symm.trans e))]
   ·have hb:(g == k)=false:=beq_eq_false_iff_ne.mpr h
    simp only [List.lookup,hb]
    exact ih
theorem yZ (f:Str) (v:V):∀fs:List (Str×V),f∈(bh f v fs).map (·.1)∧∀g,g∈fs.map (·.1)→g∈(bh f v fs).map (·.1)
 | []=>⟨by simp [bh],fun g h=>by simp at h⟩
 | (k,x):: r=>by
  obtain⟨i1,i2⟩:=yZ f v r
  rw [show bh f v ((k,x):: r)=(if k=f then(k,v):: r else(k,x):: bh f v r) from rfl]
  by_cases hk:k=f
  ·rw [if_pos hk]
   subst hk
   exact⟨by simp,fun g h=>by simpa using h⟩
  ·rw [if_neg hk]
   refine⟨?_,fun g h=>?_⟩
   ·rw [List.map_cons]
    exact List.mem_cons_of_mem _ i1
   ·rw [List.map_cons] at h ⊢
    rcases List.mem_cons.mp h with e | e
    ·exact List.mem_cons.mpr (.inl e)
    ·exact List.mem_cons_of_mem _ (i2 g e)
theorem u9 (f:Str) (v:V):∀fs:List (Str×V),(bh f v fs).length≤fs.length+1
 | []=>by simp [bh]
 | (k,x):: r=>by
  have ih:=u9 f v r
  rw [show bh f v ((k,x):: r)=(if k=f then(k,v):: r else(k,x):: bh f v r) from rfl]
  by_cases hk:k=f
  ·rw [if_pos hk,List.length_cons,List.length_cons];omega
  ·rw [if_neg hk,List.length_cons,List.length_cons];omega
theorem uJ.some_of {v:V} {o:Option Value} (r:uJ (some v) o):∃u,o=some u∧RelV v u:=by
 cases o with
 | none=>exact(show False from r).elim
 | some u=>exact⟨u,rfl,r⟩
theorem uJ.none_of {o:Option Value} (r:uJ none o):o=none:=by
 cases o with
 | none=>rfl
 | some u=>exact(show False from r).elim
theorem handed_of {v:V} {u:Value} (r:RelV v u):PySem.W.handedIn u=true:=by
 cases v with
 | non=>cases (show u=Value.none from r);rfl
 | bl b=>cases (show u=Value.bool b from r);rfl
 | int i=>obtain⟨t,e⟩:=(show ∃t,u=Value.int i t from r);cases e;rfl
 | str x=>obtain⟨t,e⟩:=(show ∃t,u=Value.str x t from r);cases e;rfl
 | byt b=>obtain⟨t,e⟩:=(show ∃t,u=Value.bytes b t from r);cases e;rfl
 | flt b=>obtain⟨t,e⟩:=(show ∃t,u=Value.float b t from r);cases e;rfl
 | ref a=>cases (show u=Value.ref a from r);rfl
 | ty n=>cases (show u=Value.type n from r);rfl
section
variable {P:Program} {w:World} {H H':Hp} {h h':Heap} {a C dx:Addr} {fs fs':List (Str×V)}
theorem ins_get (hok:HOk P w H h) (e:H a=some (.ins C dx fs)):∃mA,ObjM h a dx C mA∧(∀f,uJ (fs.lookup f) (mA f))∧PySem.Within mA (fs.map (·.1))∧fs.length≤1000∧H dx=some (.own a):=by
 obtain⟨d,z,ne,ob,mA,n,r,q⟩:=(show fM P w H h a (.ins C dx fs) from hok a _ e)
 exact⟨mA,⟨ob,n,ne⟩,r,q,z,d⟩
end
structure Cls (K:PySem.W.Frag) (C:Addr):Prop where
 pg:PySem.W.plainGet K C Str.empty=true
 hd:PySem.W.hasDictIn K C=true
 po:PySem.W.plainOver K C=true
 sa:PySem.W.findIn K (.ref C) "__setattr__" =some (some (.builtin "object.__setattr__"))
theorem Cls.get {K:PySem.W.Frag} {C:Addr} (c:Cls K C) (f:Str):PySem.W.plainGet K C f=true:=c.pg
def bG (K:PySem.W.Frag) (C:Addr) (f:Str):Prop:=PySem.W.findIn K (.ref C) f=some none
theorem bG.taker {K:PySem.W.Frag} {C:Addr} {f:Str} (n:bG K C f):PySem.W.takerIn K C f=some none:=by
 unfold PySem.W.takerIn
 rw [show PySem.W.findIn K (.ref C) f=some none from n]
 rfl
structure Meth (K:PySem.W.Frag) (C:Addr) (m:Str) (f:Addr):Prop where
 at_:PySem.W.findIn K (.ref C) m=some (some (.ref f))
 fn:PySem.W.isFn K (.ref f)=true
 kp:PySem.W.keepIn K (.ref f)=true
section
variable {X:Cx} {pins:List (Addr×Obj)} {σ:St} {H:Hp} {s:Shared} {a C dx:Addr} {fs:List (Str×V)} {f:Str} {v:V} {A:Around} {E:Value→Shared→Prop}
theorem getattr_ok {b:Bool} {Q:Value→Shared→Prop} (I:Inv X pins σ H s) (e:H a=some (.ins C dx fs)) (c:Cls X.K C) (n:bG X.K C f) (l:fs.lookup f=some v)
  (h:∀u s',Inv X pins σ H s'→RelV v u→Q u s'):wpAny (model X.prog X.w) A (getAttr (.ref a) f b) Q E s:=by
 obtain⟨mA,O,r,_,_,_⟩:=ins_get I.hok e
 obtain⟨u,hu,ru⟩:=uJ.some_of (v:=v) (o:=mA f) (by rw [←l];exact r f)
 exact get_map I.kIn O (c.get f) c.hd n hu (handed_of ru) (h u _ (I.tok _) ru)
theorem xT {m:Str} {g:Addr} {pl:Sem Bool} {Q:Value×List Value→Shared→Prop} (I:Inv X pins σ H s) (e:H a=some (.ins C dx fs)) (c:Cls X.K C) (k:Meth X.K C m g) (l:fs.lookup m=none)
  (h:Q (.ref g,[.ref a]) s):wpAny (model X.prog X.w) A (getMethod (.ref a) m pl) Q E s:=by
 obtain⟨mA,O,r,_,_,_⟩:=ins_get I.hok e
 have hn:mA m=none:=uJ.none_of (by rw [←l];exact r m)
 exact get_meth I.kIn O (c.get m) k.at_ k.fn hn h
theorem setattr_ok {y:V} {u:Value} {Q:Unit→Shared→Prop} (I:Inv X pins σ H s) (e:H a=some (.ins C dx fs)) (c:Cls X.K C) (n:bG X.K C f) (hl:fs.length <1000) (ry:RelV y u)
  (h:∀s',Inv X pins σ (upd H a (.ins C dx (bh f y fs))) s'→Q () s'):wpAny (model X.prog X.w) A (setAttr (.ref a) f u) Q E s:=by
 obtain⟨mA,O,r,wi,_,ho⟩:=ins_get I.hok e
 have hz:(fs.map (·.1)).length≤sizeLine:=by rw [List.length_map,sizeLine_eq];omega
 refine set_map I.kIn O c.sa c.po n.taker c.hd wi hz fun h' O' sb=>h _ ?_
 have hd:∃o,h'.get? dx=some o:=let ⟨o,_,_,e',_⟩:=O'.ns;⟨o,e'⟩
 refine I.write (x:=a) (e:=dx) (by rw [e];exact True.intro) (.inr ho) (fun b q hb z=>(sb.2 b hb).trans z) hd ?_
 refine⟨by rw [aM O.ne];exact ho,?_,O.ne,O'.obj,_,O'.ns,fun g=>?_,fun g hg=>?_⟩
 ·have:=u9 f y fs;omega
 ·show uJ ((bh f y fs).lookup g) (if g=f then some u else mA g)
  rw [aN]
  by_cases q:g=f
  ·rw [if_pos q,if_pos q];exact ry
  ·rw [if_neg q,if_neg q];exact r g
 ·by_cases q:g=f
  ·rw [q];exact(yZ f y fs).1
  ·refine(yZ f y fs).2 g (wi g fun z=>hg ?_)
   show(if g=f then some u else mA g)=none
   rw [if_neg q];exact z
theorem Inv.made (I:Inv X pins σ H s):Inv X pins σ (upd (upd H s.heap.objs.size (.own (s.heap.objs.size+1))) (s.heap.objs.size+1) (.ins C s.heap.objs.size []))
  { s with heap:=(s.heap.push PySem.W.emptyDict).push (PySem.W.instObj C s.heap.objs.size) }:=by
 have e1:(s.heap.push PySem.W.emptyDict).get? s.heap.objs.size=some PySem.W.emptyDict:=Heap.get?_push_size s.heap rfl
 have e2:((s.heap.push PySem.W.emptyDict).push (PySem.W.instObj C s.heap.objs.size)).get? (s.heap.objs.size+1)=some (PySem.W.instObj C s.heap.objs.size):=by
  have:=Heap.get?_push_size (s.heap.push PySem.W.emptyDict) (o:=PySem.W.instObj C s.heap.objs.size) rfl
  rwa [Heap.size_push] at this
 have e3:(s.heap.push PySem.W.emptyDict).Ns s.heap.objs.size (fun _=>none):=⟨PySem.W.emptyDict,#[],_,e1,rfl,(fun e he=>absurd he (by simp)),fun _=>rfl⟩
 have I1:=I.laid (a:=s.heap.objs.size) (o:=.own (s.heap.objs.size+1)) (h':=s.heap.push PySem.W.emptyDict) (t':=s.toks) (fun b u q=>Heap.get?_push_of_some _ q) (Nat.le_refl _) ⟨_,e1⟩
 refine I1.laid (a:=s.heap.objs.size+1) (o:=.ins C s.heap.objs.size []) (t':=s.toks) (fun b u q=>Heap.get?_push_of_some _ q) (Nat.le_of_eq (Heap.size_push _ _)) ?_
 have ne:s.heap.objs.size≠s.heap.objs.size+1:=Nat.ne_of_lt (Nat.lt_succ_self _)
 refine⟨by rw [aM ne,aA],Nat.zero_le _,ne,e2,fun _=>none,(Heap.Ns1.of_empty e3).at fun o q=>Heap.get?_push_of_some _ q,fun _=>True.intro,fun y hy=>absurd rfl hy⟩
theorem attr_of {prog:Program} {w:World} {env:Env} {e:Expr} {f:Str} {pos:Pos} {s:Shared} {Q:Value→Shared→Prop} (hb:attributeBase e f env (eval e env)=eval e env)
  (h:wpAny (model prog w) A (eval e env) (fun o s₁=>wpAny (model prog w) A (getAttr o f true) Q E s₁) E s):wpAny (model prog w) A (eval (.Attribute e f pos) env) Q E s:=
 Attribute_any_ h (by rw [arm_eval_Attribute,hb])
end
def tFld (K:PySem.W.Frag) (ta:TE) (f:Str):TE:=fun σ H Q=>ta σ H fun x H1=>∃a C dx fs v,x=.ref a∧H1 a=some (.ins C dx fs)∧Cls K C∧bG K C f∧fs.lookup f=some v∧Q v H1
def sFld (K:PySem.W.Frag) (ta tv:TE) (f:Str):TS:=fun D σ H=>tv σ H fun y H1=>ta σ H1 fun x H2=>∃a C dx fs,x=.ref a∧H2 a=some (.ins C dx fs)∧Cls K C∧bG K C f∧fs.length <1000∧
 D.nx σ (upd H2 a (.ins C dx (bh f y fs)))
section
variable {X:Cx} {o e value:Expr} {f:Str} {pos pos' tpos:Pos} {ta tv:TE}
theorem cZ (he:PE X e ta) (hb:attributeBase e f X.env (eval e X.env)=eval e X.env):PE X (.Attribute e f pos) (tFld X.K ta f):=by
 intro pins s σ H Q I h
 refine attr_of hb (thn (he pins s σ H _ I h) fun u s1 hpt=>?_)
 obtain⟨x,H1,I1,rx,a,C,dx,fs,v,ex,ea,c,n,l,q⟩:=hpt
 subst ex
 obtain rfl:u=Value.ref a:=rx
 exact getattr_ok I1 ea c n l fun u' s2 I2 ru=>⟨v,H1,I2,ru,q⟩
theorem uc (ha:PE X o ta) (hv:PE X value tv) (hs:swapsWith value (some (.Attribute o f pos')) pos.line X.env=pure false):PS X (.Assign [.Attribute o f pos'] value pos) (sFld X.K ta tv f):=by
 intro pins s σ H D I h
 refine plainObj_wpAny_Assign_Attribute (thn (hv pins s σ H _ I h) fun u s1 ⟨y,H1,I1,ry,q⟩=>thn (ha pins s1 σ H1 _ I1 q) fun ov s2 hpt=>?_) hs
 obtain⟨x,H2,I2,rx,a,C,dx,fs,ex,ea,c,n,l,q2⟩:=hpt
 subst ex
 obtain rfl:ov=Value.ref a:=rx
 exact setattr_ok I2 ea c n l ry fun s3 I3=>⟨σ,_,I3,q2⟩
end
section
variable {X:Cx} {pins:List (Addr×Obj)} {σ:St} {H:Hp} {s:Shared} {A:Around} {E:Value→Shared→Prop} {Q:Value→Shared→Prop} {c:Value} {b:Bool}
end
end L2
namespace L2
open PySem PySem.Spec PyProof.Rows
structure Room (k:Nat) (A:Around):Prop where
 hd:A.handled=none
 dp:A.depth+3 * k+5 <recursionLimit
 un:A.units+16 * k+200 <cLine
theorem Room.mono {j k:Nat} {A:Around} (r:Room k A) (h:j≤k):Room j A:=⟨r.hd,by have:=r.dp;omega,by have:=r.un;omega⟩
theorem Room.deeper {k:Nat} {A:Around} (r:Room (k+1) A) (env:Env):Room k (A.deeper env):=
 ⟨r.hd,by have:=r.dp;show A.depth+1+3 * k+5 <_;omega,by have:=r.un;show A.units+3+16 * k+200 <_;omega⟩
theorem make_depth {A:Around} {C:Addr} {us:List Value} {kw:List (Str×Value)}:(A.under (.builtin "type.__call__" ⟨.ref C:: us,kw⟩)).depth=A.depth+1:=by
 first | rfl | simp [Around.under,Code.weight,Code.isCreation,Code.isGuard,Code.isCaller,Code.frames,Code.isFrame,guardIds]
theorem make_units {A:Around} {C:Addr} {us:List Value} {kw:List (Str×Value)}:(A.under (.builtin "type.__call__" ⟨.ref C:: us,kw⟩)).units=A.units+1:=by
 first | rfl | simp [Around.under,Code.cUnits,Code.frames,Code.isFrame]
theorem Room.make {k:Nat} {A:Around} (r:Room (k+1) A) (C:Addr) (us:List Value) (kw:List (Str×Value)):Room k (A.under (.builtin "type.__call__" ⟨.ref C:: us,kw⟩)):=
 ⟨r.hd,by have:=r.dp;rw [make_depth];omega,by have:=r.un;rw [make_units];omega⟩
theorem Room.depth {k:Nat} {A:Around} (r:Room k A):A.depth <recursionLimit:=by have:=r.dp;omega
theorem Room.units {k:Nat} {A:Around} (r:Room k A):A.units+64 <cLine:=by have:=r.un;omega
def tNil:TA:=fun _ H Q=>Q [] H
def tCons (ta:TE) (tr:TA):TA:=fun σ H Q=>ta σ H fun x H1=>tr σ H1 fun xs H2=>Q (x:: xs) H2
section
variable {X:Cx} {e:Expr} {es:List Expr} {te:TE} {t:TA} {pos:Pos}
theorem ak:PA X [] tNil:=fun _ _ _ _ H Q I h=>Calls.spliced_nil ⟨[],H,I,.nil,h⟩
theorem aa (ha:PE X e te) (hr:PA X es t) (hs:starEach (e:: es) X.env=(false,eval e X.env):: starEach es X.env:=by rfl):PA X (e:: es) (tCons te t):=by
 intro pos pins s σ H Q I h
 rw [hs]
 show wpAny _ _ (spliced ((false,eval e X.env):: backTo pos (starEach es X.env))) _ _ s
 refine Calls.spliced_cons (thn (ha pins s σ H _ I h) fun u s1 hpt=>?_)
 obtain⟨x,H1,I1,r1,q1⟩:=hpt
 exact thn (hr pos pins s1 σ H1 _ I1 q1) fun us s2 ⟨xs,H2,I2,r2,q2⟩=>⟨x:: xs,H2,I2,.cons r1 r2,q2⟩
def tTup (t:TA):TE:=fun σ H Q=>t σ H fun xs H1=>xs.length≤sizeLine∧∀p,H1 p=none→Q (.ref p) (upd H1 p (.tup xs))
def tLst (t:TA):TE:=fun σ H Q=>t σ H fun xs H1=>xs.length≤sizeLine∧∀p,H1 p=none→Q (.ref p) (upd H1 p (.lst xs))
theorem ie {x1} (h:PA X es t):PE X (.Tuple es x1 pos) (tTup t):=by
 intro pins s σ H Q I hq
 refine wpAny_Tuple_spliced (thn (h pos pins s σ H _ I hq) fun us s1 ⟨xs,H1,I1,r,z,q⟩=>⟨by rw [←r.length];exact z,?_⟩)
 have hf:H1 s1.heap.objs.size=none:=I1.hok.fresh (Nat.le_refl _)
 refine⟨.ref s1.heap.objs.size,upd H1 s1.heap.objs.size (.tup xs),I1.laid (t':=s1.toks) (fun b u e=>Heap.get?_push_of_some _ e) (Nat.le_refl _) ?_,rfl,q _ hf⟩
 exact⟨z,us,r,⟨_,Heap.get?_push_size _ rfl,rfl,_,rfl⟩⟩
theorem bO (h:PA X es t):PE X (.List es pos) (tLst t):=by
 intro pins s σ H Q I hq
 refine wpAny_List_spliced (thn (h pos pins s σ H _ I hq) fun us s1 ⟨xs,H1,I1,r,z,q⟩=>⟨by rw [←r.length];exact z,?_⟩)
 have hf:H1 s1.heap.objs.size=none:=I1.hok.fresh (Nat.le_refl _)
 refine⟨.ref s1.heap.objs.size,upd H1 s1.heap.objs.size (.lst xs),I1.laid (t':=s1.toks) (fun b u e=>Heap.get?_push_of_some _ e) (Nat.le_refl _) ?_,rfl,q _ hf⟩
 exact⟨z,us,0,r,Heap.get?_push_size _ rfl⟩
end
abbrev Sp:=List V→Hp→VK→XK→Prop
abbrev CXT:=List Env→Hp→Shared→XK→Value→Shared→Prop
structure Env0 (P:Program) (w:World) (K:PySem.W.Frag) (mg:Str→Option Value) (base:Heap) (A:Around) (outer:List Env) (s:Shared) (H:Hp):Prop where
 frames:A.frames=some outer
 mod:Mod K mg base
 bs:∀b o,base.get? b=some o→s.heap.get? b=some o∧H b=none
 bsz:base.objs.size≤s.heap.objs.size
 funs:s.heap.FunFrames base outer
 frf:∀b∈frs outer,H b=none
 hok:HOk P w H s.heap
 bare:AllBare s.gens
def CE (outer:List Env) (P:Program) (w:World) (H:Hp) (s:Shared) (Q:VK) (u:Value) (s':Shared):Prop:=
 ∃v H',s'.os=s.os∧AllBare s'.gens∧Un (frs outer) [] H H' s.heap s'.heap∧HOk P w H' s'.heap∧RelV v u∧Q v H'
def CR (CX:CXT) (outer:List Env) (P:Program) (w:World) (H:Hp) (s:Shared) (Q:VK) (E:XK) (r:Result) (s':Shared):Prop:=
 match r with
 | .ok (.ret u)=>CE outer P w H s Q u s'
 | .ok _=>False
 | .error e=>CX outer H s E e s'
structure FnOk (P:Program) (w:World) (K:PySem.W.Frag) (mg:Str→Option Value) (base:Heap) (CX:CXT) (k:Nat) (f:Addr) (fd:FuncData) (ps:List Str) (sp:Sp):Prop where
 len:∀vs H Q E,sp vs H Q E→vs.length=ps.length
 run:∀(A:Around) (outer:List Env) (s:Shared) (H:Hp) (args:Args) (us:List Value) (vs:List V) (Q:VK) (E:XK),Room k A→Env0 P w K mg base A outer s H→BindsTo s fd args (ps.zip us)→Vals vs us→sp vs H Q E→
  codeAny (model P w) A (.call (.ref f) args) (CR CX outer P w H s Q E) s
theorem Env0.make {P:Program} {w:World} {K:PySem.W.Frag} {mg:Str→Option Value} {base:Heap} {A:Around} {outer:List Env} {s:Shared} {H:Hp} (e:Env0 P w K mg base A outer s H) (C:Addr) (us:List Value) (kw:List (Str×Value)):
  Env0 P w K mg base (A.under (.builtin "type.__call__" ⟨.ref C:: us,kw⟩)) outer s H:=⟨by first | exact e.frames | (simpa [Around.under,Code.envs,Code.isFrame,pushEnvs] using e.frames),e.mod,e.bs,e.bsz,e.funs,e.frf,e.hok,e.bare⟩
section
variable {X:Cx} {pins:List (Addr×Obj)} {σ:St} {H:Hp} {s s':Shared}
theorem Inv.env0 (I:Inv X pins σ H s):Env0 X.prog X.w X.K X.mg X.base X.A X.stack s H:=
 ⟨I.ok.frames,I.ok.mod,I.bs,Nat.le_trans I.ok.bsz I.sz,I.stack,I.stkFree,I.hok,I.bare⟩
theorem Inv.after {Q:VK} {u:Value} (I:Inv X pins σ H s) (h:CE X.stack X.prog X.w H s Q u s'):EP X pins σ Q u s':=by
 obtain⟨v,H',os,bare,un,hok,r,q⟩:=h
 obtain⟨hh,g,d,t,os'⟩:=s'
 obtain rfl:os'=s.os:=os
 exact⟨v,H',I.call (h':=hh) (g':=g) (d':=d) (t':=t) (ch:=[]) un hok bare (fun b z=>absurd z (by simp)),r,q⟩
end
def tCall (sp:Sp) (dvs:List V) (E:XK) (t:TA):TE:=fun σ H Q=>t σ H fun vs H1=>sp (vs ++ dvs) H1 Q E
def tMeth (C:Addr) (m:Str) (sp:Sp) (dvs:List V) (E:XK) (ta:TE) (t:TA):TE:=fun σ H Q=>ta σ H fun x H1=>∃a dx fs,x=.ref a∧H1 a=some (.ins C dx fs)∧fs.lookup m=none∧
 t σ H1 fun vs H2=>sp (x:: (vs ++ dvs)) H2 Q E
def tMake (C:Addr) (sp:Sp) (dvs:List V) (E:XK) (t:TA):TE:=fun σ H Q=>t σ H fun vs H1=>∀x dx,H1 x=none→H1 dx=none→dx≠x→
 sp (.ref x:: (vs ++ dvs)) (upd (upd H1 dx (.own x)) x (.ins C dx [])) (fun v H2=>v=.non∧Q (.ref x) H2) E
def Binds (K:PySem.W.Frag) (fd:FuncData) (ps:List Str) (ds:List Value):Prop:=
 ∀(s:Shared) (us:List Value),K.In s.heap→(us ++ ds).length=ps.length→BindsTo s fd ⟨us,[]⟩ (ps.zip (us ++ ds))
theorem Binds.all {K:PySem.W.Frag} {fd:FuncData} {ps:List Str} (h:∀us:List Value,us.length=ps.length→bindArgs fd ⟨us,[]⟩=pure (ps.zip us)):Binds K fd ps []:=fun s us _ hl=>by
 rw [List.append_nil] at hl ⊢
 exact .of_eq (h us hl)
def wu (CX:CXT) (X:Cx) (E:XK):Prop:=∀(pins:List (Addr×Obj)) (σ:St) (H:Hp) (s:Shared) (e:Value) (s':Shared),Inv X pins σ H s→CX X.stack H s E e s'→X.xe e s'
section
variable {X:Cx} {CX:CXT} {k:Nat} {f C:Addr} {fd:FuncData} {ps:List Str} {sp:Sp} {dvs:List V} {ds:List Value} {E:XK} {x m:Str} {p pos apos:Pos} {e o:Expr} {es:List Expr} {ta:TE} {t:TA}
theorem run_fn {pins:List (Addr×Obj)} {σ:St} {H:Hp} {s:Shared} {Q:VK} {us:List Value} {vs:List V} (F:FnOk X.prog X.w X.K X.mg X.base CX k f fd ps sp) (hr:Room k X.A) (hb:Binds X.K fd ps ds) (hd:Vals dvs ds) (hx:wu CX X E)
  (I:Inv X pins σ H s) (r:Vals vs us) (h:sp (vs ++ dvs) H Q E):wpAny (model X.prog X.w) X.A (call (.ref f) us) (EP X pins σ Q) X.xe s:=by
 have r2:Vals (vs ++ dvs) (us ++ ds):=r.append hd
 have hl:(us ++ ds).length=ps.length:=by rw [←r2.length];exact F.len _ _ _ _ h
 refine wpAny_call (codeAny_mono (F.run X.A X.stack s H ⟨us,[]⟩ (us ++ ds) (vs ++ dvs) Q E hr I.env0 (hb s us I.kIn hl) r2 h) fun r s' hq=>?_)
 cases r with
 | error e=>exact hx pins σ H s e s' I hq
 | ok fl=>
  cases fl with
  | ret u=>exact I.after hq
  | next=>exact False.elim hq
  | brk=>exact False.elim hq
  | cont=>exact False.elim hq
theorem aJ (F:FnOk X.prog X.w X.K X.mg X.base CX k f fd ps sp) (hr:Room k X.A) (hg:Gl X x) (hm:X.mg x=some (.ref f)) (hk:PySem.W.keepIn X.K (.ref f)=true) (hb:Binds X.K fd ps ds) (hd:Vals dvs ds) (hx:wu CX X E)
  (ha:PA X (e:: es) t) (hdb:(x == ("__debug__" :Str))=false:=by decide) (he:starEach (e:: es) X.env=(false,eval e X.env):: starEach es X.env:=by rfl) (hpl:(backTo pos (starEach es X.env)).any (·.1)=false:=by rfl):
  PE X (.Call (.Name x p) (e:: es) [] pos) (tCall sp dvs E t):=by
 intro pins s σ H Q I h
 refine wpAny_Call_Name_kw (ld_glob I hg hm ?_ hdb)
 refine PySem.W.callWith_K (h₀:=X.base) I.ok.mod.kin hk (thn (ha pos pins s σ H _ I h) fun us s1 ⟨vs,H1,I1,r,q⟩=>⟨I1.kIn,?_⟩) he hpl
 exact run_fn F hr hb hd hx I1 r q
theorem qt {pl:Sem Bool} (he:PE X o ta) (c:Cls X.K C) (hm:Meth X.K C m f) (F:FnOk X.prog X.w X.K X.mg X.base CX k f fd ps sp) (hr:Room k X.A) (hb:Binds X.K fd ps ds) (hd:Vals dvs ds) (hx:wu CX X E) (ha:PA X (e:: es) t)
  (hst:starEach (e:: es) X.env=(false,eval e X.env):: starEach es X.env:=by rfl) (hpl:(backTo pos (starEach es X.env)).any (·.1)=false:=by rfl)
  (ht:eval (.Call (.Attribute o m apos) (e:: es) [] pos) X.env=(do
   let ov ←eval o X.env
   standAt apos.atName
   let (f,first) ←holding [ov] (getMethod ov m pl)
   callWith pos f first (backTo pos (starEach (e:: es) X.env)) (backToKw pos (keywordEach [] X.env))):=by rfl):
  PE X (.Call (.Attribute o m apos) (e:: es) [] pos) (tMeth C m sp dvs E ta t):=by
 intro pins s σ H Q I h
 refine PySem.W.methodCall_KW (pl:=pl) (thn (he pins s σ H _ I h) fun u s1 hpt=>?_) ht
 obtain⟨x,H1,I1,rx,a,dx,fs,ex,ea,l,q⟩:=hpt
 subst ex
 obtain rfl:u=Value.ref a:=rx
 refine xT I1 ea c hm l ?_
 refine PySem.W.callWith_K (first:=[.ref a]) (h₀:=X.base) I.ok.mod.kin hm.kp (thn (ha pos pins s1 σ H1 _ I1 q) fun us s2 ⟨vs,H2,I2,r,q2⟩=>⟨I2.kIn,?_⟩) hst hpl
 exact run_fn (us:=.ref a:: us) (vs:=.ref a:: vs) F hr hb hd hx I2 (.cons rfl r) q2
theorem rG {pl:Sem Bool} (he:PE X o ta) (c:Cls X.K C) (hm:Meth X.K C m f) (F:FnOk X.prog X.w X.K X.mg X.base CX k f fd ps sp) (hr:Room k X.A) (hb:Binds X.K fd ps ds) (hd:Vals dvs ds) (hx:wu CX X E)
  (ht:eval (.Call (.Attribute o m apos) [] [] pos) X.env=(do
   let ov ←eval o X.env
   standAt apos.atName
   let (f,first) ←holding [ov] (getMethod ov m pl)
   callWith pos f first (backTo pos (starEach [] X.env)) (backToKw pos (keywordEach [] X.env))):=by rfl):
  PE X (.Call (.Attribute o m apos) [] [] pos) (tMeth C m sp dvs E ta tNil):=by
 intro pins s σ H Q I h
 refine PySem.W.methodCall_KW (pl:=pl) (thn (he pins s σ H _ I h) fun u s1 hpt=>?_) ht
 obtain⟨x,H1,I1,rx,a,dx,fs,ex,ea,l,q⟩:=hpt
 subst ex
 obtain rfl:u=Value.ref a:=rx
 refine xT I1 ea c hm l ?_
 exact PySem.W.callWith_K0 (first:=[.ref a]) I1.kIn hm.kp (run_fn (us:=[.ref a]) (vs:=[.ref a]) F hr hb hd hx I1 (.cons rfl .nil) q)
structure Mk (K:PySem.W.Frag) (C f:Addr):Prop where
 makes:PySem.W.makesIn K C=true
 init:PySem.W.findIn K (.ref C) "__init__" =some (some (.ref f))
 fn:PySem.W.isFn K (.ref f)=true
 kp:PySem.W.keepIn K (.ref C)=true
theorem run_make {pins:List (Addr×Obj)} {σ:St} {H:Hp} {s:Shared} {Q:VK} {us:List Value} {vs:List V} (M:Mk X.K C f) (F:FnOk X.prog X.w X.K X.mg X.base CX k f fd ps sp) (hr:Room (k+1) X.A) (hb:Binds X.K fd ps ds) (hd:Vals dvs ds)
  (hx:wu CX X E) (I:Inv X pins σ H s) (r:Vals vs us)
  (h:∀x dx,H x=none→H dx=none→dx≠x→sp (.ref x:: (vs ++ dvs)) (upd (upd H dx (.own x)) x (.ins C dx [])) (fun v H2=>v=.non∧Q (.ref x) H2) E):
  wpAny (model X.prog X.w) X.A (call (.ref C) us) (EP X pins σ Q) X.xe s:=by
 have hq:=h (s.heap.objs.size+1) s.heap.objs.size (I.hok.fresh (Nat.le_succ _)) (I.hok.fresh (Nat.le_refl _)) (Nat.ne_of_lt (Nat.lt_succ_self _))
 have I2:=Inv.made (C:=C) I
 have r2:Vals (V.ref (s.heap.objs.size+1):: (vs ++ dvs)) (Value.ref (s.heap.objs.size+1):: (us ++ ds)):=.cons rfl (r.append hd)
 have hl:(Value.ref (s.heap.objs.size+1):: us ++ ds).length=ps.length:=by
  have e:=r2.length
  rw [F.len _ _ _ _ hq] at e
  exact e.symm
 refine wpAny_call (make_map (f:=f) I.kIn M.makes M.init (beq_iff_eq.mp M.fn) (codeAny_mono (F.run _ X.stack _ _ ⟨Value.ref (s.heap.objs.size+1):: us,[]⟩ (Value.ref (s.heap.objs.size+1):: (us ++ ds)) _ _ E (hr.make C us [])
  (I2.env0.make C us []) (hb _ (Value.ref (s.heap.objs.size+1):: us) I2.kIn hl) r2 hq) fun r s' hq'=>?_))
 cases r with
 | error e=>exact hx pins σ _ _ e s' I2 hq'
 | ok fl=>
  cases fl with
  | ret u=>
   obtain⟨v,H',I3,rv,ev,q3⟩:=I2.after hq'
   subst ev
   exact⟨rv,⟨V.ref (s.heap.objs.size+1),H',I3,rfl,q3⟩⟩
  | next=>exact False.elim hq'
  | brk=>exact False.elim hq'
  | cont=>exact False.elim hq'
theorem kJ (M:Mk X.K C f) (F:FnOk X.prog X.w X.K X.mg X.base CX k f fd ps sp) (hr:Room (k+1) X.A) (hg:Gl X x) (hm:X.mg x=some (.ref C)) (hb:Binds X.K fd ps ds) (hd:Vals dvs ds) (hx:wu CX X E)
  (ha:PA X (e:: es) t) (hdb:(x == ("__debug__" :Str))=false:=by decide) (he:starEach (e:: es) X.env=(false,eval e X.env):: starEach es X.env:=by rfl) (hpl:(backTo pos (starEach es X.env)).any (·.1)=false:=by rfl):
  PE X (.Call (.Name x p) (e:: es) [] pos) (tMake C sp dvs E t):=by
 intro pins s σ H Q I h
 refine wpAny_Call_Name_kw (ld_glob I hg hm ?_ hdb)
 refine PySem.W.callWith_K (h₀:=X.base) I.ok.mod.kin M.kp (thn (ha pos pins s σ H _ I h) fun us s1 ⟨vs,H1,I1,r,q⟩=>⟨I1.kIn,?_⟩) he hpl
 exact run_make M F hr hb hd hx I1 r q
end
section
variable {X:Cx} {CX:CXT} {k:Nat} {f C:Addr} {fd:FuncData} {ps ks:List Str} {sp:Sp} {E:XK} {x m:Str} {p pos apos kpos:Pos} {e o:Expr} {es:List Expr} {kws:List Keyword} {te ta:TE} {t tk:TA} {nm:Option Str}
variable {g:List Value→List Value→List Value} {gV:List V→List V→List V}
end
structure FnScope (N P:List Str) (sc:Scope):Prop where
 kind:sc.kind=.function
 co:sc.isCoroutine=false
 gen:sc.isGenerator=false
 nd:N.Nodup
 pre:N.take P.length=P
 par:∀x∈P,sc.names.lookup x=some .local∨sc.names.lookup x=some .cell
 nofree:∀y∈sc.names,y.2≠.free
theorem bindL_out {kindOf:Str→Option NameKind} {x:Str}:∀{binds:List (Str×Value)} {m:Str→Option Value},(∀v,(x,v)∉binds)→bindL kindOf binds m x=m x
 | [],_,_=>rfl
 | (n,v):: r,m,h=>by
  unfold bindL
  rw [bindL_out fun w hw=>h w (List.mem_cons_of_mem _ hw)]
  split
  ·have:x≠n:=by rintro rfl;exact h v List.mem_cons_self
   simp [this]
  ·rfl
theorem bindC_out {kindOf:Str→Option NameKind} {x:Str}:∀{binds:List (Str×Value)} {m:Str→Option Value},(∀v,(x,v)∉binds)→bindC kindOf binds m x=m x
 | [],_,_=>rfl
 | (n,v):: r,m,h=>by
  unfold bindC
  rw [bindC_out fun w hw=>h w (List.mem_cons_of_mem _ hw)]
  split
  ·rfl
  ·have:x≠n:=by rintro rfl;exact h v List.mem_cons_self
   simp [this]
theorem bindL_get {kindOf:Str→Option NameKind} {x:Str} {v:Value}:∀{P:List Str} {vs:List Value} {i:Nat} {m:Str→Option Value},P.Nodup→P[i]?=some x→vs[i]?=some v→kindOf x=some .local→
  bindL kindOf (P.zip vs) m x=some v
 | [],_,_,_,_,h,_,_=>by simp at h
 | _:: _,[],_,_,_,_,h,_=>by simp at h
 | p:: P,w:: vs,0,m,nd,h1,h2,hk=>by
  simp at h1 h2;subst h1;subst h2
  show bindL kindOf ((p,w):: P.zip vs) m p=_
  unfold bindL
  rw [bindL_out fun v hv=>(List.nodup_cons.mp nd).1 (List.of_mem_zip hv).1,if_pos hk]
  simp
 | p:: P,w:: vs,i+1,m,nd,h1,h2,hk=>by
  show bindL kindOf ((p,w):: P.zip vs) m x=_
  unfold bindL
  exact bindL_get (i:=i) (List.nodup_cons.mp nd).2 (by simpa using h1) (by simpa using h2) hk
theorem bindC_get {kindOf:Str→Option NameKind} {x:Str} {v:Value}:∀{P:List Str} {vs:List Value} {i:Nat} {m:Str→Option Value},P.Nodup→P[i]?=some x→vs[i]?=some v→kindOf x≠some .local→
  bindC kindOf (P.zip vs) m x=some v
 | [],_,_,_,_,h,_,_=>by simp at h
 | _:: _,[],_,_,_,_,h,_=>by simp at h
 | p:: P,w:: vs,0,m,nd,h1,h2,hk=>by
  simp at h1 h2;subst h1;subst h2
  show bindC kindOf ((p,w):: P.zip vs) m p=_
  unfold bindC
  rw [bindC_out fun v hv=>(List.nodup_cons.mp nd).1 (List.of_mem_zip hv).1,if_neg hk]
  simp
 | p:: P,w:: vs,i+1,m,nd,h1,h2,hk=>by
  show bindC kindOf ((p,w):: P.zip vs) m x=_
  unfold bindC
  exact bindC_get (i:=i) (List.nodup_cons.mp nd).2 (by simpa using h1) (by simpa using h2) hk
def start (N:List Str) (vs:List V):St:=vs.map some ++ List.replicate (N.length - vs.length) none
def cxOf (CX:CXT) (P:Program) (w:World) (K:PySem.W.Frag) (mg:Str→Option Value) (base:Heap) (N:List Str) (qual:Str) (scope:Scope) (f:Addr) (cd:Value) (A:Around) (outer:List Env) (s:Shared) (H:Hp) (E:XK):Cx where
 prog:=P
 w:=w
 K:=K
 mg:=mg
 base:=base
 A:=A.deeper (envOfC qual scope s.heap.objs.size f cd)
 N:=N
 s₀:=s
 H₀:=H
 env:=envOfC qual scope s.heap.objs.size f cd
 outer:=outer
 stack:=envOfC qual scope s.heap.objs.size f cd:: outer
 ex:=[]
 calm:=true
 fn:=fun _=>true
 pn:=[]
 xe:=fun e s'=>wpAny (model P w) (A.deeper (envOfC qual scope s.heap.objs.size f cd)) (leaving (envOfC qual scope s.heap.objs.size f cd) e) (fun _ s''=>CX outer H s E e s'') (fun e' s''=>CX outer H s E e' s'') s'
theorem cell_has {sc:Scope} {n:Nat} {x:Str} (h:sc.names.lookup x=some .cell):∃c,(cellsFrom n sc.names []).lookup x=some c:=by
 have q:=PySem.W.cellsFrom_some sc.names n [] (.inl h)
 exact Option.isSome_iff_exists.mp q
theorem inv_start {CX:CXT} {P:Program} {w:World} {K:PySem.W.Frag} {mg:Str→Option Value} {base:Heap} {N ps:List Str} {qual:Str} {scope:Scope} {f:Addr} {cd:Value} {A:Around} {outer:List Env} {s s1:Shared} {H:Hp} {E:XK} {us:List Value} {vs:List V}
  (S:FnScope N ps scope) (hd:A.handled=none) (e0:Env0 P w K mg base A outer s H) (hl:vs.length=ps.length) (r:Vals vs us)
  (x:InCallC s s.heap.objs.size (bindL (envOfC qual scope s.heap.objs.size f cd).kindOf (ps.zip us) fun _=>none) (cellsFrom (s.heap.objs.size+1) scope.names []) (bindC (envOfC qual scope s.heap.objs.size f cd).kindOf (ps.zip us) fun _=>none) s1):
  Inv (cxOf CX P w K mg base N qual scope f cd A outer s H E) [] (start N vs) H s1:=by
 have hpl:ps.length≤N.length:=by have:=congrArg List.length S.pre;rw [List.length_take] at this;omega
 obtain⟨h1,tk,rfl,hk⟩:=x.done
 have noA:∀b:Addr,b∉(cxOf CX P w K mg base N qual scope f cd A outer s H E).ex:=fun b z=>absurd (show b∈([]:List Addr) from z) (by simp)
 refine⟨⟨e0.mod,S.kind,rfl,rfl,Nat.le_refl _,fun y z c h1 h2=>?_,fun y hy=>?_,fun y c _ h=>?_,fun _=>hd,Around.frames_deeper e0.frames,.inr ⟨rfl,rfl⟩,fun b z=>absurd z (noA b),e0.bs,e0.bsz,fun b _ _=>noA b,fun b z=>absurd z (noA b),e0.funs,e0.frf⟩,
  rfl,e0.bare,Un.kept hk,⟨_,x.toInCall.ns,fun i y v h1 h2 h3=>?_⟩,fun y c h=>⟨_,x.cell y c h⟩,e0.hok.fresh (Nat.le_refl _),fun y c h=>?_,fun p hp=>absurd (show p∈([]:List (Addr×Obj)) from hp) (by simp),e0.hok.kept hk,?_⟩
 ·exact name_of_addr x.apart (PySem.mem_of_lookup h1) (PySem.mem_of_lookup h2)
 ·have hy:scope.names.lookup y=some .cell∨scope.names.lookup y=some .free:=hy
  rcases hy with hy | hy
  ·exact cell_has hy
  ·exact absurd rfl (S.nofree _ (PySem.mem_of_lookup hy))
 ·exact Nat.le_of_lt (x.above y c (PySem.mem_of_lookup h))
 ·have hi:i <vs.length:=by
   unfold start at h2
   by_cases hi:i <vs.length
   ·exact hi
   ·rw [List.getElem?_append_right (by simpa using hi)] at h2
    rw [List.getElem?_replicate] at h2
    split at h2 <;> cases h2
  have ha:vs[i]?=some v:=by
   unfold start at h2
   rw [List.getElem?_append_left (by simpa using hi),List.getElem?_map] at h2
   cases e:vs[i]? with
   | none=>rw [e] at h2;cases h2
   | some a=>rw [e] at h2;cases h2;rfl
  obtain⟨u,hu,rv⟩:=r.get ha
  have hp:ps[i]?=some y:=by
   rw [←S.pre,List.getElem?_take_of_lt (by omega)];exact h1
  have ndP:ps.Nodup:=by rw [←S.pre];exact S.nd.sublist (List.take_sublist _ _)
  refine⟨u,rv,?_⟩
  rcases S.par y (List.mem_of_getElem? hp) with k | k
  ·exact .inl ⟨k,bindL_get ndP hp hu k⟩
  ·obtain⟨c,e⟩:=cell_has (n:=s.heap.objs.size+1) k
   refine .inr ⟨.inl k,c,e,?_⟩
   have q:=x.cell y c e
   rw [bindC_get ndP hp hu (by show scope.names.lookup y≠_;rw [k];decide)] at q
   exact q
 ·exact e0.hok.fresh (Nat.le_of_lt (x.above y c (PySem.mem_of_lookup h)))
 ·unfold start
  show _=N.length
  rw [List.length_append,List.length_map,List.length_replicate]
  omega
theorem fn_of {CX:CXT} {P:Program} {w:World} {K:PySem.W.Frag} {mg:Str→Option Value} {base:Heap} {k:Nat} {f:Addr} {name qual:Str} {params:Arguments} {body:List Stmt} {scope:Scope} {dV kV doc pm cdv ct oc:Value} {an od:Option Addr}
  {osl:Array (Option Value)} {N ps:List Str} {sp:Sp} (lk:K.lookup f=some ⟨oc,od,.func (PySem.W.fnOf name qual params body scope dV kV doc pm an cdv ct),osl⟩) (hcd:PySem.W.codeIn K cdv qual=true) (S:FnScope N ps scope)
  (len:∀vs H Q E,sp vs H Q E→vs.length=ps.length)
  (hbody:∀(A:Around) (outer:List Env) (s:Shared) (H:Hp) (vs:List V) (Q:VK) (E:XK),Room k (A.deeper (envOfC qual scope s.heap.objs.size f cdv))→sp vs H Q E→
   ∃t,PSs (cxOf CX P w K mg base N qual scope f cdv A outer s H E) body t∧t { nx:=fun _ H'=>Q .non H',rt:=Q } (start N vs) H):
  FnOk P w K mg base CX (k+1) f (PySem.W.fnOf name qual params body scope dV kV doc pm an cdv ct) ps sp:=by
 refine⟨len,fun A outer s H args us vs Q E hr e0 hb r hsp=>?_⟩
 have hl:=len _ _ _ _ hsp
 have KX:K.In s.heap:=e0.mod.kin.keeps fun b o e=>(e0.bs b o e).1
 have lim:s.heap.NoLimit:=e0.mod.nolimit.keeps fun b o e=>(e0.bs b o e).1
 have hkind:∀y∈ps.zip us,scope.names.lookup y.1=some .local∨(scope.names.lookup y.1=some .cell∧((cellsFrom (s.heap.objs.size+1) scope.names []).lookup y.1).isSome=true):=fun⟨n,v⟩ hy=>by
  rcases S.par n (List.of_mem_zip hy).1 with q | q
  ·exact .inl q
  ·exact .inr ⟨q,PySem.W.cellsFrom_some _ _ _ (.inl q)⟩
 refine codeAny_call_function hr.depth (KX _ _ lk) rfl S.co S.gen rfl (PySem.W.codeRec_of KX hcd) (hb _ _ _ _ ?_)
 refine wpAny_newFunctionEnv_cells S.kind hkind fun env he s1 x=>?_
 subst he
 refine⟨lim.keeps x.toInCall.keep,codeAny_func ?_⟩
 obtain⟨t,ht,hq⟩:=hbody A outer s H vs Q E (hr.deeper _) hsp
 have I:Inv (cxOf CX P w K mg base N qual scope f cdv A outer s H E) [] (start N vs) H s1:=inv_start S hr.hd e0 hl r x
 refine wpAny_mono (ht [] s1 (start N vs) H _ I hq) (fun fl s' hs=>?_) fun e s' hs=>hs
 have fin:∀{σ':St} {H':Hp} {v:V} {u:Value},Inv (cxOf CX P w K mg base N qual scope f cdv A outer s H E) [] σ' H' s'→RelV v u→Q v H'→CE outer P w H s Q u s':=
  fun {σ' H' v u} J rv q=>⟨v,H',J.os,J.bare,J.base,J.hok,rv,q⟩
 cases fl with
 | ret u=>
  obtain⟨v,σ',H',J,rv,q⟩:=hs
  exact fin J rv q
 | next=>
  obtain⟨σ',H',J,q⟩:=hs
  exact fin (v:=V.non) (u:=Value.none) J rfl q
 | brk=>
  obtain⟨_,_,_,q⟩:=hs
  exact False.elim q
 | cont=>
  obtain⟨_,_,_,q⟩:=hs
  exact False.elim q
end L2
namespace L2
open PySem PySem.Spec PyProof.Rows
section
variable {X:Cx} {x:Str} {p pos:Pos} {e:Expr} {es:List Expr} {t:TA} {id T:String} {r:List V→Hp→VK→Prop}
def tCB (r:List V→Hp→VK→Prop) (t:TA):TE:=fun σ H Q=>t σ H fun vs H1=>r vs H1 Q
theorem aV (hc:oK X (.builtin id) r) (hg:Gl X x) (hm:X.mg x=none) (hv:bootBuiltins x=some (.builtin id)) (ha:PA X (e:: es) t) (hn:x≠ "__name__" :=by decide) (hdb:(x == ("__debug__" :Str))=false:=by decide)
  (he:starEach (e:: es) X.env=(false,eval e X.env):: starEach es X.env:=by rfl) (hpl:(backTo pos (starEach es X.env)).any (·.1)=false:=by rfl):PE X (.Call (.Name x p) (e:: es) [] pos) (tCB r t):=by
 intro pins s σ H Q I h
 refine wpAny_Call_Name_kw (yX I hg hm hv ?_ hn hdb)
 exact PyProof.Rows.callWith_builtin1 (thn (ha pos pins s σ H _ I h) fun us s1 ⟨vs,H1,I1,r1,q1⟩=>hc pins s1 σ H1 vs us Q I1 r1 q1) he hpl
theorem eY (hc:oK X (.type T) r) (hg:Gl X x) (hm:X.mg x=none) (hv:bootBuiltins x=some (.type T)) (ha:PA X (e:: es) t) (hn:x≠ "__name__" :=by decide) (hdb:(x == ("__debug__" :Str))=false:=by decide)
  (he:starEach (e:: es) X.env=(false,eval e X.env):: starEach es X.env:=by rfl) (hpl:(backTo pos (starEach es X.env)).any (·.1)=false:=by rfl):PE X (.Call (.Name x p) (e:: es) [] pos) (tCB r t):=by
 intro pins s σ H Q I h
 refine wpAny_Call_Name_kw (yX I hg hm hv ?_ hn hdb)
 exact PyProof.Rows.callWith_type1 (thn (ha pos pins s σ H _ I h) fun us s1 ⟨vs,H1,I1,r1,q1⟩=>hc pins s1 σ H1 vs us Q I1 r1 q1) he hpl
end
end L2
namespace HT
open PySem PyProof.Rows
section
open PySem.SeqAt
open PySem.AutoSeq1 (wpAny_loadPart')
open PySem.MeetsSeq PySem.MeetsSeq2 PySem.MeetsSeq3
end
section
variable {prog:Program} {w:World} {A:Around} {E:Value→Shared→Prop} {s:Shared}
def sIx (n d:Nat):Option Int→Nat
 | none=>d
 | some v=>if v <0 then(v+(n:Int)).toNat else min v.toNat n
theorem sIx_none (n d:Nat):sIx n d none=d:=rfl
theorem Ad (n d k:Nat):sIx n d (some (k:Int))=min k n:=by
 show(if (k:Int) <0 then((k:Int)+(n:Int)).toNat else min (k:Int).toNat n)=min k n
 rw [if_neg (by omega),Int.toNat_natCast]
theorem sIx_le (n d:Nat) (hd:d≤n) (o:Option Int):sIx n d o≤n:=by
 cases o with
 | none=>exact hd
 | some v=>
  show(if v <0 then(v+(n:Int)).toNat else min v.toNat n)≤n
  by_cases hv:v <0
  ·rw [if_pos hv];omega
  ·rw [if_neg hv];exact Nat.min_le_right _ _
theorem clip_eq (v:Int) (n d:Nat):(if v <0 then max (v+(n:Int)) 0 else min v (n:Int))=((sIx n d (some v):Nat):Int):=by
 show(if v <0 then max (v+(n:Int)) 0 else min v (n:Int))=(((if v <0 then(v+(n:Int)).toNat else min v.toNat n):Nat):Int)
 by_cases hv:v <0
 ·simp only [if_pos hv];omega
 ·simp only [if_neg hv];omega
theorem adjust_gen (lo hi:Option Int) (n:Nat):Builtin.Slice.sliceAdjust lo hi 1 (n:Int)=(((sIx n 0 lo:Nat):Int),((sIx n n hi:Nat):Int)):=by
 have h1:¬((1:Int) <0):=by omega
 unfold Builtin.Slice.sliceAdjust
 simp only [h1,if_false]
 refine Prod.ext ?_ ?_
 ·cases lo with
  | none=>rfl
  | some v=>exact clip_eq v n 0
 ·cases hi with
  | none=>rfl
  | some v=>exact clip_eq v n n
theorem places_gen (i j:Nat):Builtin.Slice.slicePlaces (i:Int) (j:Int) 1=j - i:=by
 unfold Builtin.Slice.slicePlaces
 have h1:(1:Int) >0:=by omega
 simp only [h1,if_true,Int.ediv_one]
 split <;> omega
theorem Aw {v:Value} {o:Option Int} {Q:Option Int→Shared→Prop} (p:IsPart v o) (h:Q o s):wpAny (model prog w) A (Builtin.Slice.slicePartIndex v) Q E s:=by
 cases p with
 | none=>exact slicePart_none h
 | int i t=>exact slicePart_int h
theorem sliceApplied_gen {sl:Addr} {vl vu:Value} {lo hi:Option Int} {n:Nat} {Q:Int×Int×Nat→Shared→Prop} (hs:s.heap.IsSliceOf sl vl vu .none) (pl:IsPart vl lo) (pu:IsPart vu hi)
  (h:Q (((sIx n 0 lo:Nat):Int),1,sIx n n hi - sIx n 0 lo) s):wpAny (model prog w) A (Builtin.Slice.sliceApplied (.ref sl) (pure (n:Int))) Q E s:=by
 obtain⟨os,hos,hcs,hds⟩:=id hs
 unfold Builtin.Slice.sliceApplied Builtin.Slice.sliceFields
 refine wpAny_bind (wpAny_bind (wpAny_field hos hds (x:=vl) rfl (wpAny_bind (wpAny_field hos hds (x:=vu) rfl (wpAny_bind (wpAny_field hos hds (x:=.none) rfl (wpAny_pure ?_)))))))
 refine wpAny_bind (slicePart_none ?_)
 show wpAny _ _ (if ((1:Int) == 0)=true then _ else _) _ _ s
 rw [if_neg (by decide)]
 refine wpAny_bind (Aw pl (wpAny_bind (Aw pu (wpAny_bind (wpAny_pure ?_)))))
 show wpAny _ _ (match Builtin.Slice.sliceAdjust lo hi 1 (n:Int) with | (lo,hi)=>pure (lo,(1:Int),Builtin.Slice.slicePlaces lo hi 1)) _ _ s
 rw [adjust_gen lo hi n]
 show wpAny _ _ (pure (((sIx n 0 lo:Nat):Int),(1:Int),Builtin.Slice.slicePlaces ((sIx n 0 lo:Nat):Int) ((sIx n n hi:Nat):Int) 1)) _ _ s
 rw [places_gen]
 exact wpAny_pure h
theorem pick_gen (xs:Array Value) (i k:Nat):((List.range k).filterMap fun(m:Nat)=>xs[((i:Int)+(m:Int) * 1).toNat]?).toArray=((xs.toList.drop i).take k).toArray:=by
 have e:(fun(m:Nat)=>xs[((i:Int)+(m:Int) * 1).toNat]?)=fun m=>xs[i+m]?:=by
  funext m
  have:((i:Int)+(m:Int) * 1).toNat=i+m:=by omega
  rw [this]
 rw [e]
 have:=pick_run xs i k
 rw [List.filterMap_map] at this
 have e2:((fun x=>xs[x]?)∘fun x=>i+x)=fun m=>xs[i+m]?:=rfl
 rw [e2] at this
 rw [this]
theorem getItem_tuple_cut {t sl:Addr} {items:Array Value} {vl vu:Value} {lo hi:Option Int} {Q:Value→Shared→Prop} (ht:IsTup s.heap t items) (hs:s.heap.IsSliceOf sl vl vu .none) (pl:IsPart vl lo) (pu:IsPart vu hi)
  (hw:¬(sIx items.size 0 lo=0∧sIx items.size items.size hi=items.size))
  (h:Q (.ref s.heap.objs.size) { s with heap:=s.heap.push { cls:=.type "tuple",data:=.seq ((items.toList.drop (sIx items.size 0 lo)).take (sIx items.size items.size hi - sIx items.size 0 lo)).toArray } })
  (hsz:items.size≤sizeLine):wpAny (model prog w) A (getItem (.ref t) (.ref sl)) Q E s:=by
 have htake:sizeOk (.seq ((items.toList.drop (sIx items.size 0 lo)).take (sIx items.size items.size hi - sIx items.size 0 lo)).toArray):=by
  show((items.toList.drop (sIx items.size 0 lo)).take (sIx items.size items.size hi - sIx items.size 0 lo)).toArray.size≤sizeLine
  rw [List.size_toArray,List.length_take,List.length_drop,Array.length_toList]
  omega
 have hj:sIx items.size items.size hi≤items.size:=sIx_le _ _ (Nat.le_refl _) hi
 obtain⟨os,hos,hcs,hds⟩:=id hs
 have hTs:s.TypeIs (.ref sl) "slice" :=⟨os,hos,hcs⟩
 unfold getItem
 try with_reducible refine wpAny_holding ?_
 first | refine wpAny_bind (wpAny_pure ?_) | skip
 refine wpAny_bind (wpAny_sequenceKey ht.typeIs (by decide) ?_)
 refine wpAny_bind (wpAny_callSpecial?_slot (name:=Str.ofString "__getitem__") ht.typeIs PyProof.Rows.slot_tuple_getitem
  (wpAny_call_entry PyProof.Rows.slot_tuple_getitem ht.typeIs entry_tuple_getitem ?_ (args_tuple_getitem _ _)))
 show wpAny _ _ (Builtin.Tuple.tupleItemsOf (.ref t) >>= _) _ _ s
 refine wpAny_bind (tupleItemsOf_ ht ?_)
 refine wpAny_bind (wpAny_typeOf hTs ?_)
 rw [if_pos (by decide)]
 refine wpAny_bind (sliceApplied_gen hs pl pu ?_)
 have hno:¬((((sIx items.size 0 lo:Nat):Int) == 0 && (1:Int) == 1 && (sIx items.size items.size hi - sIx items.size 0 lo) == items.size)=true):=by
  intro q
  rw [Bool.and_eq_true,Bool.and_eq_true] at q
  have q1:((sIx items.size 0 lo:Nat):Int)=0:=eq_of_beq q.1.1
  have q2:sIx items.size items.size hi - sIx items.size 0 lo=items.size:=eq_of_beq q.2
  exact hw ⟨by omega,by omega⟩
 show wpAny _ _ (if (((sIx items.size 0 lo:Nat):Int) == 0 && (1:Int) == 1 && (sIx items.size items.size hi - sIx items.size 0 lo) == items.size)=true then _ else _) _ _ s
 rw [if_neg hno,pick_gen]
 first
  | exact wpAny_bind (m:=Builtin.Tuple.tupleExact _) (wpAny_newObj_type (wpAny_pure ⟨_,rfl,wpAny_pure h⟩) htake)
  | exact wpAny_bind (m:=Builtin.Tuple.tupleExact _) (wpAny_newObj_type (wpAny_bind (wpAny_pure (wpAny_pure ⟨_,rfl,wpAny_pure h⟩))) htake)
  | exact wpAny_bind (wpAny_bind (m:=Builtin.Tuple.tupleExact _) (wpAny_newObj_type (wpAny_pure (wpAny_pure ⟨_,rfl,wpAny_pure h⟩)) htake))
  | exact wpAny_bind (wpAny_bind (m:=Builtin.Tuple.tupleExact _) (wpAny_newObj_type (wpAny_pure ⟨_,rfl,wpAny_pure h⟩) htake))
end
end HT
namespace L2
open PySem PySem.Spec PyProof.Rows
abbrev TO:=St→Hp→(Option Int→Hp→Prop)→Prop
def PO (X:Cx) (e:Option Expr) (t:TO):Prop:=
 ∀(pins:List (Addr×Obj)) (s:Shared) (σ:St) (H:Hp) (Q:Option Int→Hp→Prop),Inv X pins σ H s→t σ H Q→
  wpAny (model X.prog X.w) X.A (evalPart e X.env) (fun u s'=>∃o H',Inv X pins σ H' s'∧IsPart u o∧Q o H') X.xe s
def tNoPart:TO:=fun _ H Q=>Q none H
def tPart (t:TE):TO:=fun σ H Q=>t σ H fun x H1=>∃i,x=.int i∧Q (some i) H1
section
variable {X:Cx} {e:Expr} {te:TE} {lo hi:Option Expr} {tl th:TO} {pos p2:Pos}
theorem wL:PO X none tNoPart:=by
 intro pins s σ H Q I h
 rw [evalPart_none]
 exact wpAny_pure ⟨none,H,I,.none,h⟩
theorem qp (h:PE X e te):PO X (some e) (tPart te):=by
 intro pins s σ H Q I hw
 rw [evalPart_some]
 refine thn (h pins s σ H _ I hw) fun u s1 hpt=>?_
 obtain⟨x,H1,I1,r1,q1⟩:=hpt
 obtain⟨i,rfl,q⟩:=q1
 obtain⟨t,rfl⟩:=r1
 exact⟨some i,H1,I1,.int i t,q⟩
def SlR (X:Cx) (r:V→Option Int→Option Int→Hp→VK→Prop):Prop:=
 ∀(pins:List (Addr×Obj)) (s:Shared) (σ:St) (H:Hp) (x:V) (v vl vu:Value) (lo hi:Option Int) (sl:Addr) (Q:VK),Inv X pins σ H s→RelV x v→s.heap.IsSliceOf sl vl vu .none→IsPart vl lo→IsPart vu hi→r x lo hi H Q→
  ∃T id,typeLookup (.type T) "__getitem__" =pure (some (.builtin id))∧s.TypeIs v T∧wpAny (model X.prog X.w) X.A (getItem v (.ref sl)) (EP X pins σ Q) X.xe s
def tSl (r:V→Option Int→Option Int→Hp→VK→Prop) (te:TE) (tl th:TO):TE:=fun σ H Q=>te σ H fun x H1=>tl σ H1 fun l H2=>th σ H2 fun u H3=>r x l u H3 Q
theorem pQ {r:V→Option Int→Option Int→Hp→VK→Prop} (hr:SlR X r) (he:PE X e te) (hl:PO X lo tl) (hu:PO X hi th):PE X (.Subscript e (.Slice lo hi none p2) pos) (tSl r te tl th):=by
 intro pins s σ H Q I h
 refine Subscript_ (thn (he pins s σ H _ I h) fun v s1 hpt=>?_)
 obtain⟨x,H1,I1,r1,q1⟩:=hpt
 refine wpAny_Slice (thn (hl pins s1 σ H1 _ I1 q1) fun vl s2 ⟨l,H2,I2,pl,q2⟩=>thn (hu pins s2 σ H2 _ I2 q2) fun vu s3 hpt=>?_)
 obtain⟨u,H3,I3,pu,q3⟩:=hpt
 rw [evalPart_none]
 refine wpAny_pure ?_
 have I4:Inv X pins σ H3 { s3 with heap:=s3.heap.push { cls:=.type "slice",data:=.fields #[vl,vu,.none] } }:=I3.kept (t':=s3.toks) fun b ob q=>Heap.get?_push_of_some _ q
 obtain⟨T,id,hT,ht,hg⟩:=hr pins { s3 with heap:=s3.heap.push { cls:=.type "slice",data:=.fields #[vl,vu,.none] } } σ H3 x v vl vu l u s3.heap.objs.size Q I4 r1 (Heap.IsSliceOf.new ..) pl pu q3
 show wpAny (model X.prog X.w) X.A (subscriptTail e (.Slice lo hi none p2) v (.ref s3.heap.objs.size)) (EP X pins σ Q) X.xe { s3 with heap:=s3.heap.push { cls:=.type "slice",data:=.fields #[vl,vu,.none] } }
 exact tail_any (ops:=[.ref s3.heap.objs.size,v]) ht hT hg (by with_unfolding_all rfl)
def ym (xs:List V) (lo hi:Option Int):List V:=(xs.drop (HT.sIx xs.length 0 lo)).take (HT.sIx xs.length xs.length hi - HT.sIx xs.length 0 lo)
theorem zH (xs:List V) (lo hi:Option Int):(ym xs lo hi).length≤xs.length:=by
 unfold ym
 rw [List.length_take,List.length_drop]
 omega
def rSlT (K:PySem.W.Frag):V→Option Int→Option Int→Hp→VK→Prop:=fun x lo hi H Q=>∃a xs,x=.ref a∧SqT K H a xs∧
 ¬(HT.sIx xs.length 0 lo=0∧HT.sIx xs.length xs.length hi=xs.length)∧∀p,H p=none→Q (.ref p) (upd H p (.tup (ym xs lo hi)))
theorem sl_tup:SlR X (rSlT X.K):=by
 intro pins s σ H x v vl vu lo hi sl Q I rx hs pl pu h
 obtain⟨a,xs,rfl,hx,hw,q⟩:=h
 cases rx
 obtain⟨its,r,ht,hz⟩:=I.tuple hx
 have hlen:its.toArray.size=xs.length:=by rw [List.size_toArray];exact r.length.symm
 refine⟨"tuple",_,PyProof.Rows.slot_tuple_getitem.lookup,ht.typeIs,?_⟩
 refine HT.getItem_tuple_cut ht hs pl pu (by rw [hlen];exact hw) ?_ (by rw [hlen];exact hz)
 rw [hlen]
 refine⟨.ref s.heap.objs.size,_,I.laid (t':=s.toks) (o:=.tup (ym xs lo hi)) (fun b ob q=>Heap.get?_push_of_some _ q) (Nat.le_refl _) ?_,rfl,q _ (I.hok.fresh (Nat.le_refl _))⟩
 exact⟨Nat.le_trans (zH xs lo hi) hz,_,(r.drop (HT.sIx xs.length 0 lo)).take (HT.sIx xs.length xs.length hi - HT.sIx xs.length 0 lo),IsTup.new _ _⟩
end
end L2
namespace L2
open PySem PySem.Spec PyProof.Rows
def ixN (n:Nat) (i:Int):Option Nat:=if 0≤i then(if i <n then some i.toNat else none) else if -(n:Int)≤i then some (i+n).toNat else none
def atI {α:Type} (xs:List α) (i:Int):Option α:=(ixN xs.length i).bind fun j=>xs[j]?
theorem ixN_seq {n:Nat} {i:Int} {j:Nat} (h:ixN n i=some j):seqIndex? i n=some j∧j <n∧ -(n:Int)≤i∧i <n:=by
 unfold ixN at h
 by_cases h0:0≤i
 ·rw [if_pos h0] at h
  by_cases h1:i <n
  ·rw [if_pos h1] at h
   have e:i.toNat=j:=Option.some.inj h
   exact⟨by rw [seqIndex_of h0 h1,e],by omega,by omega,h1⟩
  ·rw [if_neg h1] at h;cases h
 ·rw [if_neg h0] at h
  by_cases h1: -(n:Int)≤i
  ·rw [if_pos h1] at h
   have e:(i+n).toNat=j:=Option.some.inj h
   exact⟨by rw [seqIndex_neg (by omega) h1,e],by omega,h1,by omega⟩
  ·rw [if_neg h1] at h;cases h
theorem atI_get {α:Type} {xs:List α} {i:Int} {v:α} (h:atI xs i=some v):∃j,seqIndex? i xs.length=some j∧xs[j]?=some v∧j <xs.length∧ -(xs.length:Int)≤i∧i <xs.length:=by
 unfold atI at h
 cases e:ixN xs.length i with
 | none=>rw [e] at h;cases h
 | some j=>
  rw [e] at h
  obtain⟨h1,h2,h3,h4⟩:=ixN_seq e
  exact⟨j,h1,h,h2,h3,h4⟩
theorem aK {α:Type} {xs:List α} {j:Nat} {v:α} (h:xs[j]?=some v):atI xs (j:Int)=some v:=by
 have hj:j <xs.length:=(List.getElem?_eq_some_iff.mp h).1
 have e:ixN xs.length (j:Int)=some j:=by
  unfold ixN
  rw [if_pos (by omega),if_pos (by omega)];simp
 unfold atI;rw [e];exact h
theorem atI_last {α:Type} (xs:List α) (v:α):atI (xs ++ [v]) (-1)=some v:=by
 have hl:(xs ++ [v]).length=xs.length+1:=by simp
 have e:ixN (xs ++ [v]).length (-1)=some xs.length:=by
  unfold ixN
  rw [hl,if_neg (by decide),if_pos (by omega)]
  congr 1
  omega
 unfold atI
 rw [e]
 show(xs ++ [v])[xs.length]?=some v
 simp
def PlainIx (b:Expr):Prop:=∀o i,subscripted b false o i=operate [o,i] (getItem o i)
def IxR (X:Cx) (r:R2):Prop:=
 ∀(value slice:Expr) (pins:List (Addr×Obj)) (s:Shared) (σ:St) (H:Hp) (x y:V) (v u:Value) (Q:VK),Inv X pins σ H s→RelV x v→RelV y u→r x y H Q→
  subscripted slice false v u=operate [v,u] (getItem v u)→wpAny (model X.prog X.w) X.A (subscriptTail value slice v u) (EP X pins σ Q) X.xe s
def MtR (X:Cx) (id:String) (r:V→List V→Hp→VK→Prop):Prop:=
 ∀(pins:List (Addr×Obj)) (s:Shared) (σ:St) (H:Hp) (x:V) (xs:List V) (v:Value) (us:List Value) (Q:VK),Inv X pins σ H s→RelV x v→Vals xs us→r x xs H Q→
  wpAny (model X.prog X.w) X.A (call (.builtin id) (v:: us)) (EP X pins σ Q) X.xe s
section
variable {X:Cx} {a b:Expr} {ta tb:TE} {pos:Pos}
theorem aQ {r:R2} (hr:IxR X r) (ha:PE X a ta) (hb:PE X b tb) (hs:PlainIx b):PE X (.Subscript a b pos) (tOp r ta tb):=by
 intro pins s σ H Q I h
 exact Subscript_ (binT ha hb I h fun v u s2 x y H2 I2 rx ry q=>hr a b pins s2 σ H2 x y v u Q I2 rx ry q (hs _ _))
def rIxL (K:PySem.W.Frag):R2:=fun x y H Q=>∃p xs i v,x=.ref p∧y=.int i∧SqL K H p xs∧atI xs i=some v∧Q v H
def rIxT (K:PySem.W.Frag):R2:=fun x y H Q=>∃p xs i v,x=.ref p∧y=.int i∧SqT K H p xs∧atI xs i=some v∧Q v H
def rIxS:R2:=fun x y H Q=>∃z i c,x=.str z∧y=.int i∧z.length≤sizeLine∧atI z.cps.toList i=some c∧Q (.str ⟨#[c]⟩) H
theorem bA:IxR X (rIxL X.K):=by
 intro value slice pins s σ H x y v u Q I rx ry h hs
 obtain⟨p,xs,i,z,rfl,rfl,hq,he,q⟩:=h
 cases rx
 obtain⟨t,rfl⟩:=ry
 obtain⟨its,r,pl,hz⟩:=I.list hq
 obtain⟨j,h1,h2,h3,h4,h5⟩:=atI_get he
 obtain⟨w,ew,rw'⟩:=r.get h2
 have hl:=r.length
 have hn:=Bl
 have fin:EP X pins σ Q w s:=⟨z,H,I,rw',q⟩
 by_cases h0:0≤i
 ·have hj:i.toNat=j:=by
   rw [seqIndex_of h0 h5] at h1
   exact Option.some.inj h1
  exact item_listR pl.isList h0 (by omega) (by rw [hj];simpa using ew) fin hs
 ·have hj:(i+(its.toArray.size:Int)).toNat=j:=by
   rw [seqIndex_neg (by omega) h4] at h1
   rw [List.size_toArray,←hl]
   exact Option.some.inj h1
  exact subscriptTail_builtinR (x:=w) pl.isList.typeIs slot_list_getitem.lookup
   (wpAny_getItem_list_neg (Q:=fun r s'=>r=w∧EP X pins σ Q r s') pl.isList (by omega) (by rw [List.size_toArray] <;> omega) (by omega) (by rw [hj];simpa using ew) ⟨rfl,fin⟩) hs
theorem bJ:IxR X (rIxT X.K):=by
 intro value slice pins s σ H x y v u Q I rx ry h hs
 obtain⟨p,xs,i,z,rfl,rfl,hq,he,q⟩:=h
 cases rx
 obtain⟨t,rfl⟩:=ry
 obtain⟨its,r,pl,hz⟩:=I.tuple hq
 obtain⟨j,h1,h2,h3,h4,h5⟩:=atI_get he
 obtain⟨w,ew,rw'⟩:=r.get h2
 have hl:=r.length
 have hn:=Bl
 have fin:EP X pins σ Q w s:=⟨z,H,I,rw',q⟩
 exact subscriptTail_builtinR (x:=w) pl.typeIs slot_tuple_getitem.lookup
  (getItem_tuple (j:=j) (Q:=fun r s'=>r=w∧EP X pins σ Q r s') pl (by omega) (by omega) (by rw [List.size_toArray,←hl];exact h1) (by simpa using ew) ⟨rfl,fin⟩) hs
theorem ix_str:IxR X rIxS:=by
 intro value slice pins s σ H x y v u Q I rx ry h hs
 obtain⟨z,i,c,rfl,rfl,hz,he,q⟩:=h
 obtain⟨t,rfl⟩:=rx
 obtain⟨t',rfl⟩:=ry
 obtain⟨j,h1,h2,h3,h4,h5⟩:=atI_get he
 have hl:z.cps.toList.length=z.length:=by simp [Str.length]
 rw [hl] at h1 h4 h5
 have hn:=Bl
 exact tail_any (typeIs_str s z t) slot_str_getitem.lookup (getItem_str (c:=c) (by
  have e1:decide (i < -(2 ^ 63:Int))=false:=decide_eq_false (by omega)
  have e2:decide (i≥2 ^ 63)=false:=decide_eq_false (by omega)
  rw [e1,e2,Bool.or_false]) (by rw [h1];simpa using h2) ⟨.str ⟨#[c]⟩,H,I.tok _,⟨_,rfl⟩,q⟩) hs
theorem mapSeq_set (its:List Value) (n j:Nat) (u:Value):Obj.mapSeq (·.setIfInBounds j u) { cls:=.type "list",data:=.seq its.toArray n }={ cls:=.type "list",data:=.seq (its.set j u).toArray n }:=by
 simp [Obj.mapSeq]
theorem Inv.lst {pins:List (Addr×Obj)} {σ:St} {H:Hp} {s:Shared} {p:Addr} {xs:List V} (I:Inv X pins σ H s) (h:H p=some (.lst xs)):
  ∃(its:List Value) (n:Nat),Vals xs its∧s.heap.get? p=some { cls:=.type "list",data:=.seq its.toArray n }∧xs.length≤sizeLine:=by
 obtain⟨z,its,n,r,e⟩:=I.hok p _ h
 exact⟨its,n,r,e,z⟩
theorem Inv.lstUpd {pins:List (Addr×Obj)} {σ:St} {H:Hp} {s:Shared} {p:Addr} {xs ys:List V} {its its':List Value} {n n':Nat} {f:Obj→Obj} (I:Inv X pins σ H s) (h:H p=some (.lst xs))
  (ho:s.heap.get? p=some { cls:=.type "list",data:=.seq its.toArray n }) (hf:f { cls:=.type "list",data:=.seq its.toArray n }={ cls:=.type "list",data:=.seq its'.toArray n' }) (r:Vals ys its') (hz:ys.length≤sizeLine) (t:Nat):
  Inv X pins σ (upd H p (.lst ys)) { s with heap:=s.heap.update p f,toks:=t }:=by
 have e:(s.heap.update p f).get? p=some { cls:=.type "list",data:=.seq its'.toArray n' }:=by
  rw [Heap.get?_update_self f ho (by rw [hf] <;> rfl),hf]
 refine I.write (x:=p) (e:=p) (by rw [h];trivial) (.inl rfl) (fun b u hb q=>(Heap.get?_update_other _ _ (Ne.symm hb)).trans q) ⟨_,e⟩ ?_
 exact⟨hz,its',n',r,e⟩
def rSetL:V→V→V→Hp→(Hp→Prop)→Prop:=fun o i v H Q=>∃p xs k j,o=.ref p∧i=.int k∧H p=some (.lst xs)∧ixN xs.length k=some j∧Q (upd H p (.lst (xs.set j v)))
theorem set_list:PSet X rSetL:=by
 intro pins s σ H o i v ov iv u Q I ro ri rv h
 obtain⟨p,xs,k,j,rfl,rfl,hp,hj,q⟩:=h
 cases ro
 obtain⟨t,rfl⟩:=ri
 obtain⟨its,n,r,ho,hz⟩:=I.lst hp
 obtain⟨h1,h2,h3,h4⟩:=ixN_seq hj
 have hl:=r.length
 have hn:=Bl
 have I':Inv X pins σ (upd H p (.lst (xs.set j v))) { s with heap:=s.heap.update p (Obj.mapSeq (·.setIfInBounds j u)) }:=
  I.lstUpd hp ho (mapSeq_set its n j u) (r.set rv j) (by rw [List.length_set];exact hz) s.toks
 by_cases h0:0≤k
 ·have hk:k.toNat=j:=by
   rw [seqIndex_of h0 h4] at h1
   exact Option.some.inj h1
  exact PySem.W.ki_setAt ho h0 (by omega) (by rw [List.size_toArray,←hl];exact h4) (by rw [hk];exact⟨_,I',q⟩)
 ·have hk:(k+(its.toArray.size:Int)).toNat=j:=by
   rw [seqIndex_neg (by omega) h3] at h1
   rw [List.size_toArray,←hl]
   exact Option.some.inj h1
  exact PySem.W.ki_setBack ho (by omega) (by rw [List.size_toArray,←hl];exact h3) (by omega) (by rw [hk];exact⟨_,I',q⟩)
theorem slice_bounds (lo hi:Option Int) (n:Nat):(sliceBounds lo hi none n).1=((HT.sIx n 0 lo:Nat):Int)∧(sliceBounds lo hi none n).2.1=((HT.sIx n n hi:Nat):Int)∧(sliceBounds lo hi none n).2.2=1:=by
 refine⟨?_,?_,rfl⟩
 ·cases lo with
  | none=>simp [sliceBounds,HT.sIx]
  | some i=>
   simp only [sliceBounds,HT.sIx,Option.getD_none,show(1:Int) >0 by decide,if_true]
   by_cases h:i <0
   ·simp only [h,if_true] <;> omega
   ·simp only [h,if_false] <;> omega
 ·cases hi with
  | none=>simp [sliceBounds,HT.sIx]
  | some i=>
   simp only [sliceBounds,HT.sIx,Option.getD_none,show(1:Int) >0 by decide,if_true]
   by_cases h:i <0
   ·simp only [h,if_true] <;> omega
   ·simp only [h,if_false] <;> omega
theorem slicePick_cut (its:List Value) (lo hi:Option Int):slicePick its.toArray lo hi none=((its.drop (HT.sIx its.length 0 lo)).take (HT.sIx its.length its.length hi - HT.sIx its.length 0 lo)).toArray:=by
 obtain⟨h1,h2,h3⟩:=slice_bounds lo hi its.toArray.size
 unfold slicePick
 rw [h1,h2,h3]
 simp only [sliceRange_one,pick_run,List.size_toArray] <;> rfl
def rSlL (K:PySem.W.Frag):V→Option Int→Option Int→Hp→VK→Prop:=fun x lo hi H Q=>∃a xs,x=.ref a∧SqL K H a xs∧∀p,H p=none→Q (.ref p) (upd H p (.lst (ym xs lo hi)))
theorem z8:SlR X (rSlL X.K):=by
 intro pins s σ H x v vl vu lo hi sl Q I rx hs pl pu h
 obtain⟨a,xs,rfl,hx,q⟩:=h
 cases rx
 obtain⟨its,r,ht,hz⟩:=I.list hx
 have hlen:=r.length
 refine⟨"list",_,slot_list_getitem.lookup,ht.isList.typeIs,?_⟩
 refine wpAny_getItem_list_slice ht.isList hs pl pu .none (by simp) ?_ (by rw [List.size_toArray] <;> omega)
 rw [slicePick_cut,←hlen]
 refine⟨.ref s.heap.objs.size,_,I.laid (t':=s.toks) (o:=.lst (ym xs lo hi)) (fun b ob q=>Heap.get?_push_of_some _ q) (Nat.le_refl _) ?_,rfl,q _ (I.hok.fresh (Nat.le_refl _))⟩
 exact⟨Nat.le_trans (zH xs lo hi) hz,_,0,(r.drop (HT.sIx xs.length 0 lo)).take (HT.sIx xs.length xs.length hi - HT.sIx xs.length 0 lo),Heap.get?_push_size _ rfl⟩
def uF:V→Bool
 | .non=>true
 | .bl _=>true
 | .int _=>true
 | .str _=>true
 | _=>false
def eqV:V→V→Bool
 | .non,.non=>true
 | .bl a,.bl b=>a == b
 | .bl a,.int b=>(if a then 1 else 0) == b
 | .int a,.bl b=>a == (if b then 1 else 0)
 | .int a,.int b=>a == b
 | .str a,.str b=>a == b
 | _,_=>false
theorem eqAt_V {A:Around} {s:Shared} {y x:V} {u v:Value} (ry:RelV y u) (rx:RelV x v) (fy:uF y=true) (fx:uF x=true):SeqAt.EqAt A s u v (eqV y x):=by
 cases y with
 | non=>
  cases ry
  cases x with
  | non=>cases rx;exact SeqAt.EqAt.same _
  | bl b=>cases rx;exact SeqAt.EqAt.none_bool b
  | int b=>obtain⟨t,rfl⟩:=rx;exact SeqAt.EqAt.none_int b t
  | str b=>obtain⟨t,rfl⟩:=rx;exact SeqAt.EqAt.none_str b t
  | _=>exact absurd (show false=true from fx) Bool.false_ne_true
 | bl a=>
  cases ry
  cases x with
  | non=>cases rx;exact SeqAt.EqAt.bool_none a
  | bl b=>cases rx;exact SeqAt.EqAt.bool_bool a b
  | int b=>obtain⟨t,rfl⟩:=rx;exact SeqAt.EqAt.bool_int a b t
  | str b=>obtain⟨t,rfl⟩:=rx;exact SeqAt.EqAt.bool_str a b t
  | _=>exact absurd (show false=true from fx) Bool.false_ne_true
 | int a=>
  obtain⟨t',rfl⟩:=ry
  cases x with
  | non=>cases rx;exact SeqAt.EqAt.int_none a t'
  | bl b=>cases rx;exact SeqAt.EqAt.int_bool a t' b
  | int b=>obtain⟨t,rfl⟩:=rx;exact SeqAt.EqAt.int_int a t' b t
  | str b=>obtain⟨t,rfl⟩:=rx;exact SeqAt.EqAt.int_str a t' b t
  | _=>exact absurd (show false=true from fx) Bool.false_ne_true
 | str a=>
  obtain⟨t',rfl⟩:=ry
  cases x with
  | non=>cases rx;exact SeqAt.EqAt.str_none a t'
  | bl b=>cases rx;exact SeqAt.EqAt.str_bool a t' b
  | int b=>obtain⟨t,rfl⟩:=rx;exact SeqAt.EqAt.str_int a t' b t
  | str b=>obtain⟨t,rfl⟩:=rx;exact SeqAt.EqAt.str_str a t' b t
  | _=>exact absurd (show false=true from fx) Bool.false_ne_true
 | _=>exact absurd (show false=true from fy) Bool.false_ne_true
def eqU (x:V) (u:Value):Bool:=match u with
 | .none=>eqV .non x
 | .bool b=>eqV (.bl b) x
 | .int i _=>eqV (.int i) x
 | .str z _=>eqV (.str z) x
 | _=>false
theorem eqU_of {x y:V} {u:Value} (r:RelV y u) (f:uF y=true):eqU x u=eqV y x:=by
 cases y with
 | non=>cases r;rfl
 | bl b=>cases r;rfl
 | int i=>obtain⟨t,rfl⟩:=r;rfl
 | str z=>obtain⟨t,rfl⟩:=r;rfl
 | _=>exact absurd (show false=true from f) Bool.false_ne_true
theorem yt {x:V}:∀{xs:List V} {us:List Value},Vals xs us→xs.all uF=true→us.any (eqU x)=xs.any fun y=>eqV y x
 | _,_,.nil,_=>rfl
 | y:: xs,u:: us,.cons r t,f=>by
  rw [List.all_cons,Bool.and_eq_true] at f
  rw [List.any_cons,List.any_cons,eqU_of r f.1,yt t f.2]
theorem vA {A:Around} {s:Shared} {x:V} {v:Value} (rx:RelV x v) (fx:uF x=true):∀{xs:List V} {us:List Value},Vals xs us→xs.all uF=true→∀u∈us,SeqAt.EqAt A s u v (eqU x u)
 | _,_,.nil,_=>fun u hu=>by cases hu
 | y:: xs,u:: us,.cons r t,f=>fun u' hu=>by
  rw [List.all_cons,Bool.and_eq_true] at f
  rcases List.mem_cons.mp hu with rfl | hu
  ·rw [eqU_of r f.1];exact eqAt_V r rx f.1 fx
  ·exact vA rx fx t f.2 u' hu
def inV (x:V) (xs:List V):Bool:=xs.any fun y=>eqV y x
def rIn (K:PySem.W.Frag) (neg:Bool):R2:=fun x y H Q=>∃p xs,y=.ref p∧(SqL K H p xs∨SqT K H p xs)∧uF x=true∧xs.all uF=true∧Q (.bl (if neg then !inV x xs else inV x xs)) H
theorem zu:OpR X (compareOp .In) (rIn X.K false):=by
 intro pins s σ H x y v u Q I rx ry h
 obtain⟨p,xs,rfl,hq,fx,fs,q⟩:=h
 cases ry
 rcases hq with hq | hq
 ·obtain⟨its,r,pl,hz⟩:=I.list hq
  refine SeqAt.in_listAt (eqU x) pl.isList (fun w hw=>vA rx fx r fs w (by simpa using hw)) ⟨.bl _,H,I,rfl,?_⟩
  rw [show its.toArray.any (eqU x)=its.any (eqU x) by simp,yt r fs]
  exact q
 ·obtain⟨its,r,pl,hz⟩:=I.tuple hq
  refine SeqAt.in_tupleAt (eqU x) pl (fun w hw=>vA rx fx r fs w (by simpa using hw)) ⟨.bl _,H,I,rfl,?_⟩
  rw [show its.toArray.any (eqU x)=its.any (eqU x) by simp,yt r fs]
  exact q
theorem yN:OpR X (compareOp .NotIn) (rIn X.K true):=by
 intro pins s σ H x y v u Q I rx ry h
 obtain⟨p,xs,rfl,hq,fx,fs,q⟩:=h
 cases ry
 rcases hq with hq | hq
 ·obtain⟨its,r,pl,hz⟩:=I.list hq
  refine SeqAt.notIn_listAt (eqU x) pl.isList (fun w hw=>vA rx fx r fs w (by simpa using hw)) ⟨.bl _,H,I,rfl,?_⟩
  rw [show its.toArray.any (eqU x)=its.any (eqU x) by simp,yt r fs]
  exact q
 ·obtain⟨its,r,pl,hz⟩:=I.tuple hq
  refine SeqAt.notIn_tupleAt (eqU x) pl (fun w hw=>vA rx fx r fs w (by simpa using hw)) ⟨.bl _,H,I,rfl,?_⟩
  rw [show its.toArray.any (eqU x)=its.any (eqU x) by simp,yt r fs]
  exact q
theorem yI:oK X (.type "list") (fun xs H Q=>∃p ys,xs=[.ref p]∧(SqL X.K H p ys∨SqT X.K H p ys)∧∀l,H l=none→Q (.ref l) (upd H l (.lst ys))):=by
 intro pins s σ H xs us Q I r h
 obtain⟨p,ys,rfl,hq,q⟩:=h
 obtain⟨u,rfl,rx⟩:=vals1 r
 cases rx
 have fin:∀(its:List Value),Vals ys its→ys.length≤sizeLine→∀(h':Heap) (c':Nat),(∀b o',s.heap.get? b=some o'→h'.get? b=some o')→
   h'.get? s.heap.objs.size=some { cls:=.type "list",dict:=none,data:=.seq its.toArray c',slots:=#[] }→EP X pins σ Q (.ref s.heap.objs.size) { s with heap:=h' }:=fun its r' hz h' c' kp e=>
  ⟨.ref s.heap.objs.size,_,I.laid (t':=s.toks) kp (Nat.le_refl _) (show fM X.prog X.w _ h' _ (.lst ys) from⟨hz,its,c',r',e⟩),rfl,q _ (I.hok.fresh (Nat.le_refl _))⟩
 rcases hq with hq | hq
 ·obtain⟨its,r',pl,hz⟩:=I.list hq
  have hlen:=r'.length
  obtain⟨o,ho,hc,n,hd⟩:=pl.isList
  exact call_list_seq p (.inl rfl) ho hc hd (fun h' c' kp e=>fin its r' hz h' c' kp e) (by simp only [List.size_toArray] <;> omega)
 ·obtain⟨its,r',pl,hz⟩:=I.tuple hq
  have hlen:=r'.length
  obtain⟨o,ho,hc,n,hd⟩:=pl
  exact call_list_seq p (.inr rfl) ho hc hd (fun h' c' kp e=>fin its r' hz h' c' kp e) (by simp only [List.size_toArray] <;> omega)
theorem call_tuple_of:oK X (.type "tuple") (fun xs H Q=>∃p ys,xs=[.ref p]∧((SqL X.K H p ys∧∀l,H l=none→Q (.ref l) (upd H l (.tup ys)))∨(SqT X.K H p ys∧Q (.ref p) H))):=by
 intro pins s σ H xs us Q I r h
 obtain⟨p,ys,rfl,h⟩:=h
 obtain⟨u,rfl,rx⟩:=vals1 r
 cases rx
 rcases h with ⟨hq,q⟩ | ⟨hq,q⟩
 ·obtain⟨its,r',pl,hz⟩:=I.list hq
  have hlen:=r'.length
  refine call_tuple_list pl.isList (fun h' kp=>?_) (by simp only [List.size_toArray] <;> omega)
  have I1:Inv X pins σ H { s with heap:=h' }:=I.kept (t':=s.toks) kp
  have I2:Inv X pins σ (upd H h'.objs.size (.tup ys)) { s with heap:=h'.push { cls:=.type "tuple",data:=.seq its.toArray } }:=
   I1.laid (t':=s.toks) (fun b o e=>Heap.get?_push_of_some _ e) (Nat.le_refl _) (show fM X.prog X.w _ _ _ (.tup ys) from⟨hz,its,r',IsTup.new _ _⟩)
  exact⟨.ref h'.objs.size,_,I2,rfl,q _ (I1.hok.fresh (Nat.le_refl _))⟩
 ·obtain⟨its,r',pl,hz⟩:=I.tuple hq
  exact call_tuple_same pl ⟨.ref p,H,I,rfl,q⟩
def tyV (K:PySem.W.Frag) (T:String) (x:V) (H:Hp):Prop:=match x with
 | .str _=>T= "str"
 | .int _=>T= "int"
 | .ref p=>(T= "list" ∧∃xs,SqL K H p xs)∨(T= "tuple" ∧∃o,K.lookup p=some o∧o.cls=.type "tuple" ∧o.dict=none)∨
   (T= "dict" ∧((∃kvs,H p=some (.dK kvs))∨∃kvs,H p=some (.dT kvs)))∨(T= "set" ∧∃S n,H p=some (.set S n))
 | _=>False
theorem tyV_is {pins:List (Addr×Obj)} {σ:St} {H:Hp} {s:Shared} {T:String} {x:V} {v:Value} (I:Inv X pins σ H s) (r:RelV x v) (ty:tyV X.K T x H):
  s.TypeIs v T∧∀a,v=.ref a→∃ob,s.heap.get? a=some ob∧ob.dict=none:=by
 cases x with
 | str z=>
  obtain⟨t,rfl⟩:=r
  cases (show T= "str" from ty)
  exact⟨typeIs_str s z t,fun _ e=>nomatch e⟩
 | int i=>
  obtain⟨t,rfl⟩:=r
  cases (show T= "int" from ty)
  exact⟨typeIs_int s i t,fun _ e=>nomatch e⟩
 | ref p=>
  cases r
  rcases ty with ⟨rfl,xs,hq⟩ | ⟨rfl,o,hk,hc,hd⟩ | ⟨rfl,hk⟩ | ⟨rfl,S,n,hk⟩
  ·obtain⟨its,_,pl,_⟩:=I.list hq
   refine⟨pl.isList.typeIs,fun a e=>?_⟩
   cases e
   obtain⟨o,n,e,c,hd,_⟩:=pl
   exact⟨o,e,hd⟩
  ·refine⟨⟨o,I.kIn p o hk,hc⟩,fun a e=>?_⟩
   cases e
   exact⟨o,I.kIn _ o hk,hd⟩
  ·have z:∃o,s.heap.get? p=some o∧o.ExactDict:=by
    rcases hk with ⟨kvs,hk⟩ | ⟨kvs,hk⟩
    ·obtain⟨_,_,_,_,o,_,_,e,ex,_⟩:=I.hok p _ hk
     exact⟨o,e,ex⟩
    ·obtain⟨_,_,_,_,o,_,_,e,ex,_⟩:=I.hok p _ hk
     exact⟨o,e,ex⟩
   obtain⟨o,e,ex⟩:=z
   refine⟨⟨o,e,ex.1⟩,fun a e2=>?_⟩
   cases e2
   exact⟨o,e,ex.2.1⟩
  ·obtain⟨o,_,_,_,e,ex,_⟩:=I.hok p _ hk
   refine⟨⟨o,e,ex.1⟩,fun a e2=>?_⟩
   cases e2
   exact⟨o,e,ex.2.1⟩
 | _=>exact False.elim ty
def tBM0 (K:PySem.W.Frag) (T:String) (r:V→List V→Hp→VK→Prop) (to:TE):TE:=fun σ H Q=>to σ H fun x H1=>tyV K T x H1∧r x [] H1 Q
def tBM (K:PySem.W.Frag) (T:String) (r:V→List V→Hp→VK→Prop) (to:TE) (t:TA):TE:=fun σ H Q=>to σ H fun x H1=>tyV K T x H1∧t σ H1 fun xs H2=>r x xs H2 Q
variable {o e:Expr} {es:List Expr} {to:TE} {t:TA} {name:Str} {apos cpos:Pos} {T id:String} {r:V→List V→Hp→VK→Prop}
theorem BX (pa:PlainAttrs T) (slot:Slot T name id) (hty:typeOf (.builtin id)=pure (.type "method_descriptor")) (hm:MtR X id r) (ho:PE X o to)
  (hbase:attributeBase o name X.env (eval o X.env)=eval o X.env:=by rfl) (hline:(apos.endLine == cpos.line)=true:=by rfl):PE X (.Call (.Attribute o name apos) [] [] cpos) (tBM0 X.K T r to):=by
 intro pins s σ H Q I h
 refine wpAny_Call_method0_late hbase hline (thn (ho pins s σ H _ I h) fun v s1 hpt=>?_)
 obtain⟨x,H1,I1,r1,ty,q1⟩:=hpt
 obtain⟨h1,h2⟩:=tyV_is I1 r1 ty
 exact⟨T,id,pa,slot,hty,h1,h2,Calls.callWith_builtin rfl (PySem.evalArgs_none (hm pins s1 σ H1 x [] v [] Q I1 r1 .nil q1))⟩
theorem mJ (pa:PlainAttrs T) (slot:Slot T name id) (hty:typeOf (.builtin id)=pure (.type "method_descriptor")) (hm:MtR X id r) (ho:PE X o to) (ha:PA X (e:: es) t)
  (hbase:attributeBase o name X.env (eval o X.env)=eval o X.env:=by rfl)
  (hfew:((backTo cpos (starEach (e:: es) X.env)).all (fun x=>!x.1) && (backToKw cpos (keywordEach [] X.env)).all (fun x=>x.1.isSome)
   && decide ((e:: es).length+([]:List Keyword).length+(if ([]:List Keyword).isEmpty then 0 else 1) <30))=true:=by rfl)
  (hline:(apos.endLine == cpos.line)=true:=by rfl) (hs:starEach (e:: es) X.env=(false,eval e X.env):: starEach es X.env:=by rfl) (hplain:(backTo cpos (starEach es X.env)).any (·.1)=false:=by rfl):
  PE X (.Call (.Attribute o name apos) (e:: es) [] cpos) (tBM X.K T r to t):=by
 intro pins s σ H Q I h
 refine wpAny_Call_method_late hbase hfew hline rfl (thn (ho pins s σ H _ I h) fun v s1 hpt=>?_)
 obtain⟨x,H1,I1,r1,ty,q1⟩:=hpt
 obtain⟨h1,h2⟩:=tyV_is I1 r1 ty
 refine⟨T,id,pa,slot,hty,h1,h2,?_⟩
 have hA:=ha cpos pins s1 σ H1 _ I1 q1
 rw [hs] at hA ⊢
 refine Calls.callWith_builtin (by show(false || (backTo cpos (starEach es X.env)).any (·.1))=false;rw [hplain] <;> rfl) (Calls.evalArgs_plain ?_)
 exact thn hA fun us s2 ⟨vs,H2,I2,r2,q2⟩=>hm pins s2 σ H2 x vs v us Q I2 r1 r2 q2
end
end L2
namespace L2
open PySem PySem.Spec PyProof.Rows
def MtM (X:Cx) (id:String) (r:V→List V→Hp→VK→Prop):Prop:=
 ∀(pins:List (Addr×Obj)) (s:Shared) (σ:St) (H:Hp) (x:V) (xs:List V) (v:Value) (us:List Value) (Q:VK),Inv X pins σ H s→RelV x v→Vals xs us→r x xs H Q→
  wpAny (model X.prog X.w) X.A (call (.builtin id) (v:: us)) (EP X pins σ Q) X.xe s
theorem Vals.one:∀{x:V} {us:List Value},Vals [x] us→∃u,us=[u]∧RelV x u
 | _,_,.cons r .nil=>⟨_,rfl,r⟩
theorem Vals.zero:∀{us:List Value},Vals [] us→us=[]
 | _,.nil=>rfl
theorem Vals.dropLast {xs:List V} {us:List Value} (h:Vals xs us):Vals xs.dropLast us.dropLast:=by
 induction h with
 | nil=>exact .nil
 | cons r t ih=>
  cases t with
  | nil=>exact .nil
  | cons q t'=>exact .cons r ih
theorem Vals.eraseIdx:∀{xs:List V} {us:List Value} (i:Nat),Vals xs us→Vals (xs.eraseIdx i) (us.eraseIdx i)
 | _,_,_,.nil=>.nil
 | _,_,0,.cons _ t=>t
 | _,_,i+1,.cons r t=>.cons r (Vals.eraseIdx i t)
theorem erase_last {α:Type} (l:List α):l.eraseIdx (l.length - 1)=l.dropLast:=by
 induction l with
 | nil=>rfl
 | cons a r ih=>
  cases r with
  | nil=>rfl
  | cons b r=>
   have e:(a:: b:: r).length - 1=((b:: r).length - 1)+1:=by
    have h1:(a:: b:: r).length=r.length+2:=rfl
    have h2:(b:: r).length=r.length+1:=rfl
    omega
   rw [e,List.eraseIdx_cons_succ,ih]
   all_goals rfl
theorem len_erase {α:Type}:∀(l:List α) (i:Nat),(l.eraseIdx i).length≤l.length
 | [],_=>Nat.le_refl _
 | _:: _,0=>Nat.le_succ _
 | _:: r,i+1=>Nat.succ_le_succ (len_erase r i)
section
variable {X:Cx} {pins:List (Addr×Obj)} {σ:St} {H:Hp} {s:Shared} {l b:Addr} {xs ys zs:List V}
theorem Inv.lset {its its':List Value} {n:Nat} {f:Array Value→Array Value} {t':Nat} (I:Inv X pins σ H s) (hH:H l=some (.lst xs))
  (e:s.heap.get? l=some { cls:=.type "list",data:=.seq its.toArray n }) (hf:f its.toArray=its'.toArray) (hv:Vals ys its') (hz:ys.length≤sizeLine):
  Inv X pins σ (upd H l (.lst ys)) { s with heap:=s.heap.update l (Obj.mapSeq f),toks:=t' }:=by
 have q:=PySem.IsL.update e f
 rw [hf] at q
 refine I.write (x:=l) (e:=l) (by rw [hH];exact trivial) (.inl rfl) (fun b' u hb hu=>(Heap.get?_update_other s.heap (Obj.mapSeq f) (Ne.symm hb)).trans hu) ⟨_,q⟩ ?_
 exact⟨hz,its',_,hv,q⟩
theorem Inv.lnew {its:List Value} {t':Nat} (I:Inv X pins σ H s) (hv:Vals ys its) (hz:ys.length≤sizeLine):
  Inv X pins σ (upd H s.heap.objs.size (.lst ys)) { s with heap:=s.heap.push { cls:=.type "list",data:=.seq its.toArray },toks:=t' }:=
 I.laid (fun _ _ q=>Heap.get?_push_of_some _ q) (Nat.le_refl _) ⟨hz,its,0,hv,Heap.get?_push_size _ rfl⟩
theorem Inv.fresh (I:Inv X pins σ H s):H s.heap.objs.size=none:=I.hok.fresh (Nat.le_refl _)
theorem Inv.lstM (I:Inv X pins σ H s) (hH:H l=some (.lst xs)):xs.length≤sizeLine∧∃(its:List Value) (n:Nat),Vals xs its∧xs.length=its.length∧s.heap.get? l=some { cls:=.type "list",data:=.seq its.toArray n }:=by
 obtain⟨z,its,n,r,e⟩:=I.hok l _ hH
 exact⟨z,its,n,r,r.length,e⟩
theorem notLongL {n:Nat} (h:n≤sizeLine):Builtin.List.listTooLong n=false:=by
 unfold Builtin.List.listTooLong
 exact decide_eq_false (by omega)
end
section
variable {X:Cx}
def rAppend:V→List V→Hp→VK→Prop:=fun x vs H Q=>∃l xs y,x=.ref l∧vs=[y]∧H l=some (.lst xs)∧xs.length <sizeLine∧Q .non (upd H l (.lst (xs ++ [y])))
theorem gK:MtM X "list.append" rAppend:=by
 intro pins s σ H x vs v us Q I rx rv h
 obtain⟨l,xs,y,rfl,rfl,hH,hz,q⟩:=h
 cases rx
 obtain⟨u,rfl,ru⟩:=rv.one
 obtain⟨z,its,n,r,hl,e⟩:=I.lstM hH
 refine call_meets F.slot_list_append ⟨_,e,rfl⟩ F.entry_list_append (F.args_list_append_2 _ _) (PySem.list_append l its.toArray n u (by rw [List.size_toArray];omega)) ⟨e,?_⟩
 refine⟨.non,_,I.lset (its':=its ++ [u]) hH e (by simp) (r.append (.cons ru .nil)) ?_,rfl,q⟩
 rw [List.length_append,List.length_singleton]
 omega
def rExtend:V→List V→Hp→VK→Prop:=fun x vs H Q=>∃l b xs zs,x=.ref l∧vs=[.ref b]∧H l=some (.lst xs)∧H b=some (.lst zs)∧xs.length+zs.length≤sizeLine∧Q .non (upd H l (.lst (xs ++ zs)))
theorem yP:MtM X "list.extend" rExtend:=by
 intro pins s σ H x vs v us Q I rx rv h
 obtain⟨l,b,xs,zs,rfl,rfl,hH,hB,hz,q⟩:=h
 cases rx
 obtain⟨u,rfl,ru⟩:=rv.one
 cases ru
 obtain⟨z,its,n,r,hl,e⟩:=I.lstM hH
 obtain⟨z2,its2,n2,r2,hl2,e2⟩:=I.lstM hB
 have hsz:its.toArray.size+its2.toArray.size≤sizeLine:=by rw [List.size_toArray,List.size_toArray];omega
 have hlong:¬(!its.toArray.isEmpty && Builtin.List.listTooLong (its.toArray.size+its2.toArray.size))=true:=by
  rw [notLongL hsz,Bool.and_false]
  exact Bool.false_ne_true
 refine call_meets F.slot_list_extend ⟨_,e,rfl⟩ F.entry_list_extend (F.args_list_extend_2 _ _)
  (AutoSeq1.list_extend_list_list_0 l its.toArray n b its2.toArray n2 hlong (by rw [List.size_toArray];omega) (by omega)) ⟨e,e2,?_⟩
 refine⟨.non,_,I.lset (its':=its ++ its2) hH e (by simp) (r.append r2) ?_,rfl,q⟩
 rw [List.length_append]
 omega
def rPop:V→List V→Hp→VK→Prop:=fun x vs H Q=>∃l xs y,x=.ref l∧vs=[]∧H l=some (.lst xs)∧xs[xs.length - 1]?=some y∧Q y (upd H l (.lst xs.dropLast))
theorem mt_pop:MtM X "list.pop" rPop:=by
 intro pins s σ H x vs v us Q I rx rv h
 obtain⟨l,xs,y,rfl,rfl,hH,hy,q⟩:=h
 cases rx
 have hus:=rv.zero
 subst hus
 obtain⟨z,its,n,r,hl,e⟩:=I.lstM hH
 obtain⟨u,hu,ru⟩:=r.get hy
 have hy':its.toArray[its.toArray.size - 1]?=some u:=by
  show its.toArray[its.length - 1]?=some u
  rw [←Array.getElem?_toList,←hl]
  exact hu
 refine call_meets F.slot_list_pop ⟨_,e,rfl⟩ F.entry_list_pop (F.args_list_pop_1 _) (MeetsSeq.list_pop_last l its.toArray n u hy' (by rw [List.size_toArray];omega)) ⟨e,?_⟩
 refine⟨y,_,I.lset (its':=its.dropLast) hH e ?_ r.dropLast ?_,ru,q⟩
 ·show its.toArray.eraseIdxIfInBounds (its.toArray.size - 1)=its.dropLast.toArray
  rw [List.size_toArray,List.eraseIdxIfInBounds_toArray,erase_last]
 ·rw [List.length_dropLast]
  omega
def rPopAt:V→List V→Hp→VK→Prop:=fun x vs H Q=>∃l xs i k y,x=.ref l∧vs=[.int i]∧H l=some (.lst xs)∧ -(2 ^ 63)≤i∧i <2 ^ 63∧seqIndex? i xs.length=some k∧xs[k]?=some y∧Q y (upd H l (.lst (xs.eraseIdx k)))
theorem Av:MtM X "list.pop" rPopAt:=by
 intro pins s σ H x vs v us Q I rx rv h
 obtain⟨l,xs,i,k,y,rfl,rfl,hH,h1,h2,hk,hy,q⟩:=h
 cases rx
 obtain⟨u,rfl,ru⟩:=rv.one
 obtain⟨t,rfl⟩:=ru
 obtain⟨z,its,n,r,hl,e⟩:=I.lstM hH
 obtain⟨w,hw,rw'⟩:=r.get hy
 refine call_meets F.slot_list_pop ⟨_,e,rfl⟩ F.entry_list_pop (F.args_list_pop_2 _ _)
  (MeetsSeq.list_pop_at l its.toArray n i t k w (fitsIndex_both h1 h2) (by rw [List.size_toArray,←hl];exact hk) (by rw [←Array.getElem?_toList];exact hw) (by rw [List.size_toArray];omega)) ⟨e,?_⟩
 refine⟨y,_,I.lset (its':=its.eraseIdx k) hH e ?_ (r.eraseIdx k) ?_,rw',q⟩
 ·show its.toArray.eraseIdxIfInBounds k=(its.eraseIdx k).toArray
  rw [List.eraseIdxIfInBounds_toArray]
 ·have:=len_erase xs k
  omega
def rClear:V→List V→Hp→VK→Prop:=fun x vs H Q=>∃l xs,x=.ref l∧vs=[]∧H l=some (.lst xs)∧Q .non (upd H l (.lst []))
theorem mt_clear:MtM X "list.clear" rClear:=by
 intro pins s σ H x vs v us Q I rx rv h
 obtain⟨l,xs,rfl,rfl,hH,q⟩:=h
 cases rx
 have hus:=rv.zero
 subst hus
 obtain⟨z,its,n,r,hl,e⟩:=I.lstM hH
 refine call_meets F.slot_list_clear ⟨_,e,rfl⟩ F.entry_list_clear (F.args_list_clear_1 _) (AutoSeq1.list_clear_list_0 l its.toArray n (by rw [List.size_toArray];omega)) ⟨e,?_⟩
 exact⟨.non,_,I.lset (its':=[]) (ys:=[]) hH e rfl .nil (Nat.zero_le _),rfl,q⟩
def rCat:R2:=fun x y H Q=>∃l b xs zs,x=.ref l∧y=.ref b∧H l=some (.lst xs)∧H b=some (.lst zs)∧xs.length+zs.length≤sizeLine∧∀p,H p=none→Q (.ref p) (upd H p (.lst (xs ++ zs)))
theorem op_cat:OpR X (binaryOp .Add) rCat:=by
 intro pins s σ H x y v u Q I rx ry h
 obtain⟨l,b,xs,zs,rfl,rfl,hH,hB,hz,q⟩:=h
 cases rx
 cases ry
 obtain⟨z,its,n,r,hl,e⟩:=I.lstM hH
 obtain⟨z2,its2,n2,r2,hl2,e2⟩:=I.lstM hB
 refine PySem.P.add_list e e2 ?_ (by rw [List.size_toArray,List.size_toArray];omega)
 have ea:its.toArray ++ its2.toArray=(its ++ its2).toArray:=by simp
 rw [ea]
 exact⟨.ref _,_,I.lnew (t':=s.toks) (r.append r2) (by rw [List.length_append];omega),rfl,q _ I.fresh⟩
end
section
variable {prog:Program} {w:World} {A:Around} {E:Value→Shared→Prop} {s:Shared}
end
section
variable {X:Cx}
end
end L2
namespace Att
open PySem PySem.W PySem.Calls PyProof.Rows
theorem ints_of_wellAll {P:Params} {h:Heap}:∀(ns:List Int) (vs:List Value),WellAll P h vs (ns.map WData.int)→IntsAre vs ns:=by
 intro ns
 induction ns with
 | nil=>
  intro vs w
  rw [List.map_nil] at w
  cases w
  exact .nil
 | cons n ns ih=>
  intro vs w
  rw [List.map_cons] at w
  cases w with
  | cons a b=>
   cases a
   exact .cons _ _ (ih _ b)
theorem script_of {l:OpenLaw} {n:Nat} (hn:l.most=some n) {P:Params} {h:Heap} {args:List WData} {vals:List Value}
  (hpre:l.row.toRowW.claim.pre args=true) (hwl:WellAll P h vals args):
  ∃a vs ns,vals=[Value.ref a]∧args=[WData.list (ns.map WData.int)]∧h.get? a=some { cls:=.type "list",data:=.seq vs.toArray }∧IntsAre vs ns∧ns.length≤n:=by
 have hsh:WShape.hasAll [] args [.list .int]=true:=(pre_splitW hpre).1
 have hc:l.pre.holds [] { args:=args }=true:=(pre_splitW hpre).2
 obtain⟨d,r,rfl,h1,h2⟩:=hasAllW_cons hsh
 obtain rfl:=hasAllW_nil h2
 obtain⟨xs,rfl,h3⟩:=hasW_list h1
 obtain⟨ns,rfl⟩:=items_int h3
 have hlen:ns.length≤n:=by
  unfold OpenLaw.pre at hc
  have h4:(WTm.not (.lt (.lit (.int (n:Int))) (.len (.arg 0)))).holds [] { args:=[.list (ns.map .int)] }=true:=by
   have h4:=(holds_andW hc).1
   rw [hn] at h4
   exact h4
  have h5:=condW_of h4 (w_not (w_lt w_lit (w_len_list (w_arg rfl))))
  rw [List.length_map] at h5
  refine Nat.le_of_not_lt fun q=>?_
  have q':(n:Int) <((ns.length:Nat):Int):=by omega
  first
   | (rw [decide_eq_true q'] at h5;exact absurd h5 (by decide))
   | (simp at h5;omega)
 cases hwl with
 | cons w1 w2=>
  cases w2
  cases w1 with
  | list ho hall=>exact⟨_,_,ns,rfl,rfl,ho,ints_of_wellAll ns _ hall,hlen⟩
theorem post_true (l:OpenLaw) (args:List WData):l.row.toRowW.claim.post args (.bool true) args=true:=
 postW_of (r:=l.row.toRowW) (X:=(true == true))
  (show WShape.has [] (.bool true) .bool=true by first | rfl | decide | simp [WShape.has,WShape.arms,WShape.armsAll])
  (show(WTm.eq .res (.lit (.bool true))).value [] { args:=args,res:=some (.bool true),after:=args }=some (.bool (true == true)) from w_eq_bool (w_res rfl) w_lit) rfl
theorem attach_call {l:OpenLaw} {n:Nat} {q:Program} {loose:List Str} {XP:(Str→Option Value)→Heap→Prop} {YP:World→Heap→Prop} {d:DefRec}
  (hn:l.most=some n) (hdf:d.params.defaults=[])
  (call:∀(w:World) (s₀ s₁:Shared) (mg mb:Str→Option Value) (fa:Addr) (o:Obj) (pm cd doc:Value) (a:Addr) (vs:List Value) (ns:List Int),
   Ground q loose [] XP w s₀ mg mb s₁.heap→YP w s₁.heap→
   s₁.heap.get? fa=some o→o.data=.func (docDef d.name d.params d.body d.scope pm cd doc)→s₁.heap.CodeRec cd d.name→mg d.name=some (.ref fa)→
   s₁.heap.get? a=some { cls:=.type "list",data:=.seq vs.toArray }→IntsAre vs ns→ns.length≤n→s₁.gens= #[]→
   codeAny (model l.prog w) callerA (.call (.ref fa) ⟨[.ref a],[]⟩) (fun r s'=>r=.ok (.ret (.bool true))∧OldK s₁.heap s'.heap∧s'.os=s₁.os∧AllBare s'.gens) s₁):
  WalkO q loose XP YP l.row.toRowW d [] (fun f vs=>PySem.call f vs):=by
 intro w s₀ s₁ mg mb G Y fa o pm cd doc dV kV ho hd hcd hD hmg hg args vals as hpre hlay hrd hwl hlo
 obtain rfl:dV=.none:=Dflts.none hD hdf
 obtain rfl:kV=.none:=Dflts.noKw hD
 obtain⟨a,vs,ns,rfl,rfl,hobj,hints,hlen⟩:=script_of hn hpre hwl
 refine enter_call (codeAny_mono (call w s₀ s₁ mg mb fa o pm cd doc a vs ns G Y ho (fd_plain hd) hcd hmg hobj hints hlen hg) fun r s' hq=>?_)
 obtain⟨rfl,h2,h3,h4⟩:=hq
 exact⟨.inl ⟨.bool true,.bool true,[],rfl,fun _=>rfl,.bool true,post_true l _,fun _=>⟨List.Pairwise.nil,fun _ hm=>(nomatch hm)⟩⟩,h2,h3,h4⟩
section
variable {prog:Program} {w:World} {A:Around} {E:Value→Shared→Prop} {s:Shared} {K:Frag}
end
end Att
namespace L2
open PySem PySem.Spec PyProof.Rows
theorem vals_ints:∀{vs:List Value} {ns:List Int},IntsAre vs ns→Vals (ns.map V.int) vs
 | _,_,.nil=>.nil
 | _,_,.cons n t h=>.cons ⟨t,rfl⟩ (vals_ints h)
def Only (H:Hp):Prop:=∀b,H b=none∨∃o xs,H b=some (.frz o (.lst xs))
theorem law_call {P:Program} {w:World} {K:PySem.W.Frag} {mg mb:Str→Option Value} {CX:CXT} {k:Nat} {fa a:Addr} {fd:FuncData} {x:Str} {sp:Sp} {s₁:Shared} {vs:List Value} {ns:List Int}
  (KX:K.In s₁.heap) (hns:s₁.heap.Ns mainGlobals mg) (hb:s₁.heap.Ns builtinsNs mb) (hbb:∀x:Str,x≠ "__name__" →mb x=bootBuiltins x) (hlim:s₁.heap.NoLimit) (hg:s₁.gens= #[])
  (ha:s₁.heap.get? a=some { cls:=.type "list",data:=.seq vs.toArray }) (hi:IntsAre vs ns) (hl:ns.length≤sizeLine) (hr:Room k callerA)
  (F:∀base:Heap,K.In base→base.Ns mainGlobals mg→FnOk P w K mg base CX k fa fd [x] sp) (hbind:∀(s:Shared) (u:Value),BindsTo s fd ⟨[u],[]⟩ [(x,u)])
  (hsp:∀H:Hp,Only H→SqL K H a (ns.map V.int)→sp [.ref a] H (fun v _=>v=.bl true) fun _ _ _=>False)
  (hCX:∀H e s',CX [] H s₁ (fun _ _ _=>False) e s'→False):
  codeAny (model P w) callerA (.call (.ref fa) ⟨[.ref a],[]⟩) (fun r s'=>r=.ok (.ret (.bool true))∧OldK s₁.heap s'.heap∧s'.os=s₁.os∧AllBare s'.gens) s₁:=by
 have rv:=vals_ints hi
 have lenV:=hi.length
 have core:∀H:Hp,Only H→SqL K H a (ns.map V.int)→HOk P w H s₁.heap→(∀b,H b≠none→b=a)→(H a≠none→K.lookup a=none)→
   codeAny (model P w) callerA (.call (.ref fa) ⟨[.ref a],[]⟩) (fun r s'=>r=.ok (.ret (.bool true))∧OldK s₁.heap s'.heap∧s'.os=s₁.os∧AllBare s'.gens) s₁:=by
  intro H hO hS hok hA hK
  have base_of:∀{b:Addr} {o:Obj},s₁.heap.get? b=some o→H b=none→(hidT s₁.heap H).get? b=some o:=fun e n=>hidT_get e n
  have noA:∀{b:Addr} {o:Obj} {es:Array DictEntry} {ep:Nat},s₁.heap.get? b=some o→o.data=.dict es ep→H b=none:=fun {b o es ep} e d=>by
   cases q:H b with
   | none=>rfl
   | some u=>
    have e':b=a:=hA b (by rw [q];simp)
    subst e'
    rw [ha] at e;cases e
    have d':Data.seq vs.toArray _=Data.dict es ep:=d
    cases d'
  have nsK:∀{b:Addr} {m:Str→Option Value},s₁.heap.Ns b m→(hidT s₁.heap H).Ns b m:=fun {b m} ⟨o,es,ep,e,d,r⟩=>⟨o,es,ep,base_of e (noA e d),d,r⟩
  have hKb:K.In (hidT s₁.heap H):=fun b o e=>base_of (KX b o e) (by
   cases q:H b with
   | none=>rfl
   | some u=>
    have e':b=a:=hA b (by rw [q];simp)
    subst e'
    rw [hK (by rw [q];simp)] at e;cases e)
  have hM:Mod K mg (hidT s₁.heap H):=⟨hKb,nsK hns,⟨mb,nsK hb,hbb⟩,let ⟨mc,h1,h2⟩:=hlim;⟨mc,nsK h1,h2⟩⟩
  have e0:Env0 P w K mg (hidT s₁.heap H) callerA [] s₁ H:=⟨rfl,hM,fun b o e=>of_hidT e,Nat.le_of_eq (hidT_size _ _),trivial,fun b hb=>absurd (show b∈([]:List Addr) from hb) (by simp),hok,.of_eq hg⟩
  refine codeAny_mono ((F _ hKb (nsK hns)).run callerA [] s₁ H ⟨[.ref a],[]⟩ [.ref a] [.ref a] _ _ hr e0 (hbind s₁ (.ref a)) (.cons rfl .nil) (hsp H hO hS)) fun r s' h=>?_
  cases r with
  | error e=>exact(hCX H e s' h).elim
  | ok fl=>
   cases fl with
   | next=>exact False.elim h
   | brk=>exact False.elim h
   | cont=>exact False.elim h
   | ret u=>
    obtain⟨v,H',os,bare,un,hok',r',q⟩:=h
    have q':v=.bl true:=q
    subst q'
    obtain rfl:u=Value.bool true:=r'
    refine⟨rfl,OldK.of_keep fun b o e=>?_,os,bare⟩
    cases q:H b with
    | none=>exact un.keep b o e q (by intro z;exact absurd (show b∈([]:List Addr) from z) (by simp)) (by simp)
    | some u=>
     rcases hO b with z | ⟨ob,xs,z⟩
     ·rw [q] at z;cases z
     ·have z2:=un.frzs b ob _ z
      obtain⟨e1,_⟩:=hok b _ z
      obtain⟨e2,_⟩:=hok' b _ z2
      rw [e] at e1;cases e1
      exact e2
 cases hk:K.lookup a with
 | some o=>
  have e:=KX a o hk
  rw [ha] at e
  cases e
  refine core (fun _=>none) (fun _=>.inl rfl) (.inr ⟨_,vs.toArray,_,hk,rfl,rfl,rfl,by rw [List.size_toArray,lenV];exact hl,by simpa using rv⟩) (fun b u z=>by have z':(none:Option HO)=some u:=z;cases z') (fun b z=>absurd rfl z) fun z=>absurd rfl z
 | none=>
  refine core (fun b=>if b=a then some (.frz { cls:=.type "list",data:=.seq vs.toArray } (.lst (ns.map V.int))) else none) (fun b=>?_) (.inl (.inr ⟨{ cls:=.type "list",data:=.seq vs.toArray },if_pos rfl⟩)) (fun b u z=>?_) (fun b z=>?_) fun _=>hk
  ·by_cases hb:b=a
   ·exact .inr ⟨_,_,if_pos hb⟩
   ·exact .inl (if_neg hb)
  ·by_cases hb:b=a
   ·have z':=(if_pos hb).symm.trans z
    cases z'
    subst hb
    exact⟨ha,by rw [List.length_map];exact hl,vs,_,rv,ha⟩
   ·have z':=(if_neg hb).symm.trans z
    cases z'
  ·by_cases hb:b=a
   ·exact hb
   ·exact absurd (if_neg hb) z
end L2
namespace L2
open PySem PySem.Spec PyProof.Rows
theorem walk_of {l:PySem.W.OpenLaw} {n k:Nat} {q:Program} {loose:List Str} {XP:(Str→Option Value)→Heap→Prop} {YP:World→Heap→Prop} {d:DefRec} {K:Params→PySem.W.Frag} {CX:World→CXT} {sp:World→Sp} {x:Str}
  (hn:l.most=some n) (hn2:n≤sizeLine) (hdf:d.params.defaults=[]) (hr:Room k callerA)
  (hY:∀(w:World) (h:Heap),YP w h→(K w.params).In h)
  (F:∀(w:World) (mg:Str→Option Value) (fa:Addr) (h:Heap),(K w.params).In h→h.Ns mainGlobals mg→mg d.name=some (.ref fa)→
   ∃fd:FuncData,(∀(s:Shared) (u:Value),BindsTo s fd ⟨[u],[]⟩ [(x,u)])∧
    ∀base:Heap,(K w.params).In base→base.Ns mainGlobals mg→FnOk l.prog w (K w.params) mg base (CX w) k fa fd [x] (sp w))
  (hsp:∀(w:World) (H:Hp) (a:Addr) (ns:List Int),ns.length≤n→Only H→SqL (K w.params) H a (ns.map V.int)→sp w [.ref a] H (fun v _=>v=.bl true) fun _ _ _=>False)
  (hCX:∀(w:World) (H:Hp) (s:Shared) (e:Value) (s':Shared),CX w [] H s (fun _ _ _=>False) e s'→False):
  PySem.W.WalkO q loose XP YP l.row.toRowW d [] (fun f vs=>PySem.call f vs):=by
 refine Att.attach_call hn hdf fun w s₀ s₁ mg mb fa o pm cd doc a vs ns G Y ho hd hcd hmg hobj hints hlen hg=>?_
 have KX:=hY w _ Y
 obtain⟨fd,hb,hF⟩:=F w mg fa _ KX G.T.g hmg
 exact law_call KX G.T.g G.T.b G.T.builtins G.T.nolimit hg hobj hints (Nat.le_trans hlen hn2) hr hF hb (fun H hO hS=>hsp w H a ns hlen hO hS) fun H e s'=>hCX w H s₁ e s'
end L2
namespace L2
open PySem PySem.Spec PyProof.Rows
def inClass (s:Stmt) (j:Nat):Stmt:=match s with
 | .ClassDef _ _ _ body _ _ _ _ _ _ _=>body.getD j (.Pass ⟨0,0,0,0⟩)
 | _=>.Pass ⟨0,0,0,0⟩
def aU (s:Stmt):Arguments:=match s with
 | .FunctionDef _ a _ _ _ _ _ _ _ _=>a
 | _=>{ posonlyargs:=[],args:=[],vararg:=none,kwonlyargs:=[],kw_defaults:=[],kwarg:=none,defaults:=[] }
def aR (s:Stmt):List Stmt:=match s with
 | .FunctionDef _ _ b _ _ _ _ _ _ _=>b
 | _=>[]
def az (s:Stmt):Scope:=match s with
 | .FunctionDef _ _ _ _ _ _ sc _ _ _=>sc
 | _=>{ kind:=.function,names:=[],isGenerator:=false,isCoroutine:=false }
abbrev CX0:CXT:=fun _ _ _ _ _ _=>False
abbrev E0:XK:=fun _ _ _=>False
theorem aO {X:Cx}:wu CX0 X E0:=fun _ _ _ _ _ _ _ h=>h.elim
structure Fun (K:PySem.W.Frag) (x qual:Str) (st:Stmt) (f:Addr) (fd:FuncData):Prop where
 ex:∃(oc:Value) (od:Option Addr) (kV doc pm:Value) (an:Option Addr) (cdv ct:Value) (osl:Array (Option Value)),
  fd=PySem.W.fnOf x qual (aU st) (aR st) (az st) .none kV doc pm an cdv ct∧K.lookup f=some ⟨oc,od,.func fd,osl⟩∧PySem.W.codeIn K cdv qual=true
 kp:PySem.W.keepIn K (.ref f)=true
section
variable {P:Program} {w:World} {K:PySem.W.Frag} {mg:Str→Option Value} {base:Heap}
theorem Fun.ok {x qual:Str} {st:Stmt} {f:Addr} {fd:FuncData} {N ps:List Str} {k:Nat} {sp:Sp} (F:Fun K x qual st f fd) (S:FnScope N ps (az st)) (len:∀vs H Q E,sp vs H Q E→vs.length=ps.length)
  (hbody:∀(cdv:Value) (A:Around) (outer:List Env) (s:Shared) (H:Hp) (vs:List V) (Q:VK) (E:XK),Room k (A.deeper (envOfC qual (az st) s.heap.objs.size f cdv))→sp vs H Q E→
   ∃t,PSs (cxOf CX0 P w K mg base N qual (az st) f cdv A outer s H E).nox (aR st) t∧t { nx:=fun _ H'=>Q .non H',rt:=Q } (start N vs) H):FnOk P w K mg base CX0 (k+1) f fd ps sp:=by
 obtain⟨oc,od,kV,doc,pm,an,cdv,ct,osl,rfl,lk,hcd⟩:=F.ex
 refine fn_of lk hcd S len fun A outer s H vs Q E hr hsp=>?_
 obtain⟨t,h,q⟩:=hbody cdv A outer s H vs Q E hr hsp
 exact⟨t,h.nox,q⟩
theorem Fun.binds {x qual:Str} {st:Stmt} {f:Addr} {fd:FuncData} {ps:List Str} (F:Fun K x qual st f fd)
  (h:∀(kV doc pm:Value) (an:Option Addr) (cdv ct:Value) (us:List Value),us.length=ps.length→bindArgs (PySem.W.fnOf x qual (aU st) (aR st) (az st) .none kV doc pm an cdv ct) ⟨us,[]⟩=pure (ps.zip us)):Binds K fd ps []:=by
 obtain⟨oc,od,kV,doc,pm,an,cdv,ct,osl,rfl,lk,hcd⟩:=F.ex
 exact .all (h kV doc pm an cdv ct)
theorem bu {x qual:Str} {st:Stmt} {f:Addr} {oc:Value} {od an:Option Addr} {osl:Array (Option Value)} {kV doc pm cdv ct:Value} (l:K.lookup f=some ⟨oc,od,.func (PySem.W.fnOf x qual (aU st) (aR st) (az st) .none kV doc pm an cdv ct),osl⟩)
  (c:PySem.W.codeIn K cdv qual=true) (k:PySem.W.keepIn K (.ref f)=true):Fun K x qual st f (PySem.W.fnOf x qual (aU st) (aR st) (az st) .none kV doc pm an cdv ct):=⟨⟨oc,od,kV,doc,pm,an,cdv,ct,osl,rfl,l,c⟩,k⟩
end
section
variable {X:Cx}
theorem pv (i:Nat) {x:Str} {pos:Pos} (hN:X.N[i]?=some x:=by rfl) (hv:Vis X.env.scope x:=by first | exact Or.inl rfl | exact Or.inr (Or.inl rfl) | exact Or.inr (Or.inr rfl)) (hd:(x == ("__debug__" :Str))=false:=by decide)
  (hcd:(x == ("__classdict__" :Str))=false:=by decide):PE X (.Name x pos) (tVar i):=pe_var hN hv hd hcd
end
theorem cQ {A B:Prop} (h:B):if false=true then A else B:=by
 rw [if_neg Bool.false_ne_true]
 exact h
theorem tV {A B:Prop} (h:A):if true=true then A else B:=by
 rw [if_pos rfl]
 exact h
theorem oH {c A B:Prop} [Decidable c] (h1:c→A) (h2:¬c→B):if c then A else B:=by
 by_cases h:c
 ·rw [if_pos h]
  exact h1 h
 ·rw [if_neg h]
  exact h2 h
theorem iteNS {c A B:Prop} [Decidable c] (hc:c) (h:B):if (!decide c)=true then A else B:=by
 rw [decide_eq_true hc]
 exact cQ h
def aW (H H':Hp):Prop:=∀b o,H b=some o→H' b=some o
theorem aW.refl (H:Hp):aW H H:=fun _ _ h=>h
theorem aW.trans {H H1 H2:Hp} (a:aW H H1) (b:aW H1 H2):aW H H2:=fun c o h=>b c o (a c o h)
theorem aW.free {H H':Hp} (e:aW H H') {l:Addr} (h:H' l=Option.none):H l=Option.none:=by
 cases q:H l with
 | none=>rfl
 | some o=>
  rw [e l o q] at h
  cases h
theorem aW.seq {K:PySem.W.Frag} {H H':Hp} {a:Addr} {xs:List V} (e:aW H H') (h:SqL K H a xs):SqL K H' a xs:=by
 rcases h with (h | ⟨o,h⟩) | h
 ·exact .inl (.inl (e _ _ h))
 ·exact .inl (.inr ⟨o,e _ _ h⟩)
 ·exact .inr h
end L2
set_option Elab.async false
set_option linter.all false
set_option maxRecDepth 100000
set_option Elab.async false
set_option maxHeartbeats 4000000
namespace L2
open PySem PySem.Spec PyProof.Rows
theorem hok_track {P:Program} {w:World} {H:Hp} {h:Heap} {a:Addr} {o:HO} (x:HOk P w H h) (hn:H a=none) (new:fM P w (upd H a o) h a o):HOk P w (upd H a o) h:=fun b u e=>by
 by_cases hb:b=a
 ·subst hb;rw [aA] at e;cases e;exact new
 ·rw [aM hb] at e
  exact(x b u e).stay (fun c v _ q=>q) (fun c q=>by rw [aM (aD q hn)];exact q) fun c xs q=>by rw [aM (aD q hn)];exact q
theorem Bm {α β:Type} {f:α→β→Sem (ForInStep β)} (g:α→β→β):∀(l:List α) (c:β),(∀x∈l,∀c,f x c=pure (.yield (g x c)))→forIn l c f=pure (l.foldl (fun c x=>g x c) c)
 | [],_,_=>rfl
 | x:: l,c,h=>by
  rw [List.forIn_cons,h x List.mem_cons_self,pure_bind]
  exact Bm g l (g x c) fun y hy=>h y (List.mem_cons_of_mem _ hy)
def wW (env:Env) (x:Str×NameKind) (cs:List (Str×Addr)):List (Str×Addr):=
 if x.2=.free then(match env.cells.lookup x.1 with | some c=>(x.1,c):: cs | none=>cs) else cs
def clos (env:Env) (l:List (Str×NameKind)) (c:List (Str×Addr)):List (Str×Addr):=l.foldl (fun c x=>wW env x c) c
theorem w5 {env:Env} {scope:Scope} (h:∀y∈scope.names,y.2=.free→∃c,env.cells.lookup y.1=some c):closureFor scope env=pure (clos env scope.names []):=by
 simp only [closureFor]
 rw [Bm (wW env) scope.names [] fun x hx c=>?_]
 ·rfl
 ·obtain⟨n,k⟩:=x
  by_cases hk:k=.free
  ·subst hk
   obtain⟨a,ha⟩:=h _ hx rfl
   have ha':env.cells.lookup n=some a:=ha
   simp [cellOf,ha',wW]
  ·have:(k == NameKind.free)=false:=by simpa using hk
   simp [this,wW,hk]
theorem clos_sub {env:Env}:∀(l:List (Str×NameKind)) (c:List (Str×Addr)),(∀y a,c.lookup y=some a→env.cells.lookup y=some a)→∀y a,(clos env l c).lookup y=some a→env.cells.lookup y=some a
 | [],_,h=>h
 | x:: l,c,h=>by
  refine clos_sub l (wW env x c) fun y a e=>?_
  unfold wW at e
  by_cases hk:x.2=.free
  ·rw [if_pos hk] at e
   cases q:env.cells.lookup x.1 with
   | none=>rw [q] at e;exact h y a e
   | some b=>
    rw [q] at e
    by_cases hy:(y == x.1)=true
    ·have:y=x.1:=by simpa using hy
     subst this
     have e':((x.1,b):: c).lookup x.1=some a:=e
     simp [List.lookup_cons] at e'
     rw [q,e']
    ·have hy':(y == x.1)=false:=by simpa using hy
     have e':((x.1,b):: c).lookup y=some a:=e
     rw [List.lookup_cons,hy'] at e'
     exact h y a e'
  ·rw [if_neg hk] at e;exact h y a e
theorem Bx {env:Env}:∀(l:List (Str×NameKind)) (c:List (Str×Addr)) (y:Str),((∃a,c.lookup y=some a)∨∃k∈l,k.1=y∧k.2=.free∧∃a,env.cells.lookup y=some a)→∃a,(clos env l c).lookup y=some a
 | [],_,_,h=>by
  rcases h with h | ⟨k,hk,_⟩
  ·exact h
  ·cases hk
 | x:: l,c,y,h=>by
  refine Bx l (wW env x c) y ?_
  have up:(∃a,c.lookup y=some a)→∃a,(wW env x c).lookup y=some a:=fun⟨a,e⟩=>by
   unfold wW
   split
   ·split
    ·rename_i b q
     by_cases hy:(y == x.1)=true
     ·exact⟨b,by rw [List.lookup_cons,hy]⟩
     ·have hy':(y == x.1)=false:=by simpa using hy
      exact⟨a,by rw [List.lookup_cons,hy'];exact e⟩
    ·exact⟨a,e⟩
   ·exact⟨a,e⟩
  rcases h with h | ⟨k,hk,h1,h2,a,h3⟩
  ·exact .inl (up h)
  ·rcases List.mem_cons.mp hk with e | hk
   ·subst e
    left
    unfold wW
    rw [if_pos h2,h1,h3]
    exact⟨a,by simp [List.lookup_cons]⟩
   ·exact .inr ⟨k,hk,h1,h2,a,h3⟩
theorem vm (scope:Scope) (env:Env) (y:Str):(relabel scope env).names.lookup y=(scope.names.lookup y).map fun k=>if (k == NameKind.free && env.scope.kind == .function && env.kindOf y == some .cell)=true then .cell else k:=by
 show(scope.names.map _).lookup y=_
 induction scope.names with
 | nil=>rfl
 | cons p l ih=>
  obtain⟨n,k⟩:=p
  rw [List.map_cons]
  show List.lookup y ((if (k == NameKind.free && env.scope.kind == .function && env.kindOf n == some .cell)=true then(n,NameKind.cell) else(n,k)):: _)=_
  by_cases hy:(y == n)=true
  ·have:y=n:=by simpa using hy
   subst this
   by_cases hc:(k == NameKind.free && env.scope.kind == .function && env.kindOf y == some .cell)=true
   ·rw [if_pos hc]
    simp only [List.lookup_cons,beq_self_eq_true,Option.map_some]
    rw [if_pos hc]
   ·rw [if_neg hc]
    simp only [List.lookup_cons,beq_self_eq_true,Option.map_some]
    rw [if_neg hc]
  ·have hy':(y == n)=false:=by simpa using hy
   by_cases hc:(k == NameKind.free && env.scope.kind == .function && env.kindOf n == some .cell)=true
   ·rw [if_pos hc]
    simp only [List.lookup_cons,hy']
    exact ih
   ·rw [if_neg hc]
    simp only [List.lookup_cons,hy']
    exact ih
theorem pure_elim {α β:Type} {M:Model} {A:Around} {a:α} {Q:α→Shared→Prop} {E:Value→Shared→Prop} {m:Sem β} {Q':β→Shared→Prop} {E':Value→Shared→Prop} {s:Shared} (h:wpAny M A (pure a) Q E s) (k:Q a s→wpAny M A m Q' E' s):
  wpAny M A m Q' E' s:=fun Γ p hΓ=>k (h Γ p hΓ) Γ p hΓ
def fO (N:List Str) (js:List Nat):List Str:=js.map fun j=>(N[j]?).getD Str.empty
def eX (σ:St) (js:List Nat):St:=js.map fun j=>(σ[j]?).join
def yd (X:Cx) (scope:Scope) (x:Str) (js:List Nat) (cl:List (Str×Addr)) (C:Addr) (s:Shared) (H:Hp) (ex:List Addr):Cx where
 prog:=X.prog
 w:=X.w
 K:=X.K
 mg:=X.mg
 base:=X.base
 A:=X.A
 N:=x:: fO X.N js
 s₀:=s
 H₀:=H
 env:=compEnvC scope cl C X.env
 outer:=X.stack
 stack:=X.stack
 ex:=ex
 fn:=fun _=>false
 calm:=X.calm
 pn:=[]
 xe:=fun _ _=>False
def PF (X:Cx) (ifs:List Expr) (t:TT):Prop:=
 ∀(pins:List (Addr×Obj)) (s:Shared) (σ:St) (H:Hp) (Q:Bool→Hp→Prop),Inv X pins σ H s→t σ H Q→
  wpAny (model X.prog X.w) X.A (forIn ifs true fun c r=>if r=true then do let ok ←isTrue c X.env (eval c X.env);pure (ForInStep.yield ok) else pure (ForInStep.yield r)) (TP X pins σ Q) X.xe s
def tYes:TT:=fun _ H Q=>Q true H
theorem mD {X:Cx}:PF X [] tYes:=fun _ _ _ H _ I h=>wpAny_pure ⟨H,I,h⟩
theorem pf_one {X:Cx} {c:Expr} {t:TT} (hc:PT X c t):PF X [c] t:=by
 intro pins s σ H Q I h
 rw [List.forIn_cons,if_pos rfl]
 refine wpAny_bind (wpAny_bind (thn (hc pins s σ H Q I h) fun b s1 q=>wpAny_pure ?_))
 show wpAny (model X.prog X.w) X.A (pure b) (TP X pins σ Q) X.xe s1
 exact wpAny_pure q
def CompEnd (js:List Nat) (tt:TT) (te:TE) (σ:St) (Qd:List V→Hp→Prop) (J:It) (H1:Hp):Prop:=∃W:Nat→Nat→List V→Hp→Prop,(∃m,W 0 m [] H1)∧∀i m ys H2,W i m ys H2→
 (J.stop i H2∧ys.length≤sizeLine∧Qd ys H2)∨
 (J.go i H2∧ys.length <sizeLine∧∃N:List V→Hp→Prop,(∀ys' H',N ys' H'→∃m',m' <m∧W (i+1) m' ys' H')∧∀x H3,J.yld i H2 x H3→tt (some x:: eX σ js) H3 fun b H4=>
  if b=true then te (some x:: eX σ js) H4 fun y H5=>N (ys ++ [y]) H5 else N ys H4)
def tComp (js:List Nat) (wi:TI) (tt:TT) (te:TE):TE:=fun σ H Q=>wi σ H (CompEnd js tt te σ fun ys H2=>∀D,H2 D=none→Q (.ref D) (upd H2 D (.lst ys)))
section
variable {X:Cx} {x:Str} {px pos:Pos} {iter elt:Expr} {ifs:List Expr} {scope:Scope} {wi:TI} {tt:TT} {te:TE}
theorem BV (js:List Nat) {pins:List (Addr×Obj)} {σ:St} {s:Shared} {itv:Value} {Q:List V→Hp→Prop} {RR:Value→Addr→Result→Shared→Prop} {E:Value→Shared→Prop}
  (hc:X.calm=true) (hk:scope.kind=.function) (hx:scope.names.lookup x=some .local) (hcell:∀y∈scope.names,y.2≠.cell)
  (hfree:∀y∈scope.names,y.2=.free→X.env.kindOf y.1=some .cell∨X.env.kindOf y.1=some .free)
  (hN:(x:: fO X.N js).Nodup) (hjs:∀y∈fO X.N js,scope.names.lookup y=some .free)
  (hif:∀cl C s H ex,PF (yd X scope x js cl C s H ex) ifs tt) (he:∀cl C s H ex,PE (yd X scope x js cl C s H ex) elt te)
  (hit:PIE X pins σ (.Name x px) (CompEnd js tt te σ Q) itv s)
  (hR:∀D C s' H2 ys m,Inv X pins σ (upd H2 D (.lst ys)) s'→H2 D=none→s'.heap.Ns C m→(∀h',Heap.SameBut C s'.heap h'→Inv X pins σ (upd H2 D (.lst ys)) { s' with heap:=h' })→FpOk X pins (upd H2 D (.lst ys)) C→C≠D→Q ys H2→RR (.ref D) C (.ok .next) s'):
  wpAny (model X.prog X.w) X.A (newList []) (fun acc s₃=>wpAny (model X.prog X.w) X.A (newFunctionEnv scope X.env.globals (clos X.env scope.names []) [] X.env.qual none .none (some X.env)) (fun cenv s₄=>
   codeAny (model X.prog X.w) X.A (.compStart (.ListComp elt [⟨.Name x px,iter,ifs,0⟩] scope pos) 0 itv acc { cenv with scope:=relabel scope X.env }) (RR acc cenv.locals) s₄) E s₃) E s:=by
 obtain⟨it,fp,tn,J,H1,rfl,I1,T,st1,f1,W,⟨m0,w0⟩,turn⟩:=hit
 refine wpAny_newObj_type (wpAny_newFunctionEnv hcell (by intro y hy;simp at hy) (fun h₁ hns₁ hsb₁=>?_) hk)
 dsimp only at hns₁ hsb₁ ⊢
 generalize hH2:s.heap.push { cls:=.type "list",dict:=none,data:=.seq ([]:List Value).toArray }=Hl at hns₁ hsb₁ ⊢
 generalize hDe:s.heap.objs.size=D
 have hCe:Hl.objs.size=D+1:=by rw [←hH2,Heap.size_push,hDe]
 generalize hC:Hl.objs.size=C at hns₁ hsb₁ hCe ⊢
 subst hCe
 have hDC:D≠D+1:=Nat.ne_of_lt (Nat.lt_succ_self _)
 have lt:∀b o,s.heap.get? b=some o→b <D:=fun b o e=>hDe ▸ Heap.lt_size e
 have old:∀b o,s.heap.get? b=some o→h₁.get? b=some o:=fun b o e=>by
  have hb:=lt b o e
  refine hsb₁.extBut b o (Nat.ne_of_lt (Nat.lt_succ_of_lt hb)) (Heap.get?_push_of_some _ ?_)
  rw [←hH2];exact Heap.get?_push_of_some _ e
 have accD:h₁.get? D=some { cls:=.type "list",dict:=none,data:=.seq ([]:List Value).toArray }:=by
  refine hsb₁.extBut _ _ hDC (Heap.get?_push_of_some _ ?_)
  rw [←hH2,←hDe];exact Heap.get?_push_size _ rfl
 have fresh:∀a,D≤a→H1 a=none:=fun a ha=>I1.hok.fresh (by rw [hDe];exact ha)
 have fpD:∀b∈fp,b <D:=fun b hb=>by
  obtain⟨o,e,_⟩:=T.obj 0 s.heap st1 b hb
  exact lt b o e
 have cellD:∀y c,X.env.cells.lookup y=some c→c <D:=fun y c e=>by
  obtain⟨v,q⟩:=I1.cell y c e
  exact hDe ▸ q.lt
 generalize hcl:clos X.env scope.names []=cl
 have clsub:∀y c,cl.lookup y=some c→X.env.cells.lookup y=some c:=by
  rw [←hcl];exact clos_sub scope.names [] fun y a e=>by simp at e
 have frD:∀b∈frs X.stack,b <D:=fun b hb=>by
  obtain⟨_,o,ho,_⟩:=I1.stack.mem hb
  exact lt b o ho
 let Y:Cx:=yd X scope x js cl (D+1) s H1 fp
 have kinds:∀y,Y.env.kindOf y=some .cell∨Y.env.kindOf y=some .free→∃k∈scope.names,k.1=y∧k.2=.free:=fun y hy=>by
  have hy':(relabel scope X.env).names.lookup y=some .cell∨(relabel scope X.env).names.lookup y=some .free:=hy
  rw [vm] at hy'
  cases q:scope.names.lookup y with
  | none=>rw [q] at hy';simp at hy'
  | some k=>
   have hm:=PySem.mem_of_lookup q
   refine⟨(y,k),hm,rfl,?_⟩
   have h1:k≠.cell:=hcell _ hm
   rw [q] at hy'
   simp only [Option.map_some,Option.some.injEq] at hy'
   by_cases hkf:k=.free
   ·exact hkf
   ·have:(k == NameKind.free)=false:=by simpa using hkf
    simp only [this,Bool.false_and,Bool.false_eq_true,if_false] at hy'
    rcases hy' with e | e
    ·exact absurd e h1
    ·exact absurd e hkf
 have okY:Y.Ok:=by
  refine⟨I1.ok.mod,hk,I1.ok.glob,I1.ok.blt,(by show s.heap.objs.size≤D+1;rw [hDe];exact Nat.le_succ _),fun y z c h1 h2=>I1.ok.inj y z c (clsub y c h1) (clsub z c h2),fun y hy=>?_,fun y c h _=>absurd h (by show ¬(false=true);decide),I1.ok.hd,I1.ok.frames,.inl rfl,fun b hb=>⟨Nat.ne_of_lt (Nat.lt_succ_of_lt (fpD b hb)),fun y c e z=>(f1 b hb).2.2.2.2.1 y c (clsub y c e) z⟩,
   fun b o e=>I1.bs b o e,Nat.le_trans I1.ok.bsz I1.sz,fun b o e hb=>?_,fun b hb hf=>?_,I1.stack,I1.stkFree⟩
  ·obtain⟨k,hm,e1,e2⟩:=kinds y hy
   show ∃c,cl.lookup y=some c
   rw [←hcl]
   refine Bx scope.names [] y (.inr ⟨k,hm,e1,e2,?_⟩)
   have:=hfree k hm e2
   rw [e1] at this
   exact I1.ok.has y this
  ·obtain⟨_,_,_,h4,_,_⟩:=f1 b hb
   rcases h4 with z | z
   ·exact I1.ok.noex b o e z
   ·exact absurd (Nat.lt_of_lt_of_le (Heap.lt_size e) (Nat.le_trans I1.ok.bsz z)) (Nat.lt_irrefl _)
  ·rcases List.mem_cons.mp (I1.stkSub b hf) with z | z
   ·exact(f1 b hb).2.1 z
   ·exact(f1 b hb).2.2.1 z
 have hxl:Y.env.scope.names.lookup x=some .local:=lookup_relabel_local hx
 let σ0:St:=none:: eX σ js
 have IY:Inv Y [] σ0 H1 { s with heap:=h₁,toks:=s.toks+([]:List (Str×Value)).length }:=by
  refine⟨okY,rfl,I1.bare,Un.kept old,⟨_,hns₁,fun i y v e1 e2 e3=>?_⟩,fun y c e=>?_,fresh _ (Nat.le_succ _),fun y c e=>I1.freeC y c (clsub y c e),fun p hp=>absurd (show p∈([]:List (Addr×Obj)) from hp) (by simp),I1.hok.kept old,?_⟩
  ·cases i with
   | zero=>cases e2
   | succ i=>
    have e1':(fO X.N js)[i]?=some y:=e1
    have e2':(eX σ js)[i]?=some (some v):=e2
    unfold fO at e1'
    unfold eX at e2'
    rw [List.getElem?_map] at e1' e2'
    cases q:js[i]? with
    | none=>rw [q] at e1';cases e1'
    | some j=>
     rw [q] at e1' e2'
     simp only [Option.map_some,Option.some.injEq] at e1' e2'
     have hv:σ[j]?=some (some v):=by
      cases z:σ[j]? with
      | none=>rw [z] at e2';cases e2'
      | some w=>rw [z] at e2';simpa using e2'
     have hj:j <X.N.length:=by
      rw [←I1.len];exact(List.getElem?_eq_some_iff.mp hv).1
     have hy:X.N[j]?=some y:=by
      rw [List.getElem?_eq_getElem hj] at e1' ⊢
      rw [←e1'];rfl
     obtain⟨m,hn,hl⟩:=I1.loc
     have hmem:y∈fO X.N js:=List.mem_map.mpr ⟨j,List.mem_of_getElem? q,by rw [hy];rfl⟩
     have hfr:=hjs y hmem
     have hkx:=hfree _ (PySem.mem_of_lookup hfr) rfl
     have hvis:Vis X.env.scope y:=hkx.elim (fun z=>.inr (.inl z)) fun z=>.inr (.inr z)
     obtain⟨u,r,l⟩:=hl j y v hy hv hvis
     refine⟨u,r,?_⟩
     rcases l with ⟨kl,_⟩ | ⟨_,c,hc1,z⟩
     ·exfalso
      have kl':X.env.kindOf y=some .local:=kl
      rcases hkx with w | w <;> · rw [show X.env.kindOf y=_ from w] at kl';cases kl'
     ·obtain⟨c',hc'⟩:=Bx (env:=X.env) scope.names [] y (.inr ⟨_,PySem.mem_of_lookup hfr,rfl,rfl,c,hc1⟩)
      rw [hcl] at hc'
      have e4:=clsub y c' hc'
      rw [hc1] at e4
      cases e4
      obtain⟨o,ho,hd⟩:=z
      refine .inr ⟨?_,c,hc',o,old c o ho,hd⟩
      rcases e3 with e3 | e3 | e3
      ·exfalso
       have e3':(relabel scope X.env).names.lookup y=some .local:=e3
       rw [vm,hfr] at e3'
       simp only [Option.map_some,Option.some.injEq] at e3'
       split at e3' <;> cases e3'
      ·exact .inl e3
      ·exact .inr e3
  ·obtain⟨v,q⟩:=I1.cell y c (clsub y c e)
   obtain⟨o,ho,hd⟩:=q
   exact⟨v,o,old c o ho,hd⟩
  ·show(eX σ js).length+1=(fO X.N js).length+1
   unfold eX fO
   rw [List.length_map,List.length_map]
 have mkR:∀(s':Shared) (H2:Hp) (ys:List V) (its:List Value) (σ':St),Inv Y [] σ' H2 s'→s'.heap.PlainList D its.toArray→Vals ys its→ys.length≤sizeLine→H2 D=none→Q ys H2→RR (.ref D) (D+1) (.ok .next) s':=by
  intro s' H2 ys its σ' I' pl rv hz hD hq
  obtain⟨m,hn,_⟩:=I'.loc
  have hn':s'.heap.Ns (D+1) m:=hn
  have hCn:H2 (D+1)=none:=I'.free
  have hch:∀b∈fp,(b∈X.ex∨X.s₀.heap.objs.size≤b)∧b≠X.env.locals∧(∀x c,X.env.cells.lookup x=some c→c≠b)∧∀p∈X.pn ++ pins,p.1≠b:=fun b hb=>by
   obtain⟨_,h2,_,h4,h5,h6⟩:=f1 b hb
   exact⟨h4,h2,h5,h6⟩
  have bs:Un (frs X.stack) fp H1 H2 s.heap s'.heap:=I'.base
  have all:∀h',Heap.SameBut (D+1) s'.heap h'→Inv X pins σ (upd H2 D (.lst ys)) { s' with heap:=h' }:=fun h' sb=>by
   have neD:∀b o,s.heap.get? b=some o→b≠D:=fun b o e=>Nat.ne_of_lt (lt b o e)
   have neC:∀b o,s.heap.get? b=some o→b≠D+1:=fun b o e=>Nat.ne_of_lt (Nat.lt_succ_of_lt (lt b o e))
   refine I1.call' (s':={ s' with heap:=h' }) (ch:=fp) I'.os ⟨fun b o e n hb hx=>?_,fun b o e n hb hx=>?_,fun b o e n hx=>?_,fun b o e hx=>?_,fun b xs e=>?_,fun b o u e=>?_,fun b ps e=>?_⟩ ?_ I'.bare hch
   ·exact(sb.2 b (neC b o e)).trans (bs.keep b o e n hb hx)
   ·obtain⟨sl,q⟩:=bs.slot b o e n hb hx
    exact⟨sl,(sb.2 b (neC b o e)).trans q⟩
   ·rw [aM (neD b o e)];exact bs.free b o e n hx
   ·obtain⟨o',q⟩:=bs.there b o e hx
    exact⟨o',(sb.2 b (neC b o e)).trans q⟩
   ·have:=bs.tups b xs e
    rw [aM (aD this hD)];exact this
   ·have:=bs.frzs b o u e
    rw [aM (aD this hD)];exact this
   ·obtain⟨more,q⟩:=bs.tbls b ps e
    exact⟨more,by rw [aM (aD q hD)];exact q⟩
   ·have h0:HOk X.prog X.w H2 h':=fun b u e=>(I'.hok b u e).stay (fun c v hc q=>(sb.2 c (by
     rintro rfl
     rcases hc with z | z
     ·rw [z,e] at hCn;cases hCn
     ·rw [z] at hCn;cases hCn)).trans q) (fun _ q=>q) fun _ _ q=>q
    refine hok_track h0 hD ?_
    obtain⟨n,e⟩:=pl
    exact⟨hz,its,n,rv,(sb.2 D hDC).trans e⟩
  have hall:=all s'.heap (.refl ..)
  refine hR D (D+1) s' H2 ys m hall hD hn' all ?_ hDC.symm hq
  refine⟨by rw [aM hDC.symm];exact hCn,?_,?_,.inr (Nat.le_trans I1.sz (by rw [hDe];exact Nat.le_succ _)),fun y c e z=>?_,fun p hp z=>?_⟩
  ·exact Nat.ne_of_gt (Nat.lt_trans (hDe ▸ I1.lt) (Nat.lt_succ_self _))
  ·exact I1.nofs (by rw [hDe];exact Nat.le_succ _)
  ·exact absurd z (Nat.ne_of_lt (Nat.lt_succ_of_lt (cellD y c e)))
  ·exact absurd z (Nat.ne_of_lt (Nat.lt_succ_of_lt (lt _ _ (I1.pin p hp).1)))
 have loop:∀s₃:Shared,s₃={ s with heap:=h₁,toks:=s.toks+([]:List (Str×Value)).length }→
   codeAny (model X.prog X.w) X.A (.compLoop (.ListComp elt [⟨.Name x px,iter,ifs,0⟩] scope pos) 0 (.ref it) (.ref D) Y.env) (RR (.ref D) (D+1)) s₃:=by
  rintro s₃ rfl
  have stat:∀{H':Hp} {ob:Obj},(∀b∈fp,H' b=none)→∀b∈fp,FpOk Y [(D,ob)] H' b:=fun {H'} {ob} hn b hb=>by
   refine⟨hn b hb,Nat.ne_of_lt (Nat.lt_succ_of_lt (fpD b hb)),fun hf=>okY.exfs b hb hf,.inl hb,fun y c e=>(okY.exf b hb).2 y c e,fun p hp z=>?_⟩
   have hp':p∈[(D,ob)]:=hp
   have e:p=(D,ob):=by simpa using hp'
   rw [e] at z
   exact absurd z (Ne.symm (Nat.ne_of_lt (fpD b hb)))
  refine codeAny_compLoop_tests (fun n s'=>∃i ys its H',∃ob:Obj,Inv Y [(D,ob)] σ0 H' s'∧(∃n,ob={ cls:=.type "list",data:=.seq its.toArray n })∧Vals ys its∧H' D=none∧tn i s'.heap∧(∀b∈fp,H' b=none)∧W i n ys H') ?_ m0
   ⟨0,[],[],H1,{ cls:=.type "list",dict:=none,data:=.seq ([]:List Value).toArray },?_,⟨_,rfl⟩,.nil,fresh _ (Nat.le_refl _),T.keep _ _ _ st1 fun b _ o e=>old b o e,fun b hb=>(f1 b hb).1,w0⟩
  ·rintro n s3 ⟨i,ys,its,H3,ob,I3,⟨cap,rfl⟩,rv,hD,st3,fr3,w3⟩
   rcases turn i n ys H3 w3 with ⟨stop,hz,hq⟩ | ⟨go,hz,N,hN7,step⟩
   ·refine wpAny_mono (T.done Y rfl rfl rfl hc i _ s3 σ0 H3 (fun _ _=>False) I3 (stat fr3) st3 stop) (fun r s4 ⟨hr,I4⟩=>?_) fun _ _ f=>f.elim
    subst hr
    exact mkR s4 H3 ys its σ0 (I4.pins_of fun p hp=>absurd hp (by simp)) ⟨cap,(I4.pin _ (List.mem_append_right _ List.mem_cons_self)).1⟩ rv hz hD hq
   ·refine wpAny_mono (T.item Y rfl rfl rfl hc i _ s3 σ0 H3 (fun _ _=>False) I3 (stat fr3) st3 go) (fun r s4 ⟨u,hr,h4⟩=>?_) fun _ _ f=>f.elim
    subst hr
    have h4':wpAny (model X.prog X.w) X.A (pure ():Sem Unit) (fun _ s2=>∃x H',Inv Y [(D,{ cls:=.type "list",data:=.seq its.toArray cap })] σ0 H' s2∧RelV x u∧J.yld i H3 x H'∧tn (i+1) s2.heap∧∀b∈fp,H' b=none) (fun _ _=>False) s4:=h4
    refine pure_elim h4' fun hpt=>?_
    obtain⟨xv,H5,I5,r5,y5,st5,fr5⟩:=hpt
    have I5':=I5.pinned (stat fr5) (T.obj _ _ st5)
    refine wpAny_mono (wpAny_assign_Name (Ak (X:=Y) (E:=fun _ _=>False) (i:=0) (Q:=fun _ s6=>Inv Y ([(D,{ cls:=.type "list",data:=.seq its.toArray cap })] ++ Bq fp s4.heap) (some xv:: eX σ js) H5 s6) I5' hN rfl (.inl hxl) r5 (fun s6 I6=>I6) (.inr hxl))) (fun _ s6 I6=>?_) fun _ _ f=>f.elim
    have hD5:H5 D=none:=(I6.pin _ (List.mem_append_right _ (List.mem_append_left _ List.mem_cons_self))).2.1
    have again:∀{s7:Shared} {H7:Hp} {ys7:List V} {its7:List Value} {cap7:Nat} {pl:List (Addr×Obj)},Inv Y ([(D,{ cls:=.type "list",data:=.seq its7.toArray cap7 })] ++ pl) (some xv:: eX σ js) H7 s7→(∀b∈fp,∀o,s4.heap.get? b=some o→s7.heap.get? b=some o∧H7 b=none)→Vals ys7 its7→(∃m',m' <n∧W (i+1) m' ys7 H7)→
      ∃m,m <n∧∃i ys its H',∃ob:Obj,Inv Y [(D,ob)] σ0 H' s7∧(∃n,ob={ cls:=.type "list",data:=.seq its.toArray n })∧Vals ys its∧H' D=none∧tn i s7.heap∧(∀b∈fp,H' b=none)∧W i m ys H':=by
     intro s7 H7 ys7 its7 cap7 pl I7 kf rv7 ⟨m',hm,w7⟩
     refine⟨m',hm,i+1,ys7,its7,H7,_,I7.unpinned.weak rfl fun j v e=>?_,⟨cap7,rfl⟩,rv7,(I7.pin _ (List.mem_append_right _ (List.mem_append_left _ List.mem_cons_self))).2.1,T.keep _ _ _ st5 fun b hb o e=>(kf b hb o e).1,fun b hb=>?_,w7⟩
     ·cases j with
      | zero=>cases e
      | succ j=>exact e
     ·obtain⟨o,e,_⟩:=T.obj _ _ st5 b hb
      exact(kf b hb o e).2
    refine wpAny_mono (hif cl (D+1) s H1 fp _ s6 _ H5 _ I6 (step xv H5 y5)) (fun ok s7 ⟨H7,I7,q7⟩=>?_) fun _ _ f=>False.elim f
    have kf7:∀b∈fp,∀o,s4.heap.get? b=some o→s7.heap.get? b=some o∧H7 b=none:=fun b hb o e=>
     have z:=I7.pin (b,o) (List.mem_append_right _ (List.mem_append_right _ (ue hb e)))
     ⟨z.1,z.2.1⟩
    cases ok with
    | false=>
     rw [if_neg Bool.false_ne_true] at q7 ⊢
     exact again I7 kf7 rv (hN7 _ _ q7)
    | true=>
     rw [if_pos rfl] at q7 ⊢
     refine wpAny_mono (he cl (D+1) s H1 fp _ s7 _ H7 _ I7 q7) (fun yv s8 ⟨y,H8,I8,r8,q8⟩=>?_) fun _ _ f=>False.elim f
     have pD:=I8.pin _ (List.mem_append_right _ (List.mem_append_left _ List.mem_cons_self))
     have hlen:=rv.length
     refine wpAny_list_append_plain (items:=its.toArray) ⟨cap,pD.1⟩ (fun h9 pl9 sb9=>?_) (by rw [List.size_toArray];omega)
     obtain⟨cap9,e9⟩:=pl9
     have I9:Inv Y [] (some xv:: eX σ js) H8 { s8 with heap:=h9 }:=(I8.pins_of (pins':=[]) fun p hp=>absurd hp (by simp)).turned (t':=s8.toks) (it:=D) (fun b o hb e=>(sb9.2 b hb).trans e) pD.2.1 hDC
      (.inr (Nat.le_of_eq hDe)) (fun y c e z=>absurd z (Nat.ne_of_lt (cellD y c (clsub y c e)))) fun p hp=>absurd (show p∈([]:List (Addr×Obj)) from hp) (by simp)
     have kf9:∀b∈fp,∀o,s4.heap.get? b=some o→h9.get? b=some o∧H8 b=none:=fun b hb o e=>by
      have z:=I8.pin (b,o) (List.mem_append_right _ (List.mem_append_right _ (ue hb e)))
      exact⟨(sb9.2 b (Nat.ne_of_lt (fpD b hb))).trans z.1,z.2.1⟩
     refine again (s7:={ s8 with heap:=h9 }) (its7:=its ++ [yv]) (cap7:=cap9) (pl:=[]) (I9.pins_of fun p hp=>?_) kf9 (rv.append (.cons r8 .nil)) (hN7 _ _ q8)
     have hp':p=(D,{ cls:=.type "list",data:=.seq (its ++ [yv]).toArray cap9 }):=by simpa using hp
     subst hp'
     refine⟨?_,pD.2.1,pD.2.2.1,pD.2.2.2.1,fun v z=>by cases z⟩
     rw [e9]
     simp
  ·refine IY.pins_of fun p hp=>?_
   have hp':p=(D,{ cls:=.type "list",dict:=none,data:=.seq ([]:List Value).toArray }):=by simpa using hp
   subst hp'
   exact⟨accD,fresh _ (Nat.le_refl _),hDC,fun hf=>Nat.lt_irrefl _ (frD _ hf),fun v z=>by cases z⟩
 exact codeAny_compStart_list (loop _ rfl) (wpAny_mono (T.self X.A 0 _ (fun v s'=>v=.ref it∧s'={ s with heap:=h₁,toks:=s.toks+([]:List (Str×Value)).length }) (fun _ _=>False) (T.keep _ _ _ st1 fun b _ o e=>old b o e) ⟨rfl,rfl⟩) (fun v s' ⟨e1,e2⟩=>by subst e1 e2;exact loop _ rfl) fun _ _ f=>f.elim)
theorem iR (js:List Nat) (N0:List Str) (sc0:Scope) (hc:X.calm=true) (hi:PI X (.Name x px) iter wi)
  (hif:∀cl C s H ex,PF (yd X scope x js cl C s H ex) ifs tt) (he:∀cl C s H ex,PE (yd X scope x js cl C s H ex) elt te)
  (hk:scope.kind=.function:=by rfl) (hx:scope.names.lookup x=some .local:=by rfl) (hcell:∀y∈scope.names,y.2≠.cell:=by decide +kernel)
  (hnames:∀y∈scope.names,y.2=.local→scope.names.lookup y.1=some .local:=by decide +kernel)
  (hsc:X.env.scope=sc0:=by rfl) (hfree0:∀y∈scope.names,y.2=.free→sc0.names.lookup y.1=some .cell∨sc0.names.lookup y.1=some .free:=by decide +kernel)
  (hNN:X.N=N0:=by rfl) (hN0:(x:: fO N0 js).Nodup:=by decide +kernel) (hj0:∀y∈fO N0 js,scope.names.lookup y=some .free:=by decide +kernel)
  (hs:∀x,foldedSetIterable iter X.env x=pure x:=by intro _;rfl):
  PE X (.ListComp elt [⟨.Name x px,iter,ifs,0⟩] scope pos) (tComp js wi tt te):=by
 intro pins s σ H Q I h
 have hN:(x:: fO X.N js).Nodup:=by rw [hNN];exact hN0
 have hfree:∀y∈scope.names,y.2=.free→X.env.kindOf y.1=some .cell∨X.env.kindOf y.1=some .free:=fun y hy e=>by
  show X.env.scope.names.lookup y.1=some .cell∨X.env.scope.names.lookup y.1=some .free
  rw [hsc];exact hfree0 y hy e
 have hjs:∀y∈fO X.N js,scope.names.lookup y=some .free:=by rw [hNN];exact hj0
 rw [eval_ListComp]
 have hcl:closureFor scope X.env=pure (clos X.env scope.names []):=w5 fun y hy e=>I.ok.has y.1 (hfree y hy e)
 refine wpAny_comprehension_free (use:=none) rfl hs hcl hk hnames (thn (hi pins s σ H _ I h) fun xv s1 h1=>thn h1 fun it s2 h2=>?_)
 refine BV js (RR:=fun acc C=>compPost (model X.prog X.w) X.A X.xe none (EP X pins σ Q) acc C) (Q:=fun ys H2=>∀D,H2 D=none→Q (.ref D) (upd H2 D (.lst ys))) hc hk hx hcell hfree hN hjs hif he h2 ?_
 intro D C s' H2 ys m I' hD hn all fpC hCD hq
 exact⟨m,hn,fun h' sb=>⟨.ref D,_,all h' sb,rfl,hq D hD⟩⟩
theorem yg {i:Nat} {y:Str} {py spos:Pos} (js:List Nat) (N0:List Str) (sc0:Scope) (hc:X.calm=true) (hNX:X.N.Nodup) (hiy:X.N[i]?=some y) (hi:PI X (.Name x px) iter wi)
  (hif:∀cl C s H ex,PF (yd X scope x js cl C s H ex) ifs tt) (he:∀cl C s H ex,PE (yd X scope x js cl C s H ex) elt te)
  (hsw:swapsWith (.ListComp elt [⟨.Name x px,iter,ifs,0⟩] scope pos) (some (.Name y py)) spos.line X.env=pure true:=by rfl) (hy:X.env.scope.names.lookup y=some .local:=by rfl)
  (hk:scope.kind=.function:=by rfl) (hx:scope.names.lookup x=some .local:=by rfl) (hcell:∀y∈scope.names,y.2≠.cell:=by decide +kernel)
  (hnames:∀y∈scope.names,y.2=.local→scope.names.lookup y.1=some .local:=by decide +kernel)
  (hsc:X.env.scope=sc0:=by rfl) (hfree0:∀y∈scope.names,y.2=.free→sc0.names.lookup y.1=some .cell∨sc0.names.lookup y.1=some .free:=by decide +kernel)
  (hNN:X.N=N0:=by rfl) (hN0:(x:: fO N0 js).Nodup:=by decide +kernel) (hj0:∀y∈fO N0 js,scope.names.lookup y=some .free:=by decide +kernel)
  (hs:∀x,foldedSetIterable iter X.env x=pure x:=by intro _;rfl):
  PS X (.Assign [.Name y py] (.ListComp elt [⟨.Name x px,iter,ifs,0⟩] scope pos) spos) (tAsg (tComp js wi tt te) (gName i)):=by
 intro pins s σ H D I h
 have hN:(x:: fO X.N js).Nodup:=by rw [hNN];exact hN0
 have hfree:∀y∈scope.names,y.2=.free→X.env.kindOf y.1=some .cell∨X.env.kindOf y.1=some .free:=fun y hy e=>by
  show X.env.scope.names.lookup y.1=some .cell∨X.env.scope.names.lookup y.1=some .free
  rw [hsc];exact hfree0 y hy e
 have hjs:∀y∈fO X.N js,scope.names.lookup y=some .free:=by rw [hNN];exact hj0
 rw [exec_Assign_Name_used _ _ _ _ hsw]
 refine wpAny_bind (wpAny_standAt (wpAny_bind ?_))
 show wpAny _ X.A (do let _ ←comprehension (.ListComp elt [⟨.Name x px,iter,ifs,0⟩] scope pos) scope X.env _ (newList []) false (eval iter X.env) (some (assign (.Name y py) X.env))) _ _ s
 have hcl:closureFor scope X.env=pure (clos X.env scope.names []):=w5 fun y hy e=>I.ok.has y.1 (hfree y hy e)
 refine wpAny_bind (wpAny_mono (wpAny_comprehension_free (use:=some (assign (.Name y py) X.env)) (Q:=fun _ s'=>SP X pins D .next s') rfl hs hcl hk hnames
  (thn (hi pins s σ H _ I h) fun xv s1 h1=>thn h1 fun it s2 h2=>?_)) (fun _ s' hq=>wpAny_pure (wpAny_pure hq)) fun _ _ e=>e)
 refine BV js (RR:=fun acc C=>compPost (model X.prog X.w) X.A X.xe (some (assign (.Name y py) X.env)) (fun _ s'=>SP X pins D .next s') acc C) (Q:=fun ys H2=>∀D',H2 D'=none→D.nx (σ.set i (some (.ref D'))) (upd H2 D' (.lst ys))) hc hk hx hcell hfree hN hjs hif he h2 ?_
 intro D' C s' H2 ys m I' hD hn all fpC hCD hq
 show wpAny _ X.A (assign (.Name y py) X.env (.ref D')) _ _ _
 refine wpAny_assign_Name (store_ok2 I' hNX hiy (.inl hy) (v:=.ref D') rfl (fun s'' I'' ⟨a,sb,ha⟩=>?_) (.inr hy))
 obtain⟨f1,f2,f3,f4,f5,f6⟩:=fpC
 have hCa:C≠a:=by
  rcases ha with z | z
  ·rw [z];exact f2
  ·exact fun w=>f5 _ _ z w.symm
 exact⟨m,hn.sameBut sb hCa,fun h' sb'=>⟨_,_,I''.turned (t':=s''.toks) (it:=C) (fun b o hb e=>(sb'.2 b hb).trans e) f1 f2 f4 f5 f6,hq D' hD⟩⟩
end
end L2
set_option Elab.async false
set_option linter.all false
set_option maxRecDepth 100000
set_option Elab.async false
set_option maxHeartbeats 4000000
namespace L2
open PySem PySem.Spec PyProof.Rows
section
variable {X:Cx}
theorem mF:OpR X (binaryOp .Mult) (rI IntMulOk fun i j=>.int (i * j)):=opI fun _ _ _ _ _ _ _ hc q=>mul_int q hc
def CDivB (_ j:Int):Prop:=0 <j∧j.natAbs.log2 <9000
theorem Bt:OpR X (binaryOp .FloorDiv) (rI CDivB fun i j=>.int (i / j)):=opI fun i j _ _ _ _ _ hc q=>by
 have h1:(0:Int) <j:=hc.1
 exact floordiv_int (by omega) (by rw [Int.fdiv_eq_ediv_of_nonneg i (by omega)];exact q) (.inl (PyProof.noPylong_of_log2 hc.2))
theorem divOk {i j:Int} (h0:0 <j) (h:j.natAbs <2 ^ 9000):CDivB i j:=⟨h0,(Nat.log2_lt (by omega)).mpr h⟩
def tyN (K:PySem.W.Frag) (H:Hp) (x:V) (T:String):Prop:=match x with
 | .non=>T= "NoneType"
 | .bl _=>T= "bool"
 | .int _=>T= "int"
 | .str _=>T= "str"
 | .ref p=>(T= "list" ∧∃xs,SqL K H p xs)∨(T= "tuple" ∧∃xs,SqT K H p xs)∨(T= "dict" ∧∃kvs,H p=some (.dK kvs))
 | _=>False
def subT (a b:String):Bool:=a == b || (a == "bool" && b == "int")
def isTab:List String:=["int", "bool", "str", "list", "tuple", "dict"]
def qD:List String:=["NoneType", "bool", "int", "str", "list", "tuple", "dict"]
theorem kit_meta:∀T∈isTab,PySem.W.kitMeta T=true:=by decide +kernel
theorem kit_mro:∀a∈qD,∀b∈isTab,(PySem.fastBuiltinMro a).map (·.contains (.type b))=some (subT a b):=by decide +kernel
theorem kit_one (K:PySem.W.Frag) {a b:String} (ha:a∈qD) (hb:b∈isTab):PySem.W.kitOne K (.type a) (.type b)=some (subT a b):=by
 unfold PySem.W.kitOne
 by_cases h:(Value.type a == Value.type b)=true
 ·rw [if_pos h]
  have e:a=b:=by
   have:=beq_iff_eq.mp h
   injection this
  subst e
  simp [subT]
 ·rw [if_neg h]
  show(if PySem.W.kitMeta b=true then PySem.W.subIn K (.type a) (.type b) else none)=_
  rw [if_pos (kit_meta b hb)]
  exact kit_mro a ha b hb
theorem lY:oK X (.builtin "isinstance") (fun xs H Q=>∃x Tx T b,xs=[x,.ty T]∧tyN X.K H x Tx∧T∈isTab∧subT Tx T=b∧Q (.bl b) H):=by
 intro pins s σ H xs us Q I r h
 obtain⟨x,Tx,T,b,rfl,ty,hT,rfl,q⟩:=h
 obtain⟨u,w',rfl,rx,ry⟩:=vals2 r
 cases ry
 have fin:∀{b:Bool},b=subT Tx T→∀tk,EP X pins σ Q (.bool b) { s with toks:=tk }:=fun e tk=>⟨.bl (subT Tx T),H,I.tok tk,by rw [e];rfl,q⟩
 have go:∀{P:Heap→Prop},PySem.W.KitX X.K u (.type Tx) P→P s.heap→Tx∈qD→u≠.builtin "__main__.__loader__#opaque" →wpAny (model X.prog X.w) X.A (call (.builtin "isinstance") [u,.type T]) (EP X pins σ Q) X.xe s:=fun Z p hm hx=>
  PySem.W.kia_one Z I.kIn p (kit_one X.K hm hT) hx fun tk=>fin rfl tk
 cases x with
 | non=>cases rx;cases (show Tx= "NoneType" from ty);exact go PySem.W.kitx_none trivial (by decide) (by intro e;cases e)
 | bl b=>cases rx;cases (show Tx= "bool" from ty);exact go PySem.W.kitx_bool trivial (by decide) (by intro e;cases e)
 | int i=>obtain⟨t,rfl⟩:=rx;cases (show Tx= "int" from ty);exact go PySem.W.kitx_int trivial (by decide) (by intro e;cases e)
 | str z=>obtain⟨t,rfl⟩:=rx;cases (show Tx= "str" from ty);exact go PySem.W.kitx_str trivial (by decide) (by intro e;cases e)
 | ref p=>
  cases rx
  rcases ty with ⟨rfl,ys,hq⟩ | ⟨rfl,ys,hq⟩ | ⟨rfl,kvs,hq⟩
  ·obtain⟨its,_,pl,_⟩:=I.list hq
   obtain⟨o,n,e,c,_,_⟩:=pl
   exact go PySem.W.kitx_list ⟨o,e,c⟩ (by decide) (by intro e;cases e)
  ·obtain⟨its,_,⟨o,e,c,_⟩,_⟩:=I.tuple hq
   exact go PySem.W.kitx_tuple ⟨o,e,c⟩ (by decide) (by intro e;cases e)
  ·obtain⟨_,_,_,_,o,_,_,e,ex,_⟩:=I.hok p _ hq
   exact go PySem.W.kitx_dict ⟨o,e,ex.1⟩ (by decide) (by intro e;cases e)
 | _=>exact(show False from ty).elim
def rJoin (K:PySem.W.Frag):V→List V→Hp→VK→Prop:=fun x xs H Q=>∃z p ys,x=.str z∧xs=[.ref p]∧SqL K H p (ys.map V.str)∧(ys.map (·.length)).sum+ys.length * z.length≤16777216∧Q (.str (Txt.join z ys)) H
theorem sG:∀{ys:List Str} {us:List Value},Vals (ys.map V.str) us→StrsAre us ys
 | [],us,r=>by rw [List.map_nil] at r;cases r;exact .nil
 | y:: ys,us,r=>by
  rw [List.map_cons] at r
  cases r with
  | cons r1 r2=>
   obtain⟨t,e⟩:=r1
   subst e
   exact .cons y t (sG r2)
theorem mt_join:MtR X "str.join" (rJoin X.K):=by
 intro pins s σ H x xs v us Q I rx rs h
 obtain⟨z,p,ys,rfl,rfl,hq,hz,q⟩:=h
 obtain⟨t,rfl⟩:=rx
 obtain⟨u,rfl,ru⟩:=vals1 rs
 cases ru
 obtain⟨its,rv,pl,_⟩:=I.list hq
 exact join_list (items:=its.toArray) pl.isList (by simpa using sG rv) hz fun t' k=>⟨.str (Txt.join z ys),H,I.tok k,⟨_,rfl⟩,q⟩
end
end L2
namespace L2
open PySem PySem.Spec PyProof.Rows
theorem bt_int:bootBuiltins "int" =some (.type "int"):=by decide +kernel
theorem bt_bool:bootBuiltins "bool" =some (.type "bool"):=by decide +kernel
theorem bt_str:bootBuiltins "str" =some (.type "str"):=by decide +kernel
theorem wJ:bootBuiltins "list" =some (.type "list"):=by decide +kernel
theorem rM:bootBuiltins "tuple" =some (.type "tuple"):=by decide +kernel
theorem cC:bootBuiltins "len" =some (.builtin "len"):=by decide +kernel
theorem dq:bootBuiltins "isinstance" =some (.builtin "isinstance"):=by decide +kernel
theorem bt_max:bootBuiltins "max" =some (.builtin "max"):=by decide +kernel
theorem bt_all:bootBuiltins "all" =some (.builtin "all"):=by decide +kernel
section
variable {X:Cx} {pos:Pos}
theorem nG {x:Str} {v:V} (hg:Gl X x) (hm:∃u,X.mg x=some u∧RelV v u) (hd:(x == ("__debug__" :Str))=false:=by decide):PE X (.Name x pos) (tC v):=by
 obtain⟨u,h1,h2⟩:=hm
 exact pe_glob hg h1 h2 hd
theorem oV {x:Str} {T:String} (hg:Gl X x) (hm:X.mg x=none) (hv:bootBuiltins x=some (.type T)) (hn:x≠ "__name__" :=by decide) (hd:(x == ("__debug__" :Str))=false:=by decide):PE X (.Name x pos) (tC (.ty T)):=
 pe_bltn hg hm hv rfl hn hd
end
end L2
namespace L2
open PySem PySem.Spec PyProof.Rows
theorem qC {a b:Int} (h: -(2 ^ 64) <a∧a <2 ^ 64:=by decide):IntMulOk a b:=.of_left (intBits_le_64 h.1 h.2)
theorem mulOk_smallR {a b:Int} (h: -(2 ^ 64) <b∧b <2 ^ 64:=by decide):IntMulOk a b:=.of_right (intBits_le_64 h.1 h.2)
end L2
namespace L2
open PySem PySem.Spec PyProof.Rows
def tJoin (t:TS):TS:=fun D σ H=>∃J:St→Hp→Prop,t { D with nx:=J } σ H∧∀σ' H',J σ' H'→D.nx σ' H'
theorem fj {X:Cx} {st:Stmt} {t:TS} (h:PS X st t):PS X st (tJoin t):=by
 intro pins s σ H D I hw
 obtain⟨J,h1,h2⟩:=hw
 refine thn (h pins s σ H { D with nx:=J } I h1) fun f s1 q=>?_
 cases f with
 | next=>obtain⟨σ',H',I',q⟩:=q;exact⟨σ',H',I',h2 _ _ q⟩
 | ret v=>exact q
 | brk=>exact q
 | cont=>exact q
theorem cY {c A B:Prop} [Decidable c] (hc:¬c) (h:B):if decide c=true then A else B:=by rw [decide_eq_false hc];exact cQ h
theorem uK {c A B:Prop} [Decidable c] (hc:c) (h:A):if decide c=true then A else B:=by rw [decide_eq_true hc];exact tV h
end L2
set_option Elab.async false
set_option linter.all false
set_option maxRecDepth 100000
set_option Elab.async false
set_option maxHeartbeats 4000000
namespace L2
open PySem PySem.Spec PyProof.Rows
mutual
inductive Dt (K:PySem.W.Frag) (H:Hp):V→PyData→Prop
 | non:Dt K H .non .none
 | bl (b:Bool):Dt K H (.bl b) (.bool b)
 | int (i:Int):Dt K H (.int i) (.int i)
 | str (x:Str):Dt K H (.str x) (.str x)
 | list {p:Addr} {xs:List V} {ds:List PyData}:SqL K H p xs→Dts K H xs ds→Dt K H (.ref p) (.list ds)
 | tuple {p:Addr} {xs:List V} {ds:List PyData}:SqT K H p xs→Dts K H xs ds→Dt K H (.ref p) (.tuple ds)
inductive Dts (K:PySem.W.Frag) (H:Hp):List V→List PyData→Prop
 | nil:Dts K H [] []
 | cons {x:V} {xs:List V} {d:PyData} {ds:List PyData}:Dt K H x d→Dts K H xs ds→Dts K H (x:: xs) (d:: ds)
end
section
variable {X:Cx} {pins:List (Addr×Obj)} {σ:St} {H:Hp} {s:Shared}
mutual
theorem Dt.reads (I:Inv X pins σ H s):∀{x:V} {d:PyData},Dt X.K H x d→∀{u:Value},RelV x u→∃as,Reads s.heap u d as
 | _,_,.non,_,r=>by cases r;exact⟨_,.none⟩
 | _,_,.bl b,_,r=>by cases r;exact⟨_,.bool b⟩
 | _,_,.int i,_,r=>by obtain⟨t,rfl⟩:=r;exact⟨_,.int i t⟩
 | _,_,.str x,_,r=>by obtain⟨t,rfl⟩:=r;exact⟨_,.str x t⟩
 | _,_,.list hq hd,_,r=>by
  cases r
  obtain⟨its,rv,⟨o,n,e,c,_,d⟩,_⟩:=I.list hq
  obtain⟨as,q⟩:=Dts.reads I hd rv
  exact⟨_,.list e c d (by simpa using q)⟩
 | _,_,.tuple hq hd,_,r=>by
  cases r
  obtain⟨its,rv,⟨o,e,c,n,d⟩,_⟩:=I.tuple hq
  obtain⟨as,q⟩:=Dts.reads I hd rv
  exact⟨_,.tuple e c d (by simpa using q)⟩
theorem Dts.reads (I:Inv X pins σ H s):∀{xs:List V} {ds:List PyData},Dts X.K H xs ds→∀{us:List Value},Vals xs us→∃as,ReadsAll s.heap us ds as
 | _,_,.nil,_,r=>by cases r;exact⟨_,.nil⟩
 | _,_,.cons h t,_,r=>by
  cases r with
  | cons r1 r2=>
   obtain⟨as,q⟩:=Dt.reads I h r1
   obtain⟨bs,q'⟩:=Dts.reads I t r2
   exact⟨_,.cons q q'⟩
end
def rEqD (K:PySem.W.Frag):R2:=fun x y H Q=>∃da db,Dt K H x da∧Dt K H y db∧SeqAt.shaped da=true∧SeqAt.shaped db=true∧Q (.bl (PyData.eqv da db)) H
def rNeD (K:PySem.W.Frag):R2:=fun x y H Q=>∃da db,Dt K H x da∧Dt K H y db∧SeqAt.shaped da=true∧SeqAt.shaped db=true∧Q (.bl (!PyData.eqv da db)) H
theorem op_eqD (hu:X.A.units+64 <cLine):OpR X (compareOp .Eq) (rEqD X.K):=by
 intro pins s σ H x y v u Q I rx ry h
 obtain⟨da,db,h1,h2,s1,s2,q⟩:=h
 obtain⟨as,r1⟩:=h1.reads I rx
 obtain⟨bs,r2⟩:=h2.reads I ry
 exact eq_dataH r1 r2 s1 s2 hu (cu I q rfl)
theorem op_neD (hu:X.A.units+64 <cLine):OpR X (compareOp .NotEq) (rNeD X.K):=by
 intro pins s σ H x y v u Q I rx ry h
 obtain⟨da,db,h1,h2,s1,s2,q⟩:=h
 obtain⟨as,r1⟩:=h1.reads I rx
 obtain⟨bs,r2⟩:=h2.reads I ry
 exact ne_dataH r1 r2 s1 s2 hu (cu I q rfl)
end
def Its (x:Str):It:=⟨fun i _=>i <x.cps.size,fun i H v H'=>H'=H∧∃c,x.cps[i]?=some c∧v=.str ⟨#[c]⟩,fun i _=>x.cps.size≤i⟩
theorem turn_str {P:Program} {w:World} {K:PySem.W.Frag} {tg:Expr} (it:Addr) (x:Str) (t:Tok) {ty:String} (hty:ty= "str_ascii_iterator" ∨ty= "str_iterator"):Turn P w K tg (Its x) [it] it (fun i h=>h.IsStrIter it ty x t i) where
 mem:=by simp
 obj:=fun i h st b hb=>by
  have e:b=it:=by simpa using hb
  subst e
  obtain⟨o,e,c,d⟩:=st
  exact⟨o,e,fun v z=>by rw [d] at z;cases z⟩
 keep:=fun i h h' st k=>by
  obtain⟨o,e,r⟩:=st
  exact⟨o,k it (by simp) o e,r⟩
 item:=by
  intro X hP hw hK hc i pins s σ H E I hf st hg
  subst hP hw hK
  obtain⟨f0,f1,f2,f3,f4,f5⟩:=hf it (by simp)
  have fin:∀(v:Value) (h':Heap) (tk:Nat),SignAt x i v→h'.IsStrIter it ty x t (i+1)→(∀b o,b∉[it]→s.heap.get? b=some o→h'.get? b=some o)→
    ∃u,some v=some u∧wpAny (model X.prog X.w) X.A (letOwnedTupleGo tg (.ref it) u) (fun _ s2=>∃x' H',Inv X pins σ H' s2∧RelV x' u∧(Its x).yld i H x' H'∧s2.heap.IsStrIter it ty x t (i+1)∧∀b∈[it],H' b=none) E { s with heap:=h',toks:=tk }:=by
   intro v h' tk hv st' kk
   obtain⟨c,u,hcc,rfl⟩:=hv
   have I1:Inv X pins σ H { s with heap:=h',toks:=tk }:=I.turned (fun b o hb e=>kk b o (by simpa using hb) e) f0 f1 f3 f4 f5
   obtain⟨o,e,c',d⟩:=id st'
   refine⟨_,rfl,go_of (s:={ s with heap:=h',toks:=tk }) (n:=ty) e c' d (by rcases hty with rfl | rfl <;> decide) ⟨.str ⟨#[c]⟩,H,I1,⟨u,rfl⟩,⟨rfl,c,hcc,rfl⟩,st',fun b hb=>(hf b hb).1⟩⟩
  rcases hty with rfl | rfl
  ·exact(Walks.strAscii (prog:=X.prog) (w:=X.w) (I.ok.hd hc) it x t).item i s _ _ hg st fun v h' tk hv st' kk=>fin v h' tk hv st' kk
  ·exact(Walks.strWide (prog:=X.prog) (w:=X.w) (I.ok.hd hc) it x t).item i s _ _ hg st fun v h' tk hv st' kk=>fin v h' tk hv st' kk
 done:=by
  intro X hP hw hK hc i pins s σ H E I hf st hg
  subst hP hw hK
  obtain⟨f0,f1,f2,f3,f4,f5⟩:=hf it (by simp)
  have hx:x.cps[i]?=none:=by
   have hg':x.cps.size≤i:=hg
   simp;omega
  rcases hty with rfl | rfl
  ·exact wpAny_pyNext_ascii_end (I.ok.hd hc) st hx fun h' eb=>⟨rfl,I.turned (t':=s.toks) (fun b o hb e=>eb b o hb e) f0 f1 f3 f4 f5⟩
  ·exact wpAny_pyNext_wide_end (I.ok.hd hc) st hx fun h' eb=>⟨rfl,I.turned (t':=s.toks) (fun b o hb e=>eb b o hb e) f0 f1 f3 f4 f5⟩
 self:=fun _ _ _ _ _ st h=>by
  rcases hty with rfl | rfl
  ·exact wpAny_pyIter_striter_ascii st h
  ·exact wpAny_pyIter_striter_wide st h
section
variable {X:Cx} {tg:Expr}
def iStr (tl:TE):TI:=fun σ H R=>tl σ H fun x H1=>∃z,x=.str z∧R (Its z) H1
theorem pi_str {l:Expr} {tl:TE} (hl:PE X l tl):PI X tg l (iStr tl):=by
 intro pins s σ H R I h
 refine thn (hl pins s σ H _ I h) fun v s1 hpt=>?_
 obtain⟨x,H1,I1,r1,q1⟩:=hpt
 obtain⟨z,e,q⟩:=q1
 subst e
 obtain⟨t,rfl⟩:=r1
 cases ha:z.cps.all (· <128)
 ·refine wpAny_pyIter_wide ha ?_
  refine⟨s1.heap.objs.size,[s1.heap.objs.size],_,_,H1,rfl,I1.kept (t':=s1.toks) fun b o e=>Heap.get?_push_of_some _ e,turn_str _ z t (ty:= "str_iterator") (.inr rfl),⟨_,Heap.get?_push_size _ rfl,rfl,rfl⟩,fun b hb=>?_,q⟩
  have e:b=s1.heap.objs.size:=by simpa using hb
  subst e
  exact I1.fpOk (Nat.le_refl _) (I1.hok.fresh (Nat.le_refl _))
 ·refine wpAny_pyIter_ascii ha ?_
  refine⟨s1.heap.objs.size,[s1.heap.objs.size],_,_,H1,rfl,I1.kept (t':=s1.toks) fun b o e=>Heap.get?_push_of_some _ e,turn_str _ z t (ty:= "str_ascii_iterator") (.inl rfl),⟨_,Heap.get?_push_size _ rfl,rfl,rfl⟩,fun b hb=>?_,q⟩
  have e:b=s1.heap.objs.size:=by simpa using hb
  subst e
  exact I1.fpOk (Nat.le_refl _) (I1.hok.fresh (Nat.le_refl _))
end
theorem yes {A B:Hp→Prop} {σ:St} {H:Hp} (h:A H):tYes σ H (fun b H4=>if b=true then A H4 else B H4):=by
 show if true=true then A H else B H
 exact tV h
section
variable {js:List Nat} {tt:TT} {te:TE} {σ:St} {Qd:List V→Hp→Prop}
theorem o9 {lo:Int} {n:Nat} {H:Hp} (Pv:Nat→List V→Hp→Prop) (hn:n≤sizeLine) (h0:Pv 0 [] H) (hl:∀i ys H,Pv i ys H→ys.length≤i)
  (hs:∀i ys H,i <n→Pv i ys H→tt (some (.int (lo+i)):: eX σ js) H fun b H4=>if b=true then te (some (.int (lo+i)):: eX σ js) H4 fun y H5=>Pv (i+1) (ys ++ [y]) H5 else Pv (i+1) ys H4)
  (hd:∀ys H,Pv n ys H→Qd ys H):CompEnd js tt te σ Qd (Itr lo n) H:=by
 refine⟨fun i m ys H=>m=n - i∧i≤n∧Pv i ys H,⟨n,by simp,Nat.zero_le _,h0⟩,?_⟩
 rintro i m ys H ⟨rfl,hi,p⟩
 have hlen:=hl i ys H p
 by_cases hlt:i <n
 ·refine .inr ⟨hlt,by omega,Pv (i+1),fun ys' H' p'=>⟨n - (i+1),by omega,rfl,hlt,p'⟩,fun x H' y=>?_⟩
  obtain⟨e,y⟩:=y
  subst e y
  exact hs i ys _ hlt p
 ·have e:i=n:=by omega
  subst e
  exact .inl ⟨Nat.le_refl _,by omega,hd ys H p⟩
theorem gG {K:PySem.W.Frag} {a:Addr} {xs:List V} {H:Hp} (Pv:Nat→List V→Hp→Prop) (hn:xs.length≤sizeLine) (h0:Pv 0 [] H) (hl:∀i ys H,Pv i ys H→ys.length≤i) (hq:∀i ys H,i≤xs.length→Pv i ys H→SqL K H a xs)
  (hs:∀i x ys H,xs[i]?=some x→Pv i ys H→tt (some x:: eX σ js) H fun b H4=>if b=true then te (some x:: eX σ js) H4 fun y H5=>Pv (i+1) (ys ++ [y]) H5 else Pv (i+1) ys H4)
  (hd:∀ys H,Pv xs.length ys H→Qd ys H):CompEnd js tt te σ Qd (Itl K a) H:=by
 refine⟨fun i m ys H=>m=xs.length - i∧i≤xs.length∧Pv i ys H,⟨xs.length,by simp,Nat.zero_le _,h0⟩,?_⟩
 rintro i m ys H ⟨rfl,hi,p⟩
 have hlen:=hl i ys H p
 have q:=hq i ys H hi p
 by_cases hlt:i <xs.length
 ·refine .inr ⟨⟨xs,xs[i],q,by simp [hlt]⟩,by omega,Pv (i+1),fun ys' H' p'=>⟨xs.length - (i+1),by omega,rfl,hlt,p'⟩,fun x H' y=>?_⟩
  obtain⟨e,y⟩:=y
  subst e
  exact hs i x ys _ (y xs q) p
 ·have e:i=xs.length:=by omega
  subst e
  exact .inl ⟨⟨xs,q,Nat.le_refl _⟩,by omega,hd ys H p⟩
theorem comp_str {z:Str} {H:Hp} (Pv:Nat→List V→Hp→Prop) (hn:z.cps.size≤sizeLine) (h0:Pv 0 [] H) (hl:∀i ys H,Pv i ys H→ys.length≤i)
  (hs:∀i c ys H,z.cps[i]?=some c→Pv i ys H→tt (some (.str ⟨#[c]⟩):: eX σ js) H fun b H4=>if b=true then te (some (.str ⟨#[c]⟩):: eX σ js) H4 fun y H5=>Pv (i+1) (ys ++ [y]) H5 else Pv (i+1) ys H4)
  (hd:∀ys H,Pv z.cps.size ys H→Qd ys H):CompEnd js tt te σ Qd (Its z) H:=by
 refine⟨fun i m ys H=>m=z.cps.size - i∧i≤z.cps.size∧Pv i ys H,⟨z.cps.size,by simp,Nat.zero_le _,h0⟩,?_⟩
 rintro i m ys H ⟨rfl,hi,p⟩
 have hlen:=hl i ys H p
 by_cases hlt:i <z.cps.size
 ·refine .inr ⟨hlt,by omega,Pv (i+1),fun ys' H' p'=>⟨z.cps.size - (i+1),by omega,rfl,hlt,p'⟩,fun x H' y=>?_⟩
  obtain⟨e,c,hc,y⟩:=y
  subst e y
  exact hs i c ys _ hc p
 ·have e:i=z.cps.size:=by omega
  subst e
  exact .inl ⟨Nat.le_refl _,by omega,hd ys H p⟩
end
section
variable {X:Cx}
def rSlS:V→Option Int→Option Int→Hp→VK→Prop:=fun x lo hi H Q=>∃z,x=.str z∧z.length≤sizeLine∧Q (.str (Txt.slice z lo hi)) H
theorem sl_str:SlR X rSlS:=by
 intro pins s σ H x v vl vu lo hi sl Q I rx hs pl pu h
 obtain⟨z,rfl,hz,q⟩:=h
 obtain⟨t,rfl⟩:=rx
 refine⟨"str",_,PySem.F.slot_str_getitem.lookup,typeIs_str _ _ _,?_⟩
 have fin:∀t' k,EP X pins σ Q (.str (Txt.slice z lo hi) t') { s with toks:=k }:=fun t' k=>⟨.str _,H,I.tok k,⟨_,rfl⟩,q⟩
 cases pl with
 | none=>
  cases pu with
  | none=>exact wpAny_getItem_str_slice (l:=none) (u:=none) (st:=none) hs rfl (post_val_or_str ⟨Nat.le_trans (Txt.slice_le z _ _) hz,fin⟩)
  | int j tj=>exact wpAny_getItem_str_slice (l:=none) (u:=some (j,tj)) (st:=none) hs rfl (post_val_or_str ⟨Nat.le_trans (Txt.slice_le z _ _) hz,fin⟩)
 | int i ti=>
  cases pu with
  | none=>exact wpAny_getItem_str_slice (l:=some (i,ti)) (u:=none) (st:=none) hs rfl (post_val_or_str ⟨Nat.le_trans (Txt.slice_le z _ _) hz,fin⟩)
  | int j tj=>exact wpAny_getItem_str_slice (l:=some (i,ti)) (u:=some (j,tj)) (st:=none) hs rfl (post_val_or_str ⟨Nat.le_trans (Txt.slice_le z _ _) hz,fin⟩)
theorem Br (hc:X.calm=true):oK X (.builtin "all") (fun xs H Q=>∃(p:Addr) (bs:List Bool),xs=[.ref p]∧SqL X.K H p (bs.map V.bl)∧Q (.bl (bs.all id)) H):=by
 intro pins s σ H xs us Q I r h
 obtain⟨p,bs,rfl,hq,q⟩:=h
 obtain⟨u,rfl,rx⟩:=vals1 r
 cases rx
 obtain⟨its,rv,pl,_⟩:=I.list hq
 have hl:=pl.isList
 have hlt:p <s.heap.objs.size:=by obtain⟨_,e,_⟩:=hl;exact Heap.lt_size e
 have hb:∀i v,its[i]?=some v→∃b,bs[i]?=some b∧v=Value.bool b:=fun i v e=>by
  have hi:i <its.length:=(List.getElem?_eq_some_iff.mp e).1
  have hi':i <bs.length:=by have:=rv.length;rw [List.length_map] at this;omega
  obtain⟨u,e',r'⟩:=rv.get (i:=i) (x:=.bl bs[i]) (by rw [List.getElem?_map,List.getElem?_eq_getElem hi'];rfl)
  rw [e] at e'
  cases e'
  exact⟨bs[i],List.getElem?_eq_getElem hi',r'⟩
 refine call_all_walk (wpAny_pyIter_list hl ?_)
 refine⟨s.heap.objs.size,[s.heap.objs.size,p],[s.heap.objs.size],its.toArray.size,_,_,fun i=>(bs[i]?).getD true,rfl,Walks.list (A:=X.A.in1) (I.ok.hd hc) _ p (Nat.ne_of_lt hlt) its.toArray,
  ⟨⟨_,Heap.get?_push_size _ rfl,rfl,rfl⟩,hl.push _⟩,fun i v s' Q' E' hP hQ=>?_,fun h' tk hk=>?_⟩
 ·obtain⟨b,e,rfl⟩:=hb i v (by simpa using hP)
  simp only [e,Option.getD_some] at hQ
  exact wpAny_truthy_bool hQ
 ·have e:((List.range its.toArray.size).all fun i=>(bs[i]?).getD true)=bs.all id:=by
   have hlen:=rv.length
   rw [List.length_map] at hlen
   rw [List.size_toArray,←hlen];exact LSm.range_all bs
  rw [e]
  exact⟨.bl _,H,I.kept (LSm.kept_iter hk),rfl,q⟩
end
end L2
set_option Elab.async false
set_option linter.all false
set_option maxRecDepth 100000
set_option Elab.async false
set_option maxHeartbeats 4000000
namespace L2
open PySem PySem.StrLaws PySem.Builtin PySem.Builtin.Str
end L2
namespace L2
open PySem
theorem aH {H:L2.Hp} {p:Addr} {o:L2.HO} (hp:H p=none):L2.aW H (L2.upd H p o):=fun b o' e=>by rw [L2.aM (L2.aD e hp)];exact e
end L2
namespace L2
open PySem PySem.SeqAt
open AutoSeq1 (wpAny_loadPart')
open MeetsSeq MeetsSeq2 MeetsSeq3 SeqRoads2
section
variable {A:Around} {s:Shared}
end
open PySem.Spec PyProof.Rows
end L2
set_option Elab.async false
set_option linter.all false
set_option maxRecDepth 100000
set_option Elab.async false
set_option maxHeartbeats 4000000
namespace L2
open PySem PySem.Spec PyProof.Rows
structure MethAt (P:Program) (w:World) (K:PySem.W.Frag) (mg:Str→Option Value) (base:Heap) (CX:CXT) (k:Nat) (C:Addr) (m:Str) (sp:Sp):Prop where
 ex:∃(f:Addr) (fd:FuncData) (ps:List Str),Cls K C∧Meth K C m f∧Binds K fd ps []∧FnOk P w K mg base CX k f fd ps sp
def tMethD (P:Program) (w:World) (K:PySem.W.Frag) (mg:Str→Option Value) (base:Heap) (CX:CXT) (k:Nat) (m:Str) (E:XK) (ta:TE) (t:TA):TE:=fun σ H Q=>ta σ H fun x H1=>∃a C dx fs sp,x=.ref a∧H1 a=some (.ins C dx fs)∧fs.lookup m=none∧
 MethAt P w K mg base CX k C m sp∧t σ H1 fun vs H2=>sp (x:: vs) H2 Q E
section
variable {X:Cx} {CX:CXT} {k:Nat} {E:XK} {m:Str} {pos apos:Pos} {e o:Expr} {es:List Expr} {ta:TE} {t:TA}
theorem pe_methD0 {pl:Sem Bool} (he:PE X o ta) (hr:Room k X.A) (hx:wu CX X E)
  (ht:eval (.Call (.Attribute o m apos) [] [] pos) X.env=(do
   let ov ←eval o X.env
   standAt apos.atName
   let (f,first) ←holding [ov] (getMethod ov m pl)
   callWith pos f first (backTo pos (starEach [] X.env)) (backToKw pos (keywordEach [] X.env))):=by rfl):
  PE X (.Call (.Attribute o m apos) [] [] pos) (tMethD X.prog X.w X.K X.mg X.base CX k m E ta tNil):=by
 intro pins s σ H Q I h
 refine PySem.W.methodCall_KW (pl:=pl) (thn (he pins s σ H _ I h) fun u s1 hpt=>?_) ht
 obtain⟨x,H1,I1,rx,a,C,dx,fs,sp,ex,ea,l,⟨f,fd,ps,c,hm,hb,F⟩,q⟩:=hpt
 subst ex
 obtain rfl:u=Value.ref a:=rx
 refine xT I1 ea c hm l ?_
 exact PySem.W.callWith_K0 (first:=[.ref a]) I1.kIn hm.kp (run_fn (us:=[.ref a]) (vs:=[.ref a]) (ds:=[]) (dvs:=[]) F hr hb .nil hx I1 (.cons rfl .nil) (by rw [List.append_nil];exact q))
end
section
variable {X:Cx}
end
inductive KRows (w:World) (K:PySem.W.Frag):List DictEntry→List (Str×List Int)→Prop
 | nil:KRows w K [] []
 | cons {x:Str} {t:Tok} {ad:Addr} {ns:List Int} {es:List DictEntry} {rows:List (Str×List Int)} {h:Int} {its:Array Value} {n:Nat} {o:Obj}:
   h=hashStr w x→K.lookup ad=some o→o.cls=.type "tuple" →o.data=.seq its n→Vals (ns.map V.int) its.toList→ns.length≤1000→KRows w K es rows→KRows w K (⟨h,.str x t,.ref ad⟩:: es) ((x,ns):: rows)
def KTab (w:World) (K:PySem.W.Frag) (a:Addr) (rows:List (Str×List Int)):Prop:=
 ∃(o:Obj) (es:Array DictEntry) (ep:Nat),K.lookup a=some o∧o.cls=.type "dict" ∧o.dict=none∧o.slots= #[]∧o.data=.dict es ep∧(a == sysModules)=false∧KRows w K es.toList rows∧(rows.map (·.1)).Nodup
theorem KTab.mk' {w:World} {K:PySem.W.Frag} {a:Addr} {rows:List (Str×List Int)} {o:Obj} {es:Array DictEntry} {ep:Nat} (lk:K.lookup a=some o) (c1:o.cls=.type "dict") (c2:o.dict=none) (c3:o.slots= #[]) (c4:o.data=.dict es ep) (sm:(a == sysModules)=false)
  (rw':KRows w K es.toList rows) (nd:(rows.map (·.1)).Nodup):KTab w K a rows:=⟨o,es,ep,lk,c1,c2,c3,c4,sm,rw',nd⟩
def rowOf (rows:List (Str×List Int)) (z:Str):Option (List Int):=(rows.find? fun r=>decide (r.1=z)).map (·.2)
section
variable {P:Program} {w:World} {K:PySem.W.Frag}
theorem KRows.kvs:∀{es:List DictEntry} {rows:List (Str×List Int)},KRows w K es rows→∃kvs:List (Key×Value),Pairs (cz P w) es kvs∧kvs.map (·.1)=rows.map (fun r=>(Sum.inr r.1:Key))∧
  (∀e∈es,∃k,(cz P w).is k e.key=true∧e.hash=(cz P w).hash k)∧
  ∀z,(rowOf rows z=none→valueAt kvs (Sum.inr z)=none)∧∀ns,rowOf rows z=some ns→∃ad,valueAt kvs (Sum.inr z)=some (.ref ad)∧∀H,SqT K H ad (ns.map V.int)
 | _,_,.nil=>⟨[],.nil,rfl,fun e he=>(by cases he),fun z=>⟨fun _=>rfl,fun ns e=>by cases e⟩⟩
 | _,_,@KRows.cons _ _ x t ad ns es rows h its n o hh hl hc hdt hv hz hr=>by
  obtain⟨kvs,p,hk,ho,hf⟩:=KRows.kvs hr
  refine⟨(Sum.inr x,.ref ad):: kvs,.cons (nH P w x t) rfl p,by rw [List.map_cons,List.map_cons,hk],fun e he=>?_,fun z=>?_⟩
  ·rcases List.mem_cons.mp he with e1 | he
   ·subst e1
    exact⟨Sum.inr x,nH P w x t,hh⟩
   ·exact ho e he
  ·by_cases hx:x=z
   ·subst hx
    have e1:rowOf ((x,ns):: rows) x=some ns:=by simp [rowOf]
    have e2:valueAt ((Sum.inr x,Value.ref ad):: kvs) (Sum.inr x:Key)=some (.ref ad):=by simp [valueAt]
    rw [e1,e2]
    refine⟨fun e=>by (cases e),fun ms e=>⟨ad,rfl,fun H=>.inr ⟨_,its,n,hl,hc,hdt,?_,?_⟩⟩⟩
    ·have:=hv.length
     have hs:sizeLine=16777216:=sizeLine_eq
     simp at this
     omega
    ·cases e;exact hv
   ·have e1:rowOf ((x,ns):: rows) z=rowOf rows z:=by simp [rowOf,hx]
    have hx':¬(Sum.inr x:Key)=Sum.inr z:=fun q=>hx (Sum.inr.inj q)
    have e2:valueAt ((Sum.inr x,Value.ref ad):: kvs) (Sum.inr z:Key)=valueAt kvs (Sum.inr z):=by simp [valueAt,hx']
    rw [e1,e2]
    exact hf z
theorem KTab.map {a:Addr} {rows:List (Str×List Int)} {h:Heap} (T:KTab w K a rows) (hk:K.In h):∃f:Key→Option Value,h.MapOf (cz P w) a f∧(a == sysModules)=false∧
  ∀z,(rowOf rows z=none→f (Sum.inr z)=none)∧∀ns,rowOf rows z=some ns→∃ad,f (Sum.inr z)=some (.ref ad)∧∀H,SqT K H ad (ns.map V.int):=by
 obtain⟨o,es,ep,hl,c1,c2,c3,c4,hs,hr,nd⟩:=T
 obtain⟨kvs,p,hkk,ho,hf⟩:=hr.kvs (P:=P)
 have D:h.DictOf (cz P w) a kvs:=⟨o,es,ep,hk a _ hl,⟨c1,c2,c3⟩,c4,fun e he=>ho e (by simpa using he),p,?_⟩
 ·exact⟨_,D.mapOf,hs,hf⟩
 ·rw [hkk]
  have:rows.map (fun r=>(Sum.inr r.1:Key))=(rows.map (·.1)).map Sum.inr:=by rw [List.map_map];rfl
  rw [this]
  exact List.Pairwise.map _ (fun a b hab e=>hab (Sum.inr.inj e)) nd
end
section
variable {X:Cx} {i o:Expr} {ty td:TE} {pos:Pos}
def tInK (w:World) (K:PySem.W.Frag) (ty td:TE):TE:=fun σ H Q=>ty σ H fun y H1=>td σ H1 fun x H2=>∃a rows z,x=.ref a∧KTab w K a rows∧y=.str z∧Q (.bl (rowOf rows z).isSome) H2
theorem pc_inK (hi:PE X i ty) (ho:PE X o td):PC X .In i o (tInK X.w X.K ty td):=by
 intro pins s σ H Q I h
 refine thn (hi pins s σ H _ I h) fun iv s1 ⟨y,H1,I1,ry,q1⟩=>thn (ho pins s1 σ H1 _ I1 q1) fun u s2 hpt=>?_
 obtain⟨x,H2,I2,rx,a,rows,z,ex,T,ey,q2⟩:=hpt
 subst ex
 subst ey
 obtain rfl:u=Value.ref a:=rx
 obtain⟨t,rfl⟩:=ry
 obtain⟨f,M,hs,hf⟩:=T.map (P:=X.prog) I2.kIn
 refine wpAny_in_of (k:=(Sum.inr z:Key)) (nH X.prog X.w z t) hs M ?_
 refine⟨.bl (rowOf rows z).isSome,H2,I2.tok _,?_,q2⟩
 cases e:rowOf rows z with
 | none=>rw [(hf z).1 e];rfl
 | some ns=>obtain⟨ad,e1,_⟩:=(hf z).2 ns e;rw [e1];rfl
def rIxK (w:World) (K:PySem.W.Frag):R2:=fun x y H Q=>∃a rows z ns,x=.ref a∧KTab w K a rows∧y=.str z∧rowOf rows z=some ns∧∀ad,SqT K H ad (ns.map V.int)→Q (.ref ad) H
theorem ix_K:IxR X (rIxK X.w X.K):=by
 intro value slice pins s σ H x y v u Q I rx ry h hs
 obtain⟨a,rows,z,ns,rfl,T,rfl,e,q⟩:=h
 cases rx
 obtain⟨t,rfl⟩:=ry
 obtain⟨f,M,hsm,hf⟩:=T.map (P:=X.prog) I.kIn
 obtain⟨ad,e1,e2⟩:=(hf z).2 ns e
 exact tail_any M.typeIs PySem.F.slot_dict_getitem.lookup (wpAny_getItem_of (k:=(Sum.inr z:Key)) (nH X.prog X.w z t) M e1 ⟨.ref ad,H,I.tok _,rfl,q ad (e2 H)⟩) hs
theorem pe_getK (ho:PE X o td) (hi:PE X i ty) (hs:PlainIx i):PE X (.Subscript o i pos) (tOp (rIxK X.w X.K) td ty):=aQ ix_K ho hi hs
end
def SqA (K:PySem.W.Frag) (H:Hp) (a:Addr) (xs:List V):Prop:=SqL K H a xs∨SqT K H a xs
theorem aW.seqT {K:PySem.W.Frag} {H H':Hp} {a:Addr} {xs:List V} (e:aW H H') (h:SqT K H a xs):SqT K H' a xs:=by
 rcases h with (h | ⟨o,h⟩) | h
 ·exact .inl (.inl (e _ _ h))
 ·exact .inl (.inr ⟨o,e _ _ h⟩)
 ·exact .inr h
theorem aW.seqA {K:PySem.W.Frag} {H H':Hp} {a:Addr} {xs:List V} (e:aW H H') (h:SqA K H a xs):SqA K H' a xs:=h.elim (fun h=>.inl (e.seq h)) fun h=>.inr (e.seqT h)
def But (p:Addr) (H H':Hp):Prop:=∀b o,b≠p→H b=some o→H' b=some o
theorem But.refl {p:Addr} (H:Hp):But p H H:=fun _ _ _ e=>e
theorem But.trans {p:Addr} {H H1 H2:Hp} (a:But p H H1) (b:But p H1 H2):But p H H2:=fun c o n e=>b c o n (a c o n e)
theorem But.of_same {p:Addr} {H H1:Hp} (a:aW H H1):But p H H1:=fun c o _ e=>a c o e
theorem But.write {p:Addr} {H:Hp} {o:HO}:But p H (upd H p o):=fun b u n e=>by rw [aM n];exact e
theorem But.seqT {K:PySem.W.Frag} {H H':Hp} {p a C dx:Addr} {fs:List (Str×V)} {xs:List V} (e:But p H H') (hp:H p=some (.ins C dx fs)) (h:SqT K H a xs):SqT K H' a xs:=by
 rcases h with (h | ⟨o,h⟩) | h
 ·exact .inl (.inl (e _ _ (gC h hp (by intro z;cases z)) h))
 ·exact .inl (.inr ⟨o,e _ _ (gC h hp (by intro z;cases z)) h⟩)
 ·exact .inr h
theorem But.seqL {K:PySem.W.Frag} {H H':Hp} {p a C dx:Addr} {fs:List (Str×V)} {xs:List V} (e:But p H H') (hp:H p=some (.ins C dx fs)) (h:SqL K H a xs):SqL K H' a xs:=by
 rcases h with (h | ⟨o,h⟩) | h
 ·exact .inl (.inl (e _ _ (gC h hp (by intro z;cases z)) h))
 ·exact .inl (.inr ⟨o,e _ _ (gC h hp (by intro z;cases z)) h⟩)
 ·exact .inr h
theorem But.seqA {K:PySem.W.Frag} {H H':Hp} {p a C dx:Addr} {fs:List (Str×V)} {xs:List V} (e:But p H H') (hp:H p=some (.ins C dx fs)) (h:SqA K H a xs):SqA K H' a xs:=h.elim (fun h=>.inl (e.seqL hp h)) fun h=>.inr (e.seqT hp h)
theorem tup_read {K:PySem.W.Frag} {H:Hp} {a:Addr} {xs:List V} {Q:VK} (h:SqA K H a xs) (k:∀H' u,aW H H'→SqT K H' u xs→Q (.ref u) H'):
  ∃p ys,[V.ref a]=[.ref p]∧((SqL K H p ys∧∀l,H l=none→Q (.ref l) (upd H l (.tup ys)))∨(SqT K H p ys∧Q (.ref p) H)):=by
 rcases h with h | h
 ·exact⟨a,xs,rfl,.inl ⟨h,fun l hl=>k _ _ (aH hl) (SqT.of aA)⟩⟩
 ·exact⟨a,xs,rfl,.inr ⟨h,k _ _ (aW.refl _) h⟩⟩
theorem wD {X:Cx}:oK X (.type "tuple") (fun xs H Q=>∃a ys,xs=[.ref a]∧SqA X.K H a ys∧∀H' u,aW H H'→SqT X.K H' u ys→Q (.ref u) H'):=by
 intro pins s σ H xs us Q I r h
 obtain⟨a,ys,rfl,hq,q⟩:=h
 exact call_tuple_of pins s σ H _ us Q I r (tup_read hq q)
section
variable {es:List Expr} {env:Env}
theorem iB {a b c}:starEach (.Tuple a b c:: es) env=(false,eval (.Tuple a b c) env):: starEach es env:=rfl
theorem bF {a b}:starEach (.List a b:: es) env=(false,eval (.List a b) env):: starEach es env:=rfl
theorem ao {a b c}:starEach (.Constant a b c:: es) env=(false,eval (.Constant a b c) env):: starEach es env:=rfl
theorem aj {a b}:starEach (.Name a b:: es) env=(false,eval (.Name a b) env):: starEach es env:=rfl
theorem aX {a b c d}:starEach (.Call a b c d:: es) env=(false,eval (.Call a b c d) env):: starEach es env:=rfl
theorem bW {a b c d}:starEach (.BinOp a b c d:: es) env=(false,eval (.BinOp a b c d) env):: starEach es env:=rfl
theorem bI {a b c}:starEach (.Attribute a b c:: es) env=(false,eval (.Attribute a b c) env):: starEach es env:=rfl
theorem aF {a b c}:starEach (.Subscript a b c:: es) env=(false,eval (.Subscript a b c) env):: starEach es env:=rfl
theorem gP {a b c d}:starEach (.ListComp a b c d:: es) env=(false,eval (.ListComp a b c d) env):: starEach es env:=rfl
end
section
variable {X:Cx} {scope:Scope} {x:Str} {js:List Nat} {cl:List (Str×Addr)} {C:Addr} {s:Shared} {H:Hp} {ex:List Addr}
end
section
variable {X:Cx}
end
end L2
set_option Elab.async false
set_option linter.all false
set_option maxRecDepth 100000
set_option Elab.async false
set_option maxHeartbeats 4000000
namespace L2
open PySem PySem.Spec PyProof.Rows
section
variable {X:Cx}
end
end L2
set_option Elab.async false
set_option linter.all false
set_option maxRecDepth 100000
set_option Elab.async false
set_option maxHeartbeats 4000000
namespace L2
open PySem PySem.Spec PyProof.Rows
section
variable {P:Program} {w:World} {K:PySem.W.Frag} {mg:Str→Option Value} {base:Heap} {N:List Str} {qual:Str} {scope:Scope} {f:Addr} {cd:Value} {A:Around} {outer:List Env} {s:Shared} {H:Hp} {E:XK}
end
section
variable {P:Program} {w:World} {K:PySem.W.Frag} {mg:Str→Option Value} {base:Heap} {N:List Str} {qual:Str} {scope:Scope} {f:Addr} {cd:Value} {A:Around} {outer:List Env} {s:Shared} {H:Hp} {E:XK}
end
section
variable {X:Cx} {pins:List (Addr×Obj)} {σ:St} {H:Hp} {s:Shared} {E:Value→Shared→Prop}
end
section
variable {X:Cx} {pins:List (Addr×Obj)} {σ:St} {H:Hp} {s:Shared}
end
end L2
set_option Elab.async false
set_option linter.all false
set_option maxRecDepth 100000
set_option Elab.async false
set_option maxHeartbeats 4000000
namespace L2
open PySem PySem.Spec PyProof.Rows
section
variable {prog:Program} {w:World} {A:Around} {E:Value→Shared→Prop} {h:Heap} {g:Array GenState} {d:Drawn} {t:Nat} {os:OsState} {a:Addr} {o:Obj} {C:Addr}
end
section
variable {P:Program} {w:World} {K:PySem.W.Frag} {mg:Str→Option Value} {base:Heap}
end
end L2
set_option Elab.async false
set_option linter.all false
set_option maxRecDepth 100000
set_option Elab.async false
set_option maxHeartbeats 4000000
namespace L2
open PySem
section
variable {prog:Program} {w:World} {A:Around} {E:Value→Shared→Prop} {h:Heap} {g:Array GenState} {d:Drawn} {t:Nat} {os:OsState}
variable {nm q:Str} {C N:Addr} {bs bm bmB:List Value} {hdct:Bool} {sn:List Str} {sub:List Value} {ab:Bool} {col:Option Bool} {dd:Option Addr} {k0 k1 k2 k3 k5:Option Value} {B newId initId:String}
end
end L2
namespace L2
open PySem
section
variable {prog:Program} {w:World} {A:Around} {E:Value→Shared→Prop} {h:Heap} {g:Array GenState} {d:Drawn} {t:Nat} {os:OsState}
variable {nm q:Str} {C N:Addr} {bs bm bmB:List Value} {hdct:Bool} {sn:List Str} {sub:List Value} {ab:Bool} {col:Option Bool} {dd:Option Addr} {k0 k1 k2 k3 k5:Option Value} {B newId initId:String}
end
end L2
namespace L2
open PySem Builtin Builtin.ObjectAttr
section
variable {prog:Program} {w:World} {A:Around} {E:Value→Shared→Prop} {h:Heap} {g:Array GenState} {d:Drawn} {t:Nat} {os:OsState} {x C:Addr} {K:PySem.W.Frag} {mA:Str→Option Value} {name:Str} {v:Value}
end
end L2
set_option Elab.async false
set_option linter.all false
set_option maxRecDepth 100000
set_option Elab.async false
set_option maxHeartbeats 4000000
namespace L2
open PySem PySem.Spec PyProof.Rows
section
variable {X:Cx} {pins:List (Addr×Obj)} {σ:St} {H:Hp} {s:Shared} {a C dx:Addr} {fs:List (Str×V)} {f:Str} {v:V} {A:Around} {E:Value→Shared→Prop}
end
section
variable {X:Cx} {e o value:Expr} {f:Str} {pos pos':Pos} {ta tv:TE}
end
end L2
namespace L2
open PySem PySem.Spec PyProof.Rows
section
variable {X:Cx} {CX:CXT} {k:Nat} {C B f:Addr} {fd:FuncData} {ps:List Str} {sp:Sp} {E:XK} {x:Str} {p pos apos:Pos} {e:Expr} {es:List Expr} {t:TA}
end
end L2
namespace L2
open PySem PySem.Spec PyProof.Rows
section
variable {X:Cx} {CX:CXT} {k:Nat} {C f:Addr} {fd:FuncData} {ps:List Str} {sp:Sp} {E:XK} {x:Str} {p pos:Pos} {e:Expr} {es:List Expr} {t:TA}
end
end L2
namespace L2
open PySem PySem.Spec PyProof.Rows
section
variable {X:Cx} {C:Addr} {x:Str} {p pos:Pos} {e:Expr} {es:List Expr} {t:TA}
end
end L2
namespace L2
open PySem
end L2
set_option Elab.async false
set_option linter.all false
set_option maxRecDepth 100000
set_option Elab.async false
set_option maxHeartbeats 4000000
namespace L2
open PySem
end L2
namespace L2
open PySem PySem.Spec PyProof.Rows
section
variable {P:Program} {w:World} {K:PySem.W.Frag} {mg:Str→Option Value} {base:Heap} {N:List Str} {qual:Str} {scope:Scope} {f:Addr} {cd:Value} {A:Around} {outer:List Env} {s:Shared} {H:Hp} {E:XK}
end
section
variable {M:Model} {A:Around} {E:Value→Shared→Prop} {s:Shared} {env:Env} {nm q:Str} {C N:Addr} {bs bm:List Value} {hdct:Bool} {sn:List Str} {sub:List Value} {ab:Bool} {col:Option Bool} {dd:Option Addr} {k0 k1 k2 k3 k5:Option Value} {newId:String}
end
section
variable {P:Program} {w:World} {K:PySem.W.Frag} {mg:Str→Option Value} {base:Heap} {N:List Str} {qual:Str} {scope:Scope} {f:Addr} {cd:Value} {A:Around} {outer:List Env} {s:Shared} {H:Hp} {E:XK}
end
end L2
namespace L2
open PySem PySem.Spec PyProof.Rows
section
variable {M:Model} {A:Around} {E:Value→Shared→Prop} {nm q:Str} {C N:Addr} {bs bm:List Value} {hdct:Bool} {sn:List Str} {sub:List Value} {ab:Bool} {col:Option Bool} {dd:Option Addr} {k0 k1 k2 k3 k5:Option Value} {newId:String}
end
section
variable {P:Program} {w:World} {K:PySem.W.Frag} {mg:Str→Option Value} {base:Heap}
end
end L2
set_option Elab.async false
set_option linter.all false
set_option maxRecDepth 100000
set_option Elab.async false
set_option maxHeartbeats 4000000
namespace L2
open PySem PySem.Spec PyProof.Rows
def iOr (a b:TI):TI:=fun σ H R=>a σ H R∨b σ H R
theorem pi_or {X:Cx} {tg it:Expr} {a b:TI} (h1:PI X tg it a) (h2:PI X tg it b):PI X tg it (iOr a b):=fun pins s σ H R I h=>h.elim (h1 pins s σ H R I) (h2 pins s σ H R I)
theorem comp_tup {js:List Nat} {tt:TT} {te:TE} {σ:St} {Qd:List V→Hp→Prop} {K:PySem.W.Frag} {a:Addr} {xs:List V} {H:Hp} (Pv:Nat→List V→Hp→Prop) (hn:xs.length≤sizeLine) (h0:Pv 0 [] H) (hl:∀i ys H,Pv i ys H→ys.length≤i) (hq:∀i ys H,i≤xs.length→Pv i ys H→SqT K H a xs)
  (hs:∀i x ys H,xs[i]?=some x→Pv i ys H→tt (some x:: eX σ js) H fun b H4=>if b=true then te (some x:: eX σ js) H4 fun y H5=>Pv (i+1) (ys ++ [y]) H5 else Pv (i+1) ys H4)
  (hd:∀ys H,Pv xs.length ys H→Qd ys H):CompEnd js tt te σ Qd (Itt K a) H:=by
 refine⟨fun i m ys H=>m=xs.length - i∧i≤xs.length∧Pv i ys H,⟨xs.length,by simp,Nat.zero_le _,h0⟩,?_⟩
 rintro i m ys H ⟨rfl,hi,p⟩
 have hlen:=hl i ys H p
 have q:=hq i ys H hi p
 by_cases hlt:i <xs.length
 ·refine .inr ⟨⟨xs,xs[i],q,by simp [hlt]⟩,by omega,Pv (i+1),fun ys' H' p'=>⟨xs.length - (i+1),by omega,rfl,hlt,p'⟩,fun x H' y=>?_⟩
  obtain⟨e,y⟩:=y
  subst e
  exact hs i x ys _ (y xs q) p
 ·have e:i=xs.length:=by omega
  subst e
  exact .inl ⟨⟨xs,q,Nat.le_refl _⟩,by omega,hd ys H p⟩
theorem comp_A {js:List Nat} {tt:TT} {te:TE} {σ σ0:St} {Qd:List V→Hp→Prop} {K:PySem.W.Frag} {a:Addr} {xs:List V} {H:Hp} {tl:TE} (ht:∀R:V→Hp→Prop,R (.ref a) H→tl σ0 H R) (ha:SqA K H a xs) (Pv:Nat→List V→Prop) (hn:xs.length≤sizeLine) (h0:Pv 0 []) (hl:∀i ys,Pv i ys→ys.length≤i)
  (hs:∀i x ys,xs[i]?=some x→Pv i ys→tt (some x:: eX σ js) H fun b H4=>if b=true then te (some x:: eX σ js) H4 fun y H5=>H5=H∧Pv (i+1) (ys ++ [y]) else H4=H∧Pv (i+1) ys)
  (hd:∀ys,Pv xs.length ys→Qd ys H):iOr (iList K tl) (iTup K tl) σ0 H (CompEnd js tt te σ Qd):=by
 rcases ha with ha | ha
 ·refine .inl (ht _ ⟨a,rfl,⟨xs,ha⟩,gG (K:=K) (a:=a) (xs:=xs) (fun i ys H'=>H'=H∧Pv i ys) hn ⟨rfl,h0⟩ (fun i ys _ z=>hl i ys z.2) (fun i ys H' _ z=>by rw [z.1];exact ha) (fun i x ys H' hx z=>?_) fun ys H' z=>?_⟩)
  ·obtain⟨rfl,z⟩:=z;exact hs i x ys hx z
  ·obtain⟨rfl,z⟩:=z;exact hd ys z
 ·refine .inr (ht _ ⟨a,rfl,⟨xs,ha⟩,comp_tup (K:=K) (a:=a) (xs:=xs) (fun i ys H'=>H'=H∧Pv i ys) hn ⟨rfl,h0⟩ (fun i ys _ z=>hl i ys z.2) (fun i ys H' _ z=>by rw [z.1];exact ha) (fun i x ys H' hx z=>?_) fun ys H' z=>?_⟩)
  ·obtain⟨rfl,z⟩:=z;exact hs i x ys hx z
  ·obtain⟨rfl,z⟩:=z;exact hd ys z
theorem SqA.len {K:PySem.W.Frag} {H:Hp} {a:Addr} {xs:List V} (h:SqA K H a xs):LenV K (.ref a) H xs.length:=h.elim (fun h=>.inl ⟨xs,h,rfl⟩) fun h=>.inr ⟨xs,h,rfl⟩
theorem kO {X:Cx} {K:PySem.W.Frag} (hK:X.K=K):IxR X (rIxT K):=by subst hK;exact bJ
end L2
set_option Elab.async false
set_option linter.all false
set_option maxRecDepth 100000
set_option Elab.async false
set_option maxHeartbeats 4000000
namespace L2
open PySem PySem.Spec PyProof.Rows
section
variable {P:Program} {w:World} {K:PySem.W.Frag} {mg:Str→Option Value} {base:Heap} {N:List Str} {qual:Str} {scope:Scope} {f:Addr} {cd:Value} {A:Around} {outer:List Env} {s:Shared} {H:Hp} {E:XK}
end
end L2
set_option Elab.async false
set_option linter.all false
set_option maxRecDepth 100000
set_option Elab.async false
set_option maxHeartbeats 4000000
namespace L2
open PySem PySem.Spec PyProof.Rows
section
variable {κ:Type} [DecidableEq κ]
def dY (kvs:List (κ×V)) (k:κ):Option V:=(kvs.find? fun kv=>decide (kv.1=k)).map (·.2)
def putK (kvs:List (κ×V)) (k:κ) (v:V):List (κ×V):=
 if (kvs.any fun kv=>decide (kv.1=k))=true then kvs.map (fun kv=>if kv.1=k then(kv.1,v) else kv) else kvs ++ [(k,v)]
theorem fV {p:κ×V} {r:List (κ×V)} {k:κ} (e:p.1=k):dY (p:: r) k=some p.2:=by simp [dY,List.find?_cons,e]
theorem fJ {p:κ×V} {r:List (κ×V)} {k:κ} (e:¬p.1=k):dY (p:: r) k=dY r k:=by simp [dY,List.find?_cons,e]
theorem rP (k:κ):∀kvs:List (κ×V),(kvs.any fun kv=>decide (kv.1=k))=(dY kvs k).isSome
 | []=>rfl
 | p:: r=>by
  rw [List.any_cons]
  by_cases e:p.1=k
  ·simp only [fV e,decide_eq_true e,Bool.true_or,Option.isSome_some]
  ·rw [fJ e,decide_eq_false e,Bool.false_or];exact rP k r
theorem valV_map (k j:κ) (y:V):∀kvs:List (κ×V),dY (kvs.map fun kv=>if kv.1=k then(kv.1,y) else kv) j=(dY kvs j).map fun x=>if j=k then y else x
 | []=>rfl
 | p:: r=>by
  have ih:=valV_map k j y r
  rw [List.map_cons]
  by_cases h:p.1=k
  ·rw [if_pos h]
   by_cases e:p.1=j
   ·rw [fV (p:=(p.1,y)) e,fV e,Option.map_some,if_pos (e.symm.trans h)]
   ·rw [fJ (p:=(p.1,y)) e,fJ e,ih]
  ·rw [if_neg h]
   by_cases e:p.1=j
   ·rw [fV (p:=p) e,fV e,Option.map_some,if_neg (fun z=>h (e.trans z))]
   ·rw [fJ (p:=p) e,fJ e,ih]
theorem valV_snoc (k j:κ) (y:V):∀kvs:List (κ×V),dY kvs k=none→dY (kvs ++ [(k,y)]) j=if j=k then some y else dY kvs j
 | [],_=>by
  by_cases e:k=j
  ·rw [if_pos e.symm];exact fV (p:=(k,y)) e
  ·rw [if_neg (fun z=>e z.symm)];exact fJ (p:=(k,y)) e
 | p:: r,hn=>by
  rw [List.cons_append]
  have hk:¬p.1=k:=fun z=>by rw [fV z] at hn;cases hn
  rw [fJ hk] at hn
  have ih:=valV_snoc k j y r hn
  by_cases e:p.1=j
  ·rw [fV e,fV e,if_neg (fun z=>hk (e.trans z))]
  ·rw [fJ e,fJ e,ih]
theorem valV_put (kvs:List (κ×V)) (k j:κ) (y:V):dY (putK kvs k y) j=if j=k then some y else dY kvs j:=by
 unfold putK
 by_cases a:(kvs.any fun kv=>decide (kv.1=k))=true
 ·rw [if_pos a,valV_map]
  rw [rP] at a
  by_cases e:j=k
  ·obtain⟨x,hx⟩:=Option.isSome_iff_exists.mp a
   rw [if_pos e,e,hx,Option.map_some,if_pos rfl]
  ·rw [if_neg e]
   cases dY kvs j with
   | none=>rfl
   | some x=>rw [Option.map_some,if_neg e]
 ·rw [if_neg a]
  refine valV_snoc k j y kvs ?_
  rw [rP] at a
  cases q:dY kvs k with
  | none=>rfl
  | some x=>rw [q] at a;exact(a rfl).elim
theorem m8 (kvs:List (κ×V)) (k:κ) (v:V):(putK kvs k v).length≤kvs.length+1:=by
 unfold putK
 split
 ·rw [List.length_map];omega
 ·rw [List.length_append,List.length_cons,List.length_nil];omega
theorem yO {kvs:List (κ×V)} {k:κ} (v:V) (h:dY kvs k=none):putK kvs k v=kvs ++ [(k,v)]:=by
 unfold putK
 rw [rP,h]
 exact if_neg (by decide)
theorem uJ.isSome_eq {o:Option V} {u:Option Value} (r:uJ o u):o.isSome=u.isSome:=by
 cases o with
 | none=>cases u with
  | none=>rfl
  | some _=>exact(show False from r).elim
 | some _=>cases u with
  | none=>exact(show False from r).elim
  | some _=>rfl
theorem uJ.getD {o:Option V} {u:Option Value} {d:V} {d':Value} (r:uJ o u) (rd:RelV d d'):RelV (o.getD d) (u.getD d'):=by
 cases o with
 | none=>cases u with
  | none=>exact rd
  | some _=>exact(show False from r).elim
 | some _=>cases u with
  | none=>exact(show False from r).elim
  | some _=>exact r
theorem KV.val {kvs:List (κ×V)} {vs:List (κ×Value)} (r:KV kvs vs) (k:κ):uJ (dY kvs k) (valueAt vs k):=by
 unfold KV at r
 induction r with
 | nil=>exact True.intro
 | @cons p q ps qs h t ih=>
  obtain⟨h1,h2⟩:=h
  by_cases e:p.1=k
  ·have e':q.1=k:=h1.symm.trans e
   have b:valueAt (q:: qs) k=some q.2:=by simp [valueAt,List.find?_cons,e']
   rw [fV e,b];exact h2
  ·have e':¬q.1=k:=fun z=>e (h1.trans z)
   have b:valueAt (q:: qs) k=valueAt qs k:=by simp [valueAt,List.find?_cons,e']
   rw [fJ e,b];exact ih
theorem KV.any {kvs:List (κ×V)} {vs:List (κ×Value)} (r:KV kvs vs) (k:κ):(kvs.any fun kv=>decide (kv.1=k))=vs.any fun kv=>decide (kv.1=k):=by
 unfold KV at r
 induction r with
 | nil=>rfl
 | cons h t ih=>rw [List.any_cons,List.any_cons,ih,h.1]
theorem KV.repl {kvs:List (κ×V)} {vs:List (κ×Value)} (r:KV kvs vs) (k:κ) {y:V} {u:Value} (ry:RelV y u):
  KV (kvs.map fun kv=>if kv.1=k then(kv.1,y) else kv) (vs.map fun kv=>if kv.1=k then(kv.1,u) else kv):=by
 unfold KV at r ⊢
 induction r with
 | nil=>exact .nil
 | @cons p q ps qs h t ih=>
  rw [List.map_cons,List.map_cons]
  refine .cons ?_ ih
  obtain⟨h1,h2⟩:=h
  by_cases e:p.1=k
  ·rw [if_pos e,if_pos (h1.symm.trans e)];exact⟨h1,ry⟩
  ·rw [if_neg e,if_neg (fun z=>e (h1.trans z))];exact⟨h1,h2⟩
theorem KV.put {kvs:List (κ×V)} {vs:List (κ×Value)} (r:KV kvs vs) (k:κ) {y:V} {u:Value} (ry:RelV y u):KV (putK kvs k y) (stored vs k u):=by
 unfold putK stored
 rw [r.any k]
 by_cases e:(vs.any fun kv=>decide (kv.1=k))=true
 ·rw [if_pos e,if_pos e];exact r.repl k ry
 ·rw [if_neg e,if_neg e];exact Paired.snoc r ⟨rfl,ry⟩
theorem KV.length {kvs:List (κ×V)} {vs:List (κ×Value)} (r:KV kvs vs):kvs.length=vs.length:=Paired.length r
end
theorem Bw {P:Program} {w:World} {k:Key} {u:Value} (r:RelV (kV k) u):(cz P w).is k u=true:=by
 cases k with
 | inl i=>obtain⟨t,e⟩:=(show ∃t,u=Value.int i t from r);subst e;exact mixKind_int P w i t
 | inr x=>obtain⟨t,e⟩:=(show ∃t,u=Value.str x t from r);subst e;exact nH P w x t
theorem items_are {P:Program} {w:World}:∀{ks:List Key} {us:List Value},Vals (ks.map kV) us→ItemsAre (cz P w) ks us
 | [],_,r=>by rw [List.map_nil] at r;cases r;exact .nil
 | k:: ks,_,r=>by
  rw [List.map_cons] at r
  cases r with
  | cons h t=>exact .cons (Bw h) (items_are t)
abbrev KT (H:Hp):List (List Key×V)→List (List Key×Addr×Value)→Prop:=Paired fun p q=>p.1=q.1∧H q.2.1=some (.tup (p.1.map kV))∧RelV p.2 q.2.2
theorem KT.val {H:Hp} {kvs:List (List Key×V)} {xs:List (List Key×Addr×Value)} (r:KT H kvs xs) (k:List Key):uJ (dY kvs k) ((atKey xs k).map (·.2)):=by
 induction r with
 | nil=>exact True.intro
 | @cons p q ps qs h t ih=>
  obtain⟨h1,_,h2⟩:=h
  by_cases e:p.1=k
  ·have e':q.1=k:=h1.symm.trans e
   have b:atKey (q:: qs) k=some q.2:=by simp [atKey,List.find?_cons,e']
   rw [fV e,b];exact h2
  ·have e':¬q.1=k:=fun z=>e (h1.trans z)
   have b:atKey (q:: qs) k=atKey qs k:=by simp [atKey,List.find?_cons,e']
   rw [fJ e,b];exact ih
theorem KT.repl {H:Hp} {kvs:List (List Key×V)} {xs:List (List Key×Addr×Value)} (r:KT H kvs xs) (k:List Key) {y:V} {u:Value} (ry:RelV y u):
  KT H (kvs.map fun kv=>if kv.1=k then(kv.1,y) else kv) (xs.map (putAt k u)):=by
 induction r with
 | nil=>exact .nil
 | @cons p q ps qs h t ih=>
  rw [List.map_cons,List.map_cons]
  refine .cons ?_ ih
  obtain⟨h1,h2,h3⟩:=h
  unfold putAt
  by_cases e:p.1=k
  ·rw [if_pos e,if_pos (h1.symm.trans e)];exact⟨h1,h2,ry⟩
  ·rw [if_neg e,if_neg (fun z=>e (h1.trans z))];exact⟨h1,h2,h3⟩
theorem KT.put {H:Hp} {kvs:List (List Key×V)} {xs:List (List Key×Addr×Value)} (r:KT H kvs xs) (k:List Key) {b:Addr} {y:V} {u:Value} (hb:H b=some (.tup (k.map kV))) (ry:RelV y u):
  KT H (putK kvs k y) (storedH xs k b u):=by
 have e:(kvs.any fun kv=>decide (kv.1=k))=(atKey xs k).isSome:=by
  rw [rP,(r.val k).isSome_eq,Option.isSome_map]
 unfold putK storedH
 rw [e]
 by_cases q:(atKey xs k).isSome=true
 ·rw [if_pos q,if_pos q];exact r.repl k ry
 ·rw [if_neg q,if_neg q];exact Paired.snoc r ⟨rfl,hb,ry⟩
theorem KT.keeps {H H':Hp} {kvs:List (List Key×V)} {xs:List (List Key×Addr×Value)} (r:KT H kvs xs) (ht:∀b ys,H b=some (.tup ys)→H' b=some (.tup ys)):KT H' kvs xs:=
 Paired.mapP r fun _ _ z=>⟨z.1,ht _ _ z.2.1,z.2.2⟩
section
variable {P:Program} {w:World} {H:Hp} {h:Heap} {a:Addr}
theorem rd_of {u:HO} (ok:HOk P w H h) (e:Rd H a u):fM P w H h a u:=e.ok ok
theorem ql {kvs:List (Key×V)} (ok:HOk P w H h) (e:Rd H a (.dK kvs)):kvs.length≤sizeLine∧(a == sysModules)=false∧∃vs,KV kvs vs∧h.DictOf (cz P w) a vs:=
 show fM P w H h a (.dK kvs) from rd_of ok e
theorem dk_of {kvs:List (Key×V)} (ok:HOk P w H h) (e:H a=some (.dK kvs)):kvs.length≤sizeLine∧(a == sysModules)=false∧∃vs,KV kvs vs∧h.DictOf (cz P w) a vs:=ql ok (.inl e)
theorem yW {ks:List Key} (ok:HOk P w H h) (e:H a=some (.tup (ks.map kV))):(tupleKind (cz P w)).is h ks a:=by
 obtain⟨_,its,r,o,h1,h2,n,h3⟩:=(show fM P w H h a (.tup (ks.map kV)) from ok a _ e)
 exact⟨o,its.toArray,n,h1,h2,h3,by simpa using items_are r⟩
theorem Ai {kvs:List (List Key×V)} (ok:HOk P w H h) (e:Rd H a (.dT kvs)):kvs.length≤sizeLine∧(a == sysModules)=false∧
  ∃xs,KT H kvs xs∧h.DictOfH (tupleKind (cz P w)) a xs:=by
 obtain⟨z,y,xs,r,o,es,ep,h1,h2,h3,h4,h5⟩:=(show fM P w H h a (.dT kvs) from rd_of ok e)
 refine⟨z,y,xs,r,o,es,ep,h1,h2,h3,h4,fun x hx=>?_,h5⟩
 have all:∀{l:List (List Key×V)} {m:List (List Key×Addr×Value)},KT H l m→∀x∈m,(tupleKind (cz P w)).is h x.1 x.2.1:=by
  intro l m q
  induction q with
  | nil=>intro x hx;exact nomatch hx
  | @cons p q ps qs hq t ih=>
   intro x hx
   rcases List.mem_cons.mp hx with e | hx
   ·subst e
    exact yW ok (by rw [←hq.1];exact hq.2.1)
   ·exact ih x hx
 exact all r x hx
theorem dt_of {kvs:List (List Key×V)} (ok:HOk P w H h) (e:H a=some (.dT kvs)):kvs.length≤sizeLine∧(a == sysModules)=false∧
  ∃xs,KT H kvs xs∧h.DictOfH (tupleKind (cz P w)) a xs:=Ai ok (.inl e)
end
def kh (H:Hp) (a:Addr) (y:V) (r:Option V):Prop:=
 (∃kvs k,Rd H a (.dK kvs)∧y=kV k∧r=dY kvs k)∨∃kvs k b,Rd H a (.dT kvs)∧y=.ref b∧H b=some (.tup (k.map kV))∧r=dY kvs k
def wV (H:Hp) (a:Addr) (y v:V) (H':Hp):Prop:=
 (∃kvs k,H a=some (.dK kvs)∧y=kV k∧kvs.length <sizeLine∧H'=upd H a (.dK (putK kvs k v)))∨
 ∃kvs k b,H a=some (.dT kvs)∧y=.ref b∧H b=some (.tup (k.map kV))∧kvs.length <sizeLine∧H'=upd H a (.dT (putK kvs k v))
theorem kh.k {H:Hp} {a:Addr} {kvs:List (Key×V)} {k:Key} (e:H a=some (.dK kvs)):kh H a (kV k) (dY kvs k):=.inl ⟨kvs,k,.inl e,rfl,rfl⟩
theorem wV.k {H:Hp} {a:Addr} {kvs:List (Key×V)} {k:Key} {v:V} (e:H a=some (.dK kvs)) (hl:kvs.length <sizeLine):wV H a (kV k) v (upd H a (.dK (putK kvs k v))):=.inl ⟨kvs,k,e,rfl,hl,rfl⟩
section
variable {X:Cx} {pins:List (Addr×Obj)} {σ:St} {H:Hp} {s:Shared} {a:Addr} {y v:V} {u r:Value} {o:Option V} {A:Around} {E:Value→Shared→Prop}
theorem Inv.big (I:Inv X pins σ H s):sysModules <s.heap.objs.size:=by
 have h:mainGlobals <s.heap.objs.size:=(I.mod.glob.keeps I.bk).lt
 exact Nat.lt_trans (by decide) h
theorem d_getItem {Q:Value→Shared→Prop} (hu:A.units+1 <cLine) (I:Inv X pins σ H s) (g:kh H a y (some v)) (ry:RelV y u) (h:∀w' s',Inv X pins σ H s'→RelV v w'→Q w' s'):
  wpAny (model X.prog X.w) A (getItem (.ref a) u) Q E s:=by
 rcases g with ⟨kvs,k,e,ey,l⟩ | ⟨kvs,k,b,e,ey,eb,l⟩
 ·subst ey
  obtain⟨z,hd,vs,rel,dd⟩:=ql I.hok e
  obtain⟨w',hw,rw'⟩:=uJ.some_of (v:=v) (o:=valueAt vs k) (by rw [l];exact rel.val k)
  exact wpAny_getItem_of (Bw ry) dd.mapOf hw (h w' _ (I.tok _) rw')
 ·subst ey
  cases (show u=Value.ref b from ry)
  obtain⟨z,hd,xs,rel,dd⟩:=Ai I.hok e
  obtain⟨w',hw,rw'⟩:=uJ.some_of (v:=v) (o:=(atKey xs k).map (·.2)) (by rw [l];exact rel.val k)
  obtain⟨p,hp,hp2⟩:=Option.map_eq_some_iff.mp hw
  refine wpAny_getItem_heap (tupleKind_room_in1 hu) (yW I.hok eb) dd hp ?_
  rw [hp2]
  exact h w' _ (I.tok _) rw'
theorem d_in {Q:Value→Shared→Prop} (hu:A.units+1 <cLine) (I:Inv X pins σ H s) (g:kh H a y o) (ry:RelV y u) (h:∀s',Inv X pins σ H s'→Q (.bool o.isSome) s'):
  wpAny (model X.prog X.w) A (compareOp .In u (.ref a)) Q E s:=by
 rcases g with ⟨kvs,k,e,ey,l⟩ | ⟨kvs,k,b,e,ey,eb,l⟩
 ·subst ey
  obtain⟨z,hd,vs,rel,dd⟩:=ql I.hok e
  refine wpAny_in_of (Bw ry) hd dd.mapOf ?_
  rw [←(rel.val k).isSome_eq,←l]
  exact h _ (I.tok _)
 ·subst ey
  cases (show u=Value.ref b from ry)
  obtain⟨z,hd,xs,rel,dd⟩:=Ai I.hok e
  refine wpAny_in_heap (tupleKind_room_in1 hu) (yW I.hok eb) hd dd ?_
  have q:=(rel.val k).isSome_eq
  rw [Option.isSome_map] at q
  rw [←q,←l]
  exact h _ (I.tok _)
theorem d_notIn {Q:Value→Shared→Prop} (hu:A.units+1 <cLine) (I:Inv X pins σ H s) (g:kh H a y o) (ry:RelV y u) (h:∀s',Inv X pins σ H s'→Q (.bool (!o.isSome)) s'):
  wpAny (model X.prog X.w) A (compareOp .NotIn u (.ref a)) Q E s:=by
 rcases g with ⟨kvs,k,e,ey,l⟩ | ⟨kvs,k,b,e,ey,eb,l⟩
 ·subst ey
  obtain⟨z,hd,vs,rel,dd⟩:=ql I.hok e
  refine wpAny_notIn_of (Bw ry) hd dd.mapOf ?_
  rw [←(rel.val k).isSome_eq,←l]
  exact h _ (I.tok _)
 ·subst ey
  cases (show u=Value.ref b from ry)
  obtain⟨z,hd,xs,rel,dd⟩:=Ai I.hok e
  refine wpAny_notIn_heap (tupleKind_room_in1 hu) (yW I.hok eb) hd dd ?_
  have q:=(rel.val k).isSome_eq
  rw [Option.isSome_map] at q
  rw [←q,←l]
  exact h _ (I.tok _)
theorem zY {h':Heap} {t':Nat} {ob:HO} (I:Inv X pins σ H s) (mu:Mut (H a)) (hs:Heap.SameBut a s.heap h') (he:∃q,h'.get? a=some q) (new:fM X.prog X.w (upd H a ob) h' a ob):
  Inv X pins σ (upd H a ob) { s with heap:=h',toks:=t' }:=
 I.write (x:=a) (e:=a) mu (.inl rfl) (fun b q hb z=>(hs.2 b hb).trans z) he new
theorem dk_new {P:Program} {w:World} {H':Hp} {h':Heap} {kvs:List (Key×V)} {vs:List (Key×Value)} (z:kvs.length≤sizeLine) (hd:(a == sysModules)=false) (rel:KV kvs vs) (dd:h'.DictOf (cz P w) a vs):
  fM P w H' h' a (.dK kvs):=⟨z,hd,vs,rel,dd⟩
theorem d_setItem {H':Hp} {Q:Unit→Shared→Prop} (hu:A.units+1 <cLine) (I:Inv X pins σ H s) (g:wV H a y v H') (ry:RelV y u) (rv:RelV v r) (h:∀s',Inv X pins σ H' s'→Q () s'):
  wpAny (model X.prog X.w) A (setItem (.ref a) u r) Q E s:=by
 rcases g with ⟨kvs,k,e,ey,l,eH⟩ | ⟨kvs,k,b,e,ey,eb,l,eH⟩
 ·subst ey eH
  obtain⟨z,hd,vs,rel,dd⟩:=dk_of I.hok e
  have hz:vs.length≤sizeLine:=by rw [←rel.length];exact z
  have hl:(putK kvs k v).length≤sizeLine:=by have:=m8 kvs k v;omega
  refine wpAny_setItem_pairs (hsz:=hz) (Bw ry) dd fun h' dd' hs=>h _ ?_
  have he:∃q,h'.get? a=some q:=let ⟨q,_,_,hq,_⟩:=dd';⟨q,hq⟩
  exact zY I (by rw [e];exact True.intro) hs he (dk_new hl hd (rel.put k rv) dd')
 ·subst ey eH
  cases (show u=Value.ref b from ry)
  obtain⟨z,hd,xs,rel,dd⟩:=dt_of I.hok e
  have hz:xs.length≤sizeLine:=by rw [←Paired.length rel];exact z
  have hl:(putK kvs k v).length≤sizeLine:=by have:=m8 kvs k v;omega
  refine wpAny_setItem_heap (hsz:=hz) (tupleKind_room_in1 hu) (yW I.hok eb) dd fun h' dd' hs=>h _ ?_
  obtain⟨q,es,ep,hq,h2,h3,h4,_,h5⟩:=dd'
  refine zY I (by rw [e];exact True.intro) hs ⟨q,hq⟩ ⟨hl,hd,_,(rel.put k eb rv).keeps fun c ys ec=>?_,q,es,ep,hq,h2,h3,h4,h5⟩
  rw [aM (gC ec e (fun z=>nomatch z))]
  exact ec
end
section
variable {X:Cx} {pins:List (Addr×Obj)} {σ:St} {H:Hp} {s:Shared} {a:Addr} {kvs:List (Key×V)} {k:Key} {u:Value} {A:Around} {E:Value→Shared→Prop}
end
def NoSl (i:Expr):Prop:=∀ov iv,subscripted i false ov iv=operate [ov,iv] (getItem ov iv)
theorem subD_of {prog:Program} {w:World} {A:Around} {E:Value→Shared→Prop} {s:Shared} {env:Env} {value slice:Expr} {pos:Pos} {T id:String} {Q:Value→Shared→Prop}
  (hl:typeLookup (.type T) "__getitem__" =pure (some (.builtin id))) (hs:NoSl slice)
  (h:wpAny (model prog w) A (eval value env) (fun o s₁=>wpAny (model prog w) A (eval slice env) (fun i s₂=>s₂.TypeIs o T∧wpAny (model prog w) A (getItem o i) Q E s₂) E s₁) E s):
  wpAny (model prog w) A (eval (.Subscript value slice pos) env) Q E s:=by
 refine Subscript_ (wpAny_mono h (fun o s₁ h₁=>wpAny_mono h₁ (fun i s₂ h₂=>?_) fun _ _ x=>x) fun _ _ x=>x)
 obtain⟨hT,h₂⟩:=h₂
 unfold subscriptTail
 refine wpAny_bind ?_
 rw [getitemInPython_of_ne hT.not_modules]
 refine wpAny_bind (wpAny_specialOf hT hl ?_)
 have fin:wpAny (model prog w) A (subscripted slice false o i) (fun r s₃=>wpAny (model prog w) A (letTemporaryGo value o r >>= fun _=>pure r) Q E s₃) E s₂:=by
  rw [hs o i]
  exact wpAny_operating (wpAny_mono h₂ (fun r s₃ h₃=>wpAny_bind (wpAny_letTemporaryGo (wpAny_pure h₃))) fun _ _ x=>x)
 first
  | exact wpAny_pure (wpAny_bind fin)
  | exact wpAny_bind (wpAny_pure (wpAny_bind fin))
  | exact wpAny_bind fin
theorem dict_typeIs {X:Cx} {pins:List (Addr×Obj)} {σ:St} {H:Hp} {s:Shared} {a:Addr} {y:V} {o:Option V} (I:Inv X pins σ H s) (g:kh H a y o):s.TypeIs (.ref a) "dict" :=by
 rcases g with ⟨kvs,k,e,_,_⟩ | ⟨kvs,k,b,e,_,_,_⟩
 ·obtain⟨_,_,vs,_,dd⟩:=ql I.hok e
  exact dd.typeIs
 ·obtain⟨_,_,xs,_,dd⟩:=Ai I.hok e
  exact dd.typeIs
def tDGet (td ty:TE):TE:=fun σ H Q=>td σ H fun x H1=>ty σ H1 fun y H2=>∃a v,x=.ref a∧kh H2 a y (some v)∧Q v H2
def tDIn (ty td:TE):TE:=fun σ H Q=>ty σ H fun y H1=>td σ H1 fun x H2=>∃a o,x=.ref a∧kh H2 a y o∧Q (.bl o.isSome) H2
def tDNotIn (ty td:TE):TE:=fun σ H Q=>ty σ H fun y H1=>td σ H1 fun x H2=>∃a o,x=.ref a∧kh H2 a y o∧Q (.bl (!o.isSome)) H2
def sDPut (td ty tv:TE):TS:=fun D σ H=>tv σ H fun v H1=>td σ H1 fun x H2=>ty σ H2 fun y H3=>∃a H4,x=.ref a∧wV H3 a y v H4∧D.nx σ H4
section
variable {X:Cx} {o i e value:Expr} {pos pos' tpos:Pos} {td ty tv:TE}
theorem dh (hu:X.A.units+1 <cLine) (ho:PE X o td) (hi:PE X i ty) (hs:NoSl i):PE X (.Subscript o i pos) (tDGet td ty):=by
 intro pins s σ H Q I h
 refine subD_of PySem.F.slot_dict_getitem.lookup hs (thn (ho pins s σ H _ I h) fun u s1 ⟨x,H1,I1,rx,q1⟩=>thn (hi pins s1 σ H1 _ I1 q1) fun iv s2 hpt=>?_)
 obtain⟨y,H2,I2,ry,a,v,ex,g,q2⟩:=hpt
 subst ex
 obtain rfl:u=Value.ref a:=rx
 exact⟨dict_typeIs I2 g,d_getItem hu I2 g ry fun w' s3 I3 rw'=>⟨v,H2,I3,rw',q2⟩⟩
theorem xK (hu:X.A.units+1 <cLine) (hi:PE X i ty) (ho:PE X o td):PC X .In i o (tDIn ty td):=by
 intro pins s σ H Q I h
 refine thn (hi pins s σ H _ I h) fun iv s1 ⟨y,H1,I1,ry,q1⟩=>thn (ho pins s1 σ H1 _ I1 q1) fun u s2 hpt=>?_
 obtain⟨x,H2,I2,rx,a,ov,ex,g,q2⟩:=hpt
 subst ex
 obtain rfl:u=Value.ref a:=rx
 exact d_in hu I2 g ry fun s3 I3=>⟨.bl ov.isSome,H2,I3,rfl,q2⟩
theorem wO (hu:X.A.units+1 <cLine) (hi:PE X i ty) (ho:PE X o td):PC X .NotIn i o (tDNotIn ty td):=by
 intro pins s σ H Q I h
 refine thn (hi pins s σ H _ I h) fun iv s1 ⟨y,H1,I1,ry,q1⟩=>thn (ho pins s1 σ H1 _ I1 q1) fun u s2 hpt=>?_
 obtain⟨x,H2,I2,rx,a,ov,ex,g,q2⟩:=hpt
 subst ex
 obtain rfl:u=Value.ref a:=rx
 exact d_notIn hu I2 g ry fun s3 I3=>⟨.bl (!ov.isSome),H2,I3,rfl,q2⟩
theorem kI (hu:X.A.units+1 <cLine) (ho:PE X o td) (hi:PE X i ty) (hv:PE X value tv) (hs:swapsWith value (some (.Subscript o i pos')) pos.line X.env=pure false):
  PS X (.Assign [.Subscript o i pos'] value pos) (sDPut td ty tv):=by
 intro pins s σ H D I h
 refine wpAny_Assign_Subscript (thn (hv pins s σ H _ I h) fun r s1 ⟨v,H1,I1,rv,q1⟩=>thn (ho pins s1 σ H1 _ I1 q1) fun u s2 ⟨x,H2,I2,rx,q2⟩=>thn (hi pins s2 σ H2 _ I2 q2) fun iv s3 hpt=>?_) hs
 obtain⟨y,H3,I3,ry,a,H4,ex,g,q3⟩:=hpt
 subst ex
 obtain rfl:u=Value.ref a:=rx
 exact d_setItem hu I3 g ry rv fun s4 I4=>⟨σ,H4,I4,q3⟩
end
theorem dk_empty {P:Program} {w:World} {H:Hp} (h:Heap) (hb:sysModules <h.objs.size):fM P w H (h.push { cls:=.type "dict",data:=.dict #[] }) h.objs.size (.dK []):=
 ⟨Nat.zero_le _,beq_eq_false_iff_ne.mpr (Ne.symm (Nat.ne_of_lt hb)),[],.nil,Heap.DictOf.new h⟩
def tDNewK:TE:=fun _ H Q=>∀p,H p=none→Q (.ref p) (upd H p (.dK []))
section
variable {X:Cx} {pos:Pos}
theorem nM:PE X (.Dict [] [] pos) tDNewK:=fun pins s σ H Q I h=>
 wpAny_Dict_empty ⟨.ref s.heap.objs.size,_,I.laid (a:=s.heap.objs.size) (o:=.dK []) (t':=s.toks) (fun _ _ q=>Heap.get?_push_of_some _ q) (Nat.le_refl _) (dk_empty s.heap I.big),rfl,h _ (I.hok.fresh (Nat.le_refl _))⟩
end
def tPairs:List (TE×TE)→St→Hp→(List (V×V)→Hp→Prop)→Prop
 | [],_,H,Q=>Q [] H
 | (tk,tv):: r,σ,H,Q=>tk σ H fun x H1=>tv σ H1 fun y H2=>tPairs r σ H2 fun ps H3=>Q ((x,y):: ps) H3
abbrev VV:List (V×V)→List (Value×Value)→Prop:=Paired fun p q=>RelV p.1 q.1∧RelV p.2 q.2
def PPs (X:Cx) (pos:Pos) (keys:List (Option Expr)) (values:List Expr) (trs:List (TE×TE)):Prop:=
 ∀(pins:List (Addr×Obj)) (s:Shared) (σ:St) (H:Hp) (Q:List (V×V)→Hp→Prop),Inv X pins σ H s→tPairs trs σ H Q→
  wpAny (model X.prog X.w) X.A (evalPairs (pairTrees keys values X.env pos)) (fun vs s'=>∃ps H',Inv X pins σ H' s'∧VV ps vs∧Q ps H') X.xe s
theorem pps_nil {X:Cx} {pos:Pos}:PPs X pos [] [] []:=fun pins s σ H Q I h=>pairTrees_nil_walk ⟨[],H,I,.nil,h⟩
theorem BZ {X:Cx} {pos:Pos} {k v:Expr} {ks:List (Option Expr)} {vs:List Expr} {tk tv:TE} {trs:List (TE×TE)} (hk:PE X k tk) (hv:PE X v tv) (hr:PPs X pos ks vs trs):
  PPs X pos (some k:: ks) (v:: vs) ((tk,tv):: trs):=fun pins s σ H Q I h=>
 pairTrees_cons_walk (thn (hk pins s σ H _ I h) fun u s1 ⟨x,H1,I1,rx,q1⟩=>thn (hv pins s1 σ H1 _ I1 q1) fun w2 s2 ⟨y,H2,I2,ry,q2⟩=>
  thn (hr pins s2 σ H2 _ I2 q2) fun ws s3 ⟨ps,H3,I3,rel,q3⟩=>⟨(x,y):: ps,H3,I3,.cons ⟨rx,ry⟩ rel,q3⟩)
def my (kvs more:List (Key×V)):List (Key×V):=more.foldl (fun acc kv=>putK acc kv.1 kv.2) kvs
theorem KV.merge:∀{more:List (Key×V)} {rs:List (Key×Value)} {kvs:List (Key×V)} {vs:List (Key×Value)},KV more rs→KV kvs vs→KV (my kvs more) (merged vs rs):=by
 intro more rs kvs vs r
 unfold KV at r
 induction r generalizing kvs vs with
 | nil=>intro q;exact q
 | @cons p q ps qs h t ih=>
  intro r0
  have e:KV (putK kvs p.1 p.2) (stored vs q.1 q.2):=by
   have:=r0.put p.1 h.2
   rw [←h.1];exact this
  exact ih e
theorem wX:∀(more kvs:List (Key×V)),(my kvs more).length≤kvs.length+more.length
 | [],kvs=>by show kvs.length≤kvs.length+0;omega
 | p:: r,kvs=>by
  have h1:=wX r (putK kvs p.1 p.2)
  have h2:=m8 kvs p.1 p.2
  show(my (putK kvs p.1 p.2) r).length≤_
  rw [List.length_cons];omega
theorem BK {P:Program} {w:World}:∀{kvs:List (Key×V)} {ws:List (Value×Value)},VV (kvs.map fun kv=>(kV kv.1,kv.2)) ws→∃rs,Carries (cz P w) ws rs∧KV kvs rs
 | [],_,r=>by rw [List.map_nil] at r;cases r;exact⟨[],True.intro,.nil⟩
 | p:: kvs,_,r=>by
  rw [List.map_cons] at r
  cases r with
  | @cons a b as bs h t=>
   obtain⟨rs,c,q⟩:=BK (P:=P) (w:=w) t
   obtain⟨b1,b2⟩:=b
   exact⟨(p.1,b2):: rs,⟨Bw h.1,rfl,c⟩,.cons ⟨rfl,h.2⟩ q⟩
def tDisp (trs:List (TE×TE)):TE:=fun σ H Q=>∀p,H p=none→tPairs trs σ (upd H p (.dK [])) fun ps H2=>H2 p=some (.dK [])∧∃kvs:List (Key×V),ps=kvs.map (fun kv=>(kV kv.1,kv.2))∧kvs.length≤15∧Q (.ref p) (upd H2 p (.dK (my [] kvs)))
theorem pe_disp {X:Cx} {pos:Pos} {keys:List (Option Expr)} {values:List Expr} {trs:List (TE×TE)} (h:PPs X pos keys values trs) (hall:keys.all (·.isSome)=true) (hl:keys.length=values.length) (h0:keys≠[])
  (h15:keys.length≤15):PE X (.Dict keys values pos) (tDisp trs):=by
 intro pins s σ H Q I q
 have hn:=I.hok.fresh (Nat.le_refl s.heap.objs.size)
 have I1:=I.laid (a:=s.heap.objs.size) (o:=.dK []) (h':=s.heap.push { cls:=.type "dict",data:=.dict #[] }) (t':=s.toks) (fun _ _ q=>Heap.get?_push_of_some _ q) (Nat.le_refl _) (dk_empty s.heap I.big)
 refine wpAny_Dict_walk (knd:=cz X.prog X.w) hall hl h0 h15 (thn (h pins _ σ _ _ I1 (q _ hn)) fun ws s2 hpt=>?_)
 obtain⟨ps,H2,I2,rel,e,kvs,ep,lk,q2⟩:=hpt
 subst ep
 obtain⟨rs,c,rk⟩:=BK (P:=X.prog) (w:=X.w) rel
 obtain⟨z,hd,vs0,r0,dd⟩:=dk_of I2.hok e
 cases r0
 refine⟨rs,c,dd,fun h' dd' hs=>⟨.ref s.heap.objs.size,_,?_,rfl,q2⟩⟩
 have hz:(my [] kvs).length≤sizeLine:=by
  have h1:=wX kvs []
  rw [List.length_nil] at h1
  rw [sizeLine_eq];omega
 have he:∃q,h'.get? s.heap.objs.size=some q:=let ⟨q,_,_,hq,_⟩:=dd';⟨q,hq⟩
 exact zY I2 (by rw [e];exact True.intro) hs he (dk_new hz hd (rk.merge .nil) dd')
structure M2 (X:Cx) (o:Expr) (m:Str) (apos:Pos) (e f:Expr) (cpos:Pos):Prop where
 base:attributeBase o m X.env (eval o X.env)=eval o X.env
 few:((backTo cpos (starEach [e,f] X.env)).all (fun x=>!x.1) && (backToKw cpos (keywordEach [] X.env)).all (fun x=>x.1.isSome)
  && decide (([e,f]:List Expr).length+([]:List Keyword).length+(if ([]:List Keyword).isEmpty then 0 else 1) <30))=true
 line:(apos.endLine == cpos.line)=true
 trees:backTo cpos (starEach [e,f] X.env)=[(false,eval e X.env),(false,eval f X.env)]
def IsD (H:Hp) (a:Addr):Prop:=(∃kvs,Rd H a (.dK kvs))∨∃kvs,Rd H a (.dT kvs)
theorem isD_at {X:Cx} {pins:List (Addr×Obj)} {σ:St} {H:Hp} {s:Shared} {a:Addr} (I:Inv X pins σ H s) (d:IsD H a):
  s.TypeIs (.ref a) "dict" ∧(∀b,Value.ref a=.ref b→∃ob,s.heap.get? b=some ob∧ob.dict=none)∧(a == sysModules)=false:=by
 rcases d with ⟨kvs,e⟩ | ⟨kvs,e⟩
 ·obtain⟨_,hd,vs,_,dd⟩:=ql I.hok e
  refine⟨dd.typeIs,fun b q=>?_,hd⟩
  cases q
  obtain⟨ob,_,_,h1,h2,_⟩:=dd
  exact⟨ob,h1,h2.2.1⟩
 ·obtain⟨_,hd,xs,_,dd⟩:=Ai I.hok e
  refine⟨dd.typeIs,fun b q=>?_,hd⟩
  cases q
  obtain⟨ob,_,_,h1,h2,_⟩:=dd
  exact⟨ob,h1,h2.2.1⟩
section
variable {X:Cx} {pins:List (Addr×Obj)} {σ:St} {H:Hp} {s:Shared} {a:Addr} {y d:V} {u r:Value} {o:Option V} {A:Around} {E:Value→Shared→Prop}
theorem d_get2 {Q:Value→Shared→Prop} (hu:A.units+1 <cLine) (I:Inv X pins σ H s) (g:kh H a y o) (ry:RelV y u) (rd:RelV d r) (h:∀w' s',Inv X pins σ H s'→RelV (o.getD d) w'→Q w' s'):
  wpAny (model X.prog X.w) A (call (.builtin "dict.get") [.ref a,u,r]) Q E s:=by
 rcases g with ⟨kvs,k,e,ey,l⟩ | ⟨kvs,k,b,e,ey,eb,l⟩
 ·subst ey
  obtain⟨z,hd,vs,rel,dd⟩:=ql I.hok e
  refine call_meetsIn PySem.F.slot_dict_get dd.typeIs PySem.F.entry_dict_get (PySem.F.args_dict_get_3 _ _ _) (meets_dict_get_default (cz X.prog X.w) a (Bw ry) hd r) ⟨_,dd.mapOf,h _ _ (I.tok _) ?_⟩
  rw [l]
  exact(rel.val k).getD rd
 ·subst ey
  cases (show u=Value.ref b from ry)
  obtain⟨z,hd,xs,rel,dd⟩:=Ai I.hok e
  refine call_meetsIn PySem.F.slot_dict_get dd.typeIs PySem.F.entry_dict_get (PySem.F.args_dict_get_3 _ _ _) (meetsH_dict_get_default (tupleKind (cz X.prog X.w)) a b hd r) ⟨tupleKind_room_in1 hu,k,xs,yW I.hok eb,dd,h _ _ (I.tok _) ?_⟩
  rw [l]
  exact(rel.val k).getD rd
end
def tDGet2 (td ty tx:TE):TE:=fun σ H Q=>td σ H fun x H1=>∃a,x=.ref a∧IsD H1 a∧ty σ H1 fun y H2=>tx σ H2 fun z H3=>∃o,kh H3 a y o∧Q (o.getD z) H3
section
variable {X:Cx} {o e f:Expr} {apos cpos:Pos} {td ty tx:TE}
theorem pe_dget2 (hu:X.A.units+1 <cLine) (ho:PE X o td) (he:PE X e ty) (hf:PE X f tx) (m:M2 X o "get" apos e f cpos):PE X (.Call (.Attribute o "get" apos) [e,f] [] cpos) (tDGet2 td ty tx):=by
 intro pins s σ H Q I h
 refine wpAny_Call_method m.base m.few m.line PySem.F.plainAttrs_dict PySem.F.slot_dict_get PySem.F.type_dict_get (thn (ho pins s σ H _ I h) fun u s1 hpt=>?_)
 obtain⟨x,H1,I1,rx,a,ex,d,q1⟩:=hpt
 subst ex
 obtain rfl:u=Value.ref a:=rx
 obtain⟨t1,t2,_⟩:=isD_at I1 d
 refine⟨t1,t2,?_⟩
 rw [m.trees]
 refine Calls.callWith_builtin rfl (Calls.evalArgs_plain (Calls.spliced_cons (thn (he pins s1 σ H1 _ I1 q1) fun iv s2 ⟨y,H2,I2,ry,q2⟩=>
  Calls.spliced_cons (thn (hf pins s2 σ H2 _ I2 q2) fun fv s3 ⟨z,H3,I3,rz,ov,g,q3⟩=>Calls.spliced_nil ?_))))
 exact d_get2 hu I3 g ry rz fun w' s4 I4 rw'=>⟨_,H3,I4,rw',q3⟩
end
section
variable {X:Cx} {pins:List (Addr×Obj)} {σ:St} {H:Hp} {s:Shared} {a:Addr} {kvs:List (Key×V)} {A:Around} {E:Value→Shared→Prop}
theorem d_copyOf {Q:Value→Shared→Prop} (I:Inv X pins σ H s) (e:Rd H a (.dK kvs)) (h:∀p s',H p=none→Inv X pins σ (upd H p (.dK kvs)) s'→Q (.ref p) s'):wpAny (model X.prog X.w) A (call (.type "dict") [.ref a]) Q E s:=by
 obtain⟨z,hd,vs,rel,dd⟩:=ql I.hok e
 refine kt_call_dict hd dd (by rw [←rel.length];exact z) fun h' dd' hs=>?_
 refine h _ _ (I.hok.fresh (Nat.le_refl _)) (I.laid (a:=s.heap.objs.size) (o:=.dK kvs) (t':=s.toks) (fun b q hq=>?_) (Nat.le_refl _) (dk_new z (beq_eq_false_iff_ne.mpr (Ne.symm (Nat.ne_of_lt I.big))) rel dd'))
 exact(hs.2 b (Nat.ne_of_lt (Heap.lt_size hq))).trans (Heap.get?_push_of_some _ hq)
end
section
variable {X:Cx} {pins:List (Addr×Obj)} {σ:St} {H:Hp} {s:Shared} {a:Addr} {y:V} {u:Value} {A:Around} {E:Value→Shared→Prop}
end
end L2
set_option Elab.async false
set_option linter.all false
set_option maxRecDepth 100000
set_option Elab.async false
set_option maxHeartbeats 4000000
namespace L2
open PySem PySem.Spec PyProof.Rows
section
variable {X:Cx} {pins:List (Addr×Obj)} {σ:St} {H:Hp} {s:Shared} {d:Addr} {kvs:List (Key×V)}
theorem Inv.chill (I:Inv X pins σ H s) (e:H d=some (.dK kvs)):∃o,s.heap.get? d=some o∧Inv X pins σ (upd H d (.frz o (.dK kvs))) s:=by
 obtain⟨z,hd,vs,rel,o,es,ep,ho,r⟩:=(show fM X.prog X.w H s.heap d (.dK kvs) from I.hok d _ e)
 refine⟨o,ho,?_⟩
 have:=I.write (x:=d) (e:=d) (o:=.frz o (.dK kvs)) (h':=s.heap) (t':=s.toks) (by rw [e];exact True.intro) (.inl rfl) (fun b u _ q=>q) ⟨o,ho⟩ ⟨ho,z,hd,vs,rel,o,es,ep,ho,r⟩
 exact this
theorem Inv.melt {o:Obj} (I:Inv X pins σ H s) (e:H d=some (.frz o (.dK kvs))) (h0:∀o u,X.H₀ d≠some (.frz o u)):Inv X pins σ (upd H d (.dK kvs)) s:=by
 have ne:∀b u,H b=some u→(∀o v,u≠.frz o v)→b≠d:=fun b u q n z=>by
  rw [z,e] at q
  exact n _ _ (Option.some.inj q).symm
 have no:∀b,H b=none→b≠d:=fun b q z=>by rw [z,e] at q;cases q
 refine⟨I.ok,I.os,I.bare,⟨I.base.keep,I.base.slot,fun b u q n hx=>?_,I.base.there,fun b xs q=>?_,fun b u v q=>?_,fun b ps q=>?_⟩,I.loc,I.cell,?_,fun y c q=>?_,fun p h=>?_,fun b u q=>?_,I.len⟩
 ·have z:=I.base.free b u q n hx
  rw [aM (no b z)];exact z
 ·have z:=I.base.tups b xs q
  rw [aM (ne b _ z (by intro _ _ w;cases w))];exact z
 ·have z:=I.base.frzs b u v q
  rw [aM (fun w=>by rw [w] at q;exact h0 _ _ q)];exact z
 ·obtain⟨m,z⟩:=I.base.tbls b ps q
  exact⟨m,by rw [aM (ne b _ z (by intro _ _ w;cases w))];exact z⟩
 ·rw [aM (no _ I.free)];exact I.free
 ·rw [aM (no _ (I.freeC y c q))];exact I.freeC y c q
 ·obtain⟨z1,z2,r⟩:=I.pin p h
  exact⟨z1,by rw [aM (no _ z2)];exact z2,r⟩
 ·by_cases w:b=d
  ·subst w
   rw [aA] at q
   cases q
   exact(I.hok b _ e).2
  ·rw [aM w] at q
   exact(I.hok b u q).stay (fun _ _ _ z=>z) (fun c z=>by rw [aM (ne c _ z (by intro _ _ w;cases w))];exact z) fun c xs z=>by rw [aM (ne c _ z (by intro _ _ w;cases w))];exact z
end
def Melt (H0 H H':Hp):Prop:=∃d o kvs,H d=some (.frz o (.dK kvs))∧(∀o u,H0 d≠some (.frz o u))∧H'=upd H d (.dK kvs)
section
variable {X:Cx} {H0:Hp} {st:Stmt} {sts:List Stmt} {e:Expr} {t:TS} {te:TE}
theorem ps_melt (hH:X.H₀=H0) (h:PS X st t):PS X st (fun D σ H=>∃H',Melt H0 H H'∧t D σ H'):=by
 subst hH
 intro pins s σ H D I hh
 obtain⟨H',⟨d,o,kvs,e,n,rfl⟩,q⟩:=hh
 exact h pins s σ _ D (I.melt e n) q
theorem yj (hH:X.H₀=H0) (h:PS X st t):PS X st (fun D σ H=>t { D with nx:=fun σ' H'=>∃H'',Melt H0 H' H''∧D.nx σ' H'' } σ H):=by
 subst hH
 intro pins s σ H D I hh
 refine thn (h pins s σ H _ I hh) fun f s1 q=>?_
 cases f with
 | next=>obtain⟨σ',H',I',H'',⟨d,o,kvs,e,n,rfl⟩,q⟩:=q;exact⟨σ',_,I'.melt e n,q⟩
 | ret v=>exact q
 | brk=>exact q
 | cont=>exact q
end
def Itd (d:Addr) (o:Obj) (kvs:List (Key×V)):It:=
 ⟨fun i H=>H d=some (.frz o (.dK kvs))∧i <kvs.length,fun i H x H'=>H'=H∧∃k v,kvs[i]?=some (k,v)∧x=kV k,fun i H=>H d=some (.frz o (.dK kvs))∧kvs.length≤i⟩
theorem kV_rel {P:Program} {w:World} {k:Key} {u:Value} (h:(cz P w).is k u=true):RelV (kV k) u:=by
 rcases dO (k:=k) (v:=u) h with ⟨i,t,rfl,rfl⟩ | ⟨x,t,rfl,rfl⟩
 ·exact⟨t,rfl⟩
 ·exact⟨t,rfl⟩
theorem kv_get:∀{kvs:List (Key×V)} {vs:List (Key×Value)} {i:Nat} {k:Key} {v:V},KV kvs vs→kvs[i]?=some (k,v)→∃v',vs[i]?=some (k,v')
 | _,_,0,k,v,.cons h _,e=>by
  cases (Option.some.inj e)
  exact⟨_,by rw [List.getElem?_cons_zero,show k=_ from h.1]⟩
 | _,_,i+1,k,v,.cons _ t,e=>by
  obtain⟨v',z⟩:=kv_get (i:=i) (k:=k) (v:=v) t (by simpa using e)
  exact⟨v',by simpa using z⟩
theorem turn_dict {P:Program} {w:World} {K:PySem.W.Frag} {tg:Expr} {d it:Addr} {o:Obj} {kvs:List (Key×V)} {vs:List (Key×Value)} {ep:Nat} (rel:KV kvs vs) (hD:∀h:Heap,h.get? d=some o→h.DictAt (cz P w) d vs ep):
  Turn P w K tg (Itd d o kvs) [it] it (fun i h=>h.IsKeyIter it d i vs.length ep) where
 mem:=by simp
 obj:=fun i h st b hb=>by
  have e:b=it:=by simpa using hb
  subst e
  obtain⟨o,e,c,d⟩:=st
  exact⟨o,e,fun v z=>by rw [d] at z;cases z⟩
 keep:=fun i h h' st k=>st.at fun o e=>k it (by simp) o e
 item:=by
  intro X hP hw hK hc i pins s σ H E I hf st hg
  subst hP hw hK
  obtain⟨hq,hi⟩:=hg
  obtain⟨f0,f1,f2,f3,f4,f5⟩:=hf it (by simp)
  have ho:s.heap.get? d=some o:=(I.hok d _ hq).1
  have hl:kvs.length=vs.length:=Paired.length rel
  obtain⟨k,v,ek⟩:∃k v,kvs[i]?=some (k,v):=⟨_,_,List.getElem?_eq_getElem hi⟩
  obtain⟨v',ev⟩:=kv_get rel ek
  refine wpAny_pyNext_dict_item st (hD _ ho) ev fun key h' hk st' sb=>?_
  have I1:Inv X pins σ H { s with heap:=h' }:=I.turned (t':=s.toks) (fun b o hb e=>(sb.2 b hb).trans e) f0 f1 f3 f4 f5
  obtain⟨o',e,c,dd⟩:=id st'
  exact⟨key,rfl,go_of (s:={ s with heap:=h' }) e c dd (by decide) ⟨kV k,H,I1,kV_rel hk,⟨rfl,k,v,ek,rfl⟩,st',fun b hb=>(hf b hb).1⟩⟩
 done:=by
  intro X hP hw hK hc i pins s σ H E I hf st hg
  subst hP hw hK
  obtain⟨hq,hi⟩:=hg
  obtain⟨f0,f1,f2,f3,f4,f5⟩:=hf it (by simp)
  have ho:s.heap.get? d=some o:=(I.hok d _ hq).1
  have hl:kvs.length=vs.length:=Paired.length rel
  exact wpAny_pyNext_dict_end (I.ok.hd hc) st (hD _ ho) (List.getElem?_eq_none (by omega)) fun h' eb=>⟨rfl,I.turned (t':=s.toks) (fun b o hb e=>eb b o hb e) f0 f1 f3 f4 f5⟩
 self:=fun _ _ _ _ _ st h=>wpAny_pyIter_keyiter st h
def iDict (td:TE):TI:=fun σ H R=>td σ H fun x H1=>∃d kvs,x=.ref d∧H1 d=some (.dK kvs)∧∀o,R (Itd d o kvs) (upd H1 d (.frz o (.dK kvs)))
theorem zX {X:Cx} {tg l:Expr} {td:TE} (hl:PE X l td):PI X tg l (iDict td):=by
 intro pins s σ H R I h
 refine thn (hl pins s σ H _ I h) fun v s1 hpt=>?_
 obtain⟨x,H1,I1,r1,q1⟩:=hpt
 obtain⟨d,kvs,e,ed,q⟩:=q1
 subst e
 cases r1
 obtain⟨_,hd,vs,rel,o0,es,ep,ho0,r⟩:=(show fM X.prog X.w H1 s1.heap d (.dK kvs) from I1.hok d _ ed)
 obtain⟨o,ho,I2⟩:=I1.chill ed
 obtain rfl:o0=o:=Option.some.inj (ho0.symm.trans ho)
 have hD:∀h:Heap,h.get? d=some o0→h.DictAt (cz X.prog X.w) d vs ep:=fun h z=>⟨o0,es,z,r⟩
 refine wpAny_pyIter_dict hd (hD _ ho) ?_
 refine⟨s1.heap.objs.size,[s1.heap.objs.size],_,_,_,rfl,I2.kept (t':=s1.toks) fun b o e=>Heap.get?_push_of_some _ e,turn_dict rel hD,⟨_,Heap.get?_push_size _ rfl,rfl,rfl⟩,fun b hb=>?_,q o0⟩
 have e:b=s1.heap.objs.size:=by simpa using hb
 subst e
 exact I2.fpOk (Nat.le_refl _) (I2.hok.fresh (Nat.le_refl _))
theorem yM {d:Addr} {o:Obj} {kvs:List (Key×V)} {g:TG} {tb:TS} {D:Ends} {σ:St} {H:Hp} (Pv:Nat→St→Hp→Prop) (h0:Pv 0 σ H) (hl:∀i σ H,i≤kvs.length→Pv i σ H→H d=some (.frz o (.dK kvs)))
  (hs:∀i k v σ H,kvs[i]?=some (k,v)→Pv i σ H→g (kV k) σ H fun σ2 H2=>tb { D with nx:=Pv (i+1),ct:=Pv (i+1),bk:=D.nx } σ2 H2) (hd:∀σ H,Pv kvs.length σ H→D.nx σ H):
  ∃W:Nat→Nat→St→Hp→Prop,(∃m,W 0 m σ H)∧∀i m σ H,W i m σ H→
   ((Itd d o kvs).stop i H∧D.nx σ H)∨((Itd d o kvs).go i H∧∃N:St→Hp→Prop,(∀σ' H',N σ' H'→∃m',m' <m∧W (i+1) m' σ' H')∧∀x H',(Itd d o kvs).yld i H x H'→g x σ H' fun σ2 H2=>tb { D with nx:=N,ct:=N,bk:=D.nx } σ2 H2):=by
 refine⟨fun i m σ H=>m=kvs.length - i∧i≤kvs.length∧Pv i σ H,⟨kvs.length,by simp,Nat.zero_le _,h0⟩,?_⟩
 rintro i m σ H ⟨rfl,hi,p⟩
 have q:=hl i σ H hi p
 by_cases hlt:i <kvs.length
 ·refine .inr ⟨⟨q,hlt⟩,Pv (i+1),fun σ' H' p'=>⟨kvs.length - (i+1),by omega,rfl,hlt,p'⟩,fun x H' y=>?_⟩
  obtain⟨rfl,k,v,ek,rfl⟩:=y
  exact hs i k v σ _ ek p
 ·obtain rfl:i=kvs.length:=by omega
  exact .inl ⟨⟨q,Nat.le_refl _⟩,hd σ H p⟩
end L2
set_option Elab.async false
set_option linter.all false
set_option maxRecDepth 100000
set_option Elab.async false
set_option maxHeartbeats 4000000
namespace L2
open PySem PySem.Spec PyProof.Rows
theorem vy:∀{xs:List V} {us:List Value},us.length=xs.length→(∀(j:Nat) x u,xs[j]?=some x→us[j]?=some u→RelV x u)→Vals xs us
 | [],[],_,_=>.nil
 | [],_:: _,h,_=>by simp at h
 | _:: _,[],h,_=>by simp at h
 | x:: xs,u:: us,h,r=>.cons (r 0 x u rfl rfl) (vy (by simpa using h) fun j y v h1 h2=>r (j+1) y v (by simpa using h1) (by simpa using h2))
theorem pX {X:Cx} (hc:X.calm=true):oK X (.type "list") (fun xs H Q=>∃d kvs,xs=[.ref d]∧Rd H d (.dK kvs)∧∀l,H l=none→Q (.ref l) (upd H l (.lst (kvs.map fun p=>kV p.1)))):=by
 intro pins s σ H xs us Q I rx h
 obtain⟨d,kvs,rfl,hr,q⟩:=h
 obtain⟨u,rfl,ru⟩:=vals1 rx
 cases ru
 obtain⟨z,hd,vs,rel,dd⟩:=ql I.hok hr
 obtain⟨ep,da⟩:=dd.dictAt
 have hl:kvs.length=vs.length:=Paired.length rel
 refine PySem.W.kdl_call (PySem.W.kdl_dict (knd:=cz X.prog X.w) (kvs:=vs) (ep:=ep) hd) (I.ok.hd hc) da (by omega) fun h' tk acc' c' kp e' hi=>?_
 refine⟨.ref s.heap.objs.size,_,I.laid (t':=tk) kp (Nat.le_refl _) (show fM X.prog X.w _ h' _ (.lst (kvs.map fun p=>kV p.1)) from⟨by rw [List.length_map];exact z,acc'.toList,c',vy (by rw [Array.length_toList,hi.1,List.length_map,hl]) fun j x u hx hu=>?_,by simpa using e'⟩),rfl,q _ (I.hok.fresh (Nat.le_refl _))⟩
 obtain⟨k,v,hkv,hk⟩:=hi.2 j u (by rw [←Array.getElem?_toList];exact hu)
 rw [List.getElem?_map] at hx
 obtain⟨p,hp,rfl⟩:=Option.map_eq_some_iff.mp hx
 obtain⟨v',hv'⟩:=kv_get rel (k:=p.1) (v:=p.2) hp
 rw [hkv] at hv'
 cases hv'
 exact kV_rel hk
section
variable {X:Cx} {pins:List (Addr×Obj)} {σ:St} {H:Hp} {s:Shared}
end
end L2
set_option Elab.async false
set_option linter.all false
set_option maxRecDepth 100000
set_option Elab.async false
set_option maxHeartbeats 4000000
namespace L2
open PySem PySem.Spec PyProof.Rows
section
variable {X:Cx} {tg:Expr}
end
theorem ye {X:Cx}:oK X (.type "dict") (fun xs H Q=>∃d kvs,xs=[.ref d]∧Rd H d (.dK kvs)∧∀l,H l=none→Q (.ref l) (upd H l (.dK kvs))):=by
 intro pins s σ H xs us Q I rx h
 obtain⟨d,kvs,rfl,hr,q⟩:=h
 obtain⟨u,rfl,ru⟩:=vals1 rx
 cases ru
 exact d_copyOf I hr fun p s' hp I'=>⟨.ref p,_,I',rfl,q p hp⟩
theorem zO (ns:List Int):∀n,n≤ns.length→preSum (fun i=>ns.getD i 0) n=(ns.take n).sum
 | 0,_=>by simp [preSum]
 | n+1,h=>by
  have ih:=zO ns n (by omega)
  have hn:n <ns.length:=by omega
  show preSum _ n+ns.getD n 0=_
  rw [ih,List.getD_eq_getElem?_getD,List.getElem?_eq_getElem hn,List.take_succ,List.getElem?_eq_getElem hn,List.sum_append]
  simp
theorem call_sum {X:Cx} (hc:X.calm=true):oK X (.builtin "sum") (fun xs H Q=>∃(p:Addr) (ns:List Int),xs=[.ref p]∧SqL X.K H p (ns.map V.int)∧(∀n∈ns,0≤n∧n≤1000000)∧ns.length≤1000000∧Q (.int ns.sum) H):=by
 intro pins s σ H xs us Q I r h
 obtain⟨p,ns,rfl,hq,hb,hz,q⟩:=h
 obtain⟨u,rfl,rx⟩:=vals1 r
 cases rx
 obtain⟨its,rv,pl,_⟩:=I.list hq
 have hl:=pl.isList
 have hlen:ns.length=its.length:=by have:=rv.length;rw [List.length_map] at this;exact this
 have hlt:p <s.heap.objs.size:=by obtain⟨_,e,_⟩:=hl;exact Heap.lt_size e
 have hv:∀i v,its[i]?=some v→∃t,v=Value.int (ns.getD i 0) t:=fun i v e=>by
  have hi:i <its.length:=(List.getElem?_eq_some_iff.mp e).1
  have hi':i <ns.length:=by omega
  obtain⟨u,e',r'⟩:=rv.get (i:=i) (x:=.int ns[i]) (by rw [List.getElem?_map,List.getElem?_eq_getElem hi'];rfl)
  rw [e] at e'
  cases e'
  obtain⟨t,rfl⟩:=r'
  exact⟨t,by rw [List.getD_eq_getElem?_getD,List.getElem?_eq_getElem hi'];rfl⟩
 have bound:∀n,n≤ns.length→0≤preSum (fun i=>ns.getD i 0) n∧preSum (fun i=>ns.getD i 0) n≤(n:Int) * 1000000:=by
  intro n
  induction n with
  | zero=>intro _;simp [preSum]
  | succ n ih=>
   intro h
   obtain⟨h1,h2⟩:=ih (by omega)
   have hn:n <ns.length:=by omega
   have e:ns.getD n 0=ns[n]:=by rw [List.getD_eq_getElem?_getD,List.getElem?_eq_getElem hn];rfl
   obtain⟨b1,b2⟩:=hb ns[n] (List.getElem_mem hn)
   show 0≤preSum _ n+ns.getD n 0∧preSum _ n+ns.getD n 0≤_
   rw [e]
   have:((n+1:Nat):Int) * 1000000=(n:Int) * 1000000+1000000:=by rw [Int.natCast_add,Int.add_mul];rfl
   omega
 refine call_sum_walk (wpAny_pyIter_list hl ?_)
 refine⟨s.heap.objs.size,[s.heap.objs.size,p],[s.heap.objs.size],its.toArray.size,_,_,fun i=>ns.getD i 0,rfl,Walks.list (A:=X.A.in1) (I.ok.hd hc) _ p (Nat.ne_of_lt hlt) its.toArray,
  ⟨⟨_,Heap.get?_push_size _ rfl,rfl,rfl⟩,hl.push _⟩,fun b hb=>?_,fun i v hP=>hv i v (by simpa using hP),fun j hj=>?_,fun h' tk t' hk=>?_⟩
 ·rw [Heap.size_push]
  rcases List.mem_cons.mp hb with rfl | hb
  ·exact Nat.lt_succ_self _
  ·have:b=p:=by simpa using hb
   subst this
   exact Nat.lt_succ_of_lt hlt
 ·have hj':j <ns.length:=by rw [List.size_toArray] at hj;omega
  have e:ns.getD j 0=ns[j]:=by rw [List.getD_eq_getElem?_getD,List.getElem?_eq_getElem hj'];rfl
  obtain⟨b1,b2⟩:=hb ns[j] (List.getElem_mem hj')
  obtain⟨c1,c2⟩:=bound (j+1) (by omega)
  have c3:((j+1:Nat):Int) * 1000000≤1000000 * 1000000:=Int.mul_le_mul_of_nonneg_right (by omega) (by decide)
  refine⟨?_,?_⟩
  ·show InLong (ns.getD j 0)
   rw [e]
   unfold InLong
   omega
  ·unfold InLong
   omega
 ·rw [List.size_toArray,←hlen,zO ns _ (Nat.le_refl _),List.take_length]
  exact⟨.int _,H,I.kept (LSm.kept_iter hk),⟨_,rfl⟩,q⟩
theorem Room.u1 {k:Nat} {A:Around} (r:Room k A):A.units+1 <cLine:=by have:=r.units;omega
theorem bt_dict:bootBuiltins "dict" =some (.type "dict"):=by decide +kernel
theorem bt_sum:bootBuiltins "sum" =some (.builtin "sum"):=by decide +kernel
end L2
set_option Elab.async false
set_option linter.all false
set_option maxRecDepth 100000
set_option Elab.async false
set_option maxHeartbeats 4000000
namespace L2
open PySem PySem.Spec PyProof.Rows
section
variable {prog:Program} {w:World} {A:Around} {E:Value→Shared→Prop} {s:Shared}
def EqT (prog:Program) (w:World) (A:Around) (s:Shared) (y x:Value):Prop:=∀(E:Value→Shared→Prop) (Q:Bool→Shared→Prop),Q true s→wpAny (model prog w) A (eqBool y x) Q E s
theorem EqT.of_at {y x:Value} (h:SeqAt.EqAt A s y x true):EqT prog w A s y x:=fun E Q q=>h prog w E Q q
theorem EqT.of_cmp {a b:Addr} (ne:a≠b) (h:∀(E:Value→Shared→Prop) (Q:Value→Shared→Prop),Q (.bool true) s→wpAny (model prog w) A (compareOp .Eq (.ref a) (.ref b)) Q E s):EqT prog w A s (.ref a) (.ref b):=fun E Q q=>by
 unfold eqBool
 refine wpAny_holding (wpAny_ite_split (fun z=>absurd (by have:=eq_of_beq z;injection this) ne) fun _=>?_)
 exact wpAny_bind (h E _ (wpAny_truthy_bool q))
theorem tup_eq {l b:Addr} {xs ys:Array Value} {Q:Value→Shared→Prop} (hl:s.heap.IsTuple l xs) (hb:s.heap.IsTuple b ys) (hz:xs.size=ys.size) (hu:A.units <cLine) (he:∀j (h1:j <xs.size) (h2:j <ys.size),EqT prog w A.in1 s xs[j] ys[j])
  (hq:Q (.bool true) s):wpAny (model prog w) A (compareOp .Eq (.ref l) (.ref b)) Q E s:=by
 have t1:s.TypeIs (.ref l) "tuple" :=by obtain⟨o,e,c,_⟩:=hl;exact⟨o,e,c⟩
 have t2:s.TypeIs (.ref b) "tuple" :=by obtain⟨o,e,c,_⟩:=hb;exact⟨o,e,c⟩
 refine wpAny_richCompare_same_room (op:=.Eq) t1 t2 PySem.F.slot_tuple_eq (wpAny_call_entry PySem.F.slot_tuple_eq t1 PySem.F.entry_tuple_eq ?_ (PySem.F.args_tuple_eq_2 _ _)) hu
 obtain⟨⟨c1,d1,x1,s1⟩,e1,h1,n1,q1⟩:=id hl
 obtain⟨⟨c2,d2,x2,s2⟩,e2,h2,n2,q2⟩:=id hb
 simp only at h1 q1 h2 q2
 subst h1 q1 h2 q2
 obtain⟨hp,g,d,tk,os⟩:=s
 have f2:=AutoSeq1.sub_tuple_tuple
 have hZ:(xs.toList.zip ys.toList).length=xs.size:=by simp [hz]
 wp_walk using AutoSeq1.wpAny_loadPart' e1,AutoSeq1.wpAny_loadPart' e2,wpAny_forIn_list _ (fun rest r s'=>r.1=none∧s'=⟨hp,g,d,tk,os⟩∧∃i,rest=(xs.toList.zip ys.toList).drop i) _
 case turn=>
  rintro⟨y,x⟩ rest r s' ⟨hr,rfl,i,hd⟩
  have hlt:i <(xs.toList.zip ys.toList).length:=by
   rcases Nat.lt_or_ge i (xs.toList.zip ys.toList).length with z | z
   ·exact z
   ·rw [List.drop_of_length_le z] at hd;cases hd
  have k1:i <xs.size:=by omega
  have k2:i <ys.size:=by omega
  rw [List.drop_eq_getElem_cons hlt] at hd
  obtain⟨hyx,hrest⟩:=List.cons.inj hd
  have hy:y=xs[i]:=by have:=congrArg Prod.fst hyx;simpa using this
  have hx:x=ys[i]:=by have:=congrArg Prod.snd hyx;simpa using this
  subst hy hx
  refine wpAny_bind (he i k1 k2 _ _ ?_)
  wp_walk
  exact⟨rfl,rfl,i+1,hrest⟩
 case fin=>
  rintro⟨r1,r2⟩ s' ⟨hr,rfl,i,hd⟩
  simp only at hr
  subst hr
  wp_walk
  refine⟨_,rfl,?_⟩
  have e:Builtin.Tuple.tupleCompareSizes CmpOp.Eq xs.size ys.size=.bool true:=by simp [Builtin.Tuple.tupleCompareSizes,hz]
  rw [e]
  exact⟨(fun z=>nomatch z),hq⟩
 case h=>exact⟨rfl,rfl,0,rfl⟩
end
inductive Alike (K:PySem.W.Frag) (H:Hp):V→V→Prop
 | data {x y:V} {d:PyData}:Dt K H x d→Dt K H y d→SeqAt.shaped d=true→PyData.eqv d d=true→Alike K H x y
 | dict {p q:Addr} {kvs:List (Key×V)}:p≠q→Rd H p (.dK kvs)→Rd H q (.dK kvs)→(∀kv∈kvs,∃n:Int,kv.2=.int n)→Alike K H (.ref p) (.ref q)
inductive Alikes (K:PySem.W.Frag) (H:Hp):List V→List V→Prop
 | nil:Alikes K H [] []
 | cons {x y:V} {xs ys:List V}:Alike K H x y→Alikes K H xs ys→Alikes K H (x:: xs) (y:: ys)
theorem Alikes.len {K:PySem.W.Frag} {H:Hp}:∀{xs ys:List V},Alikes K H xs ys→xs.length=ys.length
 | _,_,.nil=>rfl
 | _,_,.cons _ t=>by simp [t.len]
theorem Alikes.get {K:PySem.W.Frag} {H:Hp}:∀{xs ys:List V} {j:Nat} {x y:V},Alikes K H xs ys→xs[j]?=some x→ys[j]?=some y→Alike K H x y
 | _,_,0,_,_,.cons h _,e1,e2=>by cases (Option.some.inj e1);cases (Option.some.inj e2);exact h
 | _,_,j+1,_,_,.cons _ t,e1,e2=>Alikes.get (j:=j) t (by simpa using e1) (by simpa using e2)
theorem qZ:∀{vs:List (Key×Value)} {n:Nat} {k:Key} {v:Value},(vs.map (·.1)).Nodup→vs[n]?=some (k,v)→valueAt vs k=some v
 | p:: r,0,k,v,_,e=>by
  cases (Option.some.inj e)
  simp [valueAt]
 | p:: r,n+1,k,v,nd,e=>by
  rw [List.map_cons,List.nodup_cons] at nd
  have e':r[n]?=some (k,v):=by simpa using e
  have ne:p.1≠k:=fun z=>nd.1 (by rw [z];exact List.mem_map.mpr ⟨(k,v),List.mem_of_getElem? e',rfl⟩)
  have ih:=qZ nd.2 e'
  unfold valueAt at ih ⊢
  rw [List.find?_cons,decide_eq_false ne]
  exact ih
theorem kv_get2:∀{kvs:List (Key×V)} {vs:List (Key×Value)} {i:Nat} {k:Key} {v:Value},KV kvs vs→vs[i]?=some (k,v)→∃v0,kvs[i]?=some (k,v0)∧RelV v0 v
 | _,_,0,k,v,@Paired.cons _ _ _ p _ kvs _ h _,e=>by
  cases (Option.some.inj e)
  exact⟨p.2,by rw [List.getElem?_cons_zero,show p=(k,p.2) from by rw [show k=p.1 from h.1.symm]],h.2⟩
 | _,_,i+1,k,v,.cons _ t,e=>by
  obtain⟨v0,z,r⟩:=kv_get2 (i:=i) (k:=k) (v:=v) t (by simpa using e)
  exact⟨v0,by simpa using z,r⟩
theorem kv_get3:∀{kvs:List (Key×V)} {vs:List (Key×Value)} {i:Nat} {k:Key} {v:V},KV kvs vs→kvs[i]?=some (k,v)→∃v',vs[i]?=some (k,v')∧RelV v v'
 | _,_,0,k,v,.cons h _,e=>by
  cases (Option.some.inj e)
  exact⟨_,by rw [List.getElem?_cons_zero,show k=_ from h.1],h.2⟩
 | _,_,i+1,k,v,.cons _ t,e=>by
  obtain⟨v',z,r⟩:=kv_get3 (i:=i) (k:=k) (v:=v) t (by simpa using e)
  exact⟨v',by simpa using z,r⟩
theorem hits_of {A:Around} {s:Shared} {kvs0:List (Key×V)} {va vb:List (Key×Value)} (ra:KV kvs0 va) (rb:KV kvs0 vb) (nd:(vb.map (·.1)).Nodup) (hn:∀kv∈kvs0,∃n:Int,kv.2=.int n):
  ∀(n:Nat) {ka:List (Key×Value)},ka=va.drop n→PySem.W.KeqHits A s vb ka true:=by
 intro n ka e
 induction ka generalizing n with
 | nil=>exact .nil
 | cons kv r ih=>
  obtain⟨k,v⟩:=kv
  have hv:va[n]?=some (k,v):=by
   have:=congrArg (·[0]?) e
   simpa using this.symm
  obtain⟨v0,e0,r0⟩:=kv_get2 ra hv
  obtain⟨v',e',r'⟩:=kv_get3 rb e0
  obtain⟨m,hm⟩:=hn _ (List.mem_of_getElem? e0)
  dsimp only at hm
  subst hm
  obtain⟨t1,rfl⟩:=r0
  obtain⟨t2,rfl⟩:=r'
  have hd:r=va.drop (n+1):=by
   have hlt:n <va.length:=(List.getElem?_eq_some_iff.mp hv).1
   rw [List.drop_eq_getElem_cons hlt] at e
   exact(List.cons.inj e).2
  have q:SeqAt.EqAt A s (.int m t1) (.int m t2) true:=by
   have:=PySem.W.keq_flat (A:=A) (s:=s) (PyProof.V.Flat.int m t1) (PyProof.V.Flat.int m t2)
   rwa [show PyData.eqv (.int m) (.int m)=true by simp [PyData.eqv]] at this
  exact PySem.W.KeqHits.hit (e:=true) (b:=true) (qZ nd e') q (ih _ hd)
theorem eq_alike {X:Cx} {pins:List (Addr×Obj)} {σ:St} {H:Hp} {s:Shared} (I:Inv X pins σ H s) (hu:X.A.in1.units+64 <cLine) {x y:V} (h:Alike X.K H x y) {u v:Value} (ru:RelV x u) (rv:RelV y v):EqT X.prog X.w X.A.in1 s u v:=by
 cases h with
 | data h1 h2 h3 h4=>
  obtain⟨as,q1⟩:=h1.reads I ru
  obtain⟨bs,q2⟩:=h2.reads I rv
  have:=PySem.W.keq_at (A:=X.A) q1 q2 h3 h3 hu
  rw [h4] at this
  exact .of_at this
 | dict ne h1 h2 h3=>
  cases ru
  cases rv
  obtain⟨_,a1,va,r1,d1⟩:=ql I.hok h1
  obtain⟨_,a2,vb,r2,d2⟩:=ql I.hok h2
  refine .of_cmp ne fun E Q q=>?_
  obtain⟨_,_,_,_,_,_,_,_,nd⟩:=id d2
  refine PySem.W.keq_eq a1 a2 d1 d2 (by omega) (fun _=>hits_of r1 r2 nd h3 0 (by simp)) ?_
  have e:va.length=vb.length:=(Paired.length r1).symm.trans (Paired.length r2)
  rw [e,beq_self_eq_true,Bool.true_and]
  exact q
def rEqA (K:PySem.W.Frag):R2:=fun x y H Q=>∃p q xs ys,x=.ref p∧y=.ref q∧SqT K H p xs∧SqT K H q ys∧Alikes K H xs ys∧Q (.bl true) H
theorem op_eqA {X:Cx} (hu:X.A.units+100 <cLine):OpR X (compareOp .Eq) (rEqA X.K):=by
 intro pins s σ H x y v u Q I rx ry h
 obtain⟨p,q,xs,ys,rfl,rfl,h1,h2,al,k⟩:=h
 cases rx
 cases ry
 obtain⟨i1,r1,t1,_⟩:=I.tuple h1
 obtain⟨i2,r2,t2,_⟩:=I.tuple h2
 have l1:=r1.length
 have l2:=r2.length
 refine tup_eq (show s.heap.IsTuple p i1.toArray from t1) (show s.heap.IsTuple q i2.toArray from t2) (by simp;have:=al.len;omega) (by omega) (fun j h1 h2=>?_) (cu I k rfl)
 have g1:j <xs.length:=by have:j <i1.length:=(by simpa using h1);omega
 have g2:j <ys.length:=by have:j <i2.length:=(by simpa using h2);omega
 obtain⟨u1,e1,s1⟩:=r1.get (List.getElem?_eq_getElem g1)
 obtain⟨u2,e2,s2⟩:=r2.get (List.getElem?_eq_getElem g2)
 have f1:i1.toArray[j]=u1:=by
  have:i1.toArray[j]?=some u1:=by simpa using e1
  rw [Array.getElem?_eq_getElem h1] at this
  exact Option.some.inj this
 have f2:i2.toArray[j]=u2:=by
  have:i2.toArray[j]?=some u2:=by simpa using e2
  rw [Array.getElem?_eq_getElem h2] at this
  exact Option.some.inj this
 rw [f1,f2]
 exact eq_alike I (by show X.A.units+1+64 <cLine;omega) (al.get (List.getElem?_eq_getElem g1) (List.getElem?_eq_getElem g2)) s1 s2
theorem Room.u100 {k:Nat} {A:Around} (r:Room k A):A.units+100 <cLine:=by have:=r.un;omega
end L2
set_option Elab.async false
set_option linter.all false
set_option maxRecDepth 100000
set_option Elab.async false
set_option maxHeartbeats 4000000
namespace L2
open PySem PySem.Spec PyProof.Rows
theorem Bo {X:Cx} {K:PySem.W.Frag} (hK:X.K=K):OpR X (compareOp .In) (rIn K false):=by subst hK;exact zu
section
variable {X:Cx} {P:Program} {w:World} {K:PySem.W.Frag} {mg:Str→Option Value} {base:Heap} {CX:CXT} {k:Nat} {E:XK} {m:Str} {pos apos:Pos} {e o:Expr} {es:List Expr} {ta:TE} {t:TA}
end
end L2
set_option Elab.async false
set_option linter.all false
set_option maxRecDepth 100000
set_option Elab.async false
set_option maxHeartbeats 4000000
namespace L2
open PySem PySem.Spec PyProof.Rows
section
variable {prog:Program} {w:World} {A:Around} {R:Result→Shared→Prop} {s:Shared}
end
section
variable {X:Cx} {tg:Expr} {g:TG} {pos:Pos} {iter elt:Expr} {ifs:List Expr} {scope:Scope} {wi:TI} {tt:TT} {te:TE}
end
end L2
set_option Elab.async false
set_option linter.all false
set_option maxRecDepth 100000
set_option Elab.async false
set_option maxHeartbeats 4000000
namespace L2
open PySem PySem.Spec PyProof.Rows
section
variable {X:Cx} {tg:Expr} {g:TG} {pos:Pos} {iter elt:Expr} {ifs:List Expr} {scope:Scope} {wi:TI} {tt:TT} {te:TE}
end
end L2
set_option Elab.async false
set_option linter.all false
set_option maxRecDepth 100000
set_option Elab.async false
set_option maxHeartbeats 4000000
namespace L2
open PySem PySem.Spec PyProof.Rows
section
variable {P:Program} {w:World} {K:PySem.W.Frag} {mg:Str→Option Value} {base:Heap} {its:Array Value}
end
end L2
namespace L2
open PySem PySem.Spec PyProof.Rows
end L2
namespace L2
open PySem PySem.Spec PyProof.Rows
end L2
namespace L2
open PySem PySem.Spec PyProof.Rows
section
variable {X:Cx} {e:Expr} {es:List Expr} {te:TE} {t:TA} {pos:Pos} {st:Stmt} {rest:List Stmt} {ts us:TS}
end
end L2
set_option Elab.async false
set_option linter.all false
set_option maxRecDepth 100000
set_option Elab.async false
set_option maxHeartbeats 4000000
namespace L2
open PySem PySem.Spec PyProof.Rows
end L2
set_option Elab.async false
set_option linter.all false
set_option maxRecDepth 100000
set_option Elab.async false
set_option maxHeartbeats 4000000
namespace L2
open PySem PySem.Spec PyProof.Rows
section
variable {X:Cx}
def isTx (z:Str):Value→Bool
 | .str y _=>y.cps.toList == z.cps.toList
 | _=>false
theorem isTx_strs {z:Str} {t:Tok}:∀{ys:List Str} {us:List Value},Vals (ys.map V.str) us→(∀u∈us,PySem.MeetsSeq.EqGives u (.str z t) (isTx z u))∧us.countP (isTx z)=ys.countP (fun y=>decide (y=z))∧∀(m:Nat) (u:Value),us[m]?=some u→∃y,ys[m]?=some y∧isTx z u=decide (y=z)
 | [],us,r=>by
  rw [List.map_nil] at r
  cases r
  exact⟨(fun _ h=>by cases h),rfl,fun m u h=>by simp at h⟩
 | y:: ys,us,r=>by
  rw [List.map_cons] at r
  cases r with
  | cons r1 r2=>
   obtain⟨t',e⟩:=r1
   subst e
   obtain⟨h1,h2,h3⟩:=isTx_strs (z:=z) (t:=t) r2
   have he:isTx z (.str y t')=decide (y=z):=by
    show(y.cps.toList == z.cps.toList)=decide (y=z)
    rw [Bool.eq_iff_iff,beq_iff_eq,decide_eq_true_eq]
    exact⟨fun h=>ext_toList h,fun h=>by rw [h]⟩
   refine⟨fun u hu=>?_,?_,fun m u hm=>?_⟩
   ·rcases List.mem_cons.mp hu with rfl | hu
    ·exact PySem.SeqRoads2.EqGives.str y z t' t
    ·exact h1 u hu
   ·rw [List.countP_cons,List.countP_cons,h2,he]
   ·cases m with
    | zero=>
     simp only [List.getElem?_cons_zero,Option.some.injEq] at hm
     subst hm
     exact⟨y,rfl,he⟩
    | succ m=>exact h3 m u (by simpa using hm)
def rIndexS:V→List V→Hp→VK→Prop:=fun x vs H Q=>∃(l:Addr) (xs:List Str) (z:Str) (j:Nat),x=.ref l∧vs=[.str z]∧H l=some (.lst (xs.map V.str))∧xs[j]?=some z∧(∀m y,m <j→xs[m]?=some y→y≠z)∧Q (.int (j:Nat)) H
theorem mt_indexS:MtM X "list.index" rIndexS:=by
 intro pins s σ H x vs v us Q I rx rv h
 obtain⟨l,xs,z,j,rfl,rfl,hH,hj,hno,q⟩:=h
 cases rx
 obtain⟨u,rfl,ru⟩:=rv.one
 obtain⟨t,rfl⟩:=ru
 obtain⟨hz,its,n,r,hl,e⟩:=I.lstM hH
 have hsz:sizeLine=16777216:=sizeLine_eq
 obtain⟨h1,_,h3⟩:=isTx_strs (z:=z) (t:=t) r
 have hjx:=(List.getElem?_eq_some_iff.mp hj).1
 rw [List.length_map] at hl hz
 have hji:j <its.length:=by omega
 refine call_meets F.slot_list_index ⟨_,e,rfl⟩ F.entry_list_index (F.args_list_index_2 _ _) (MeetsSeq.list_index l its.toArray n (.str z t) (isTx z) (fun y hy=>h1 y (by simpa using hy)) j (by simpa using hji) (by omega) ?_ ?_) ⟨e,?_⟩
 ·obtain⟨y,hy,e2⟩:=h3 j its[j] (List.getElem?_eq_getElem hji)
  rw [hj] at hy
  cases hy
  simpa using e2
 ·intro m hm hlt
  have hm':m <its.length:=by simpa using hm
  obtain⟨y,hy,e2⟩:=h3 m its[m] (List.getElem?_eq_getElem hm')
  have:=hno m y hlt hy
  simp only [List.getElem_toArray]
  rw [e2]
  exact decide_eq_false this
 ·exact⟨.int (j:Nat),H,I.tok _,⟨s.toks,rfl⟩,q⟩
end
end L2
namespace L2
open PySem PySem.Spec PyProof.Rows
end L2
set_option Elab.async false
set_option linter.all false
set_option maxRecDepth 100000
set_option Elab.async false
set_option maxHeartbeats 4000000
namespace L2
open PySem PySem.Spec PyProof.Rows
section
variable {X:Cx}
def rDClear:V→List V→Hp→VK→Prop:=fun x vs H Q=>∃d kvs,x=.ref d∧vs=[]∧H d=some (.dK kvs)∧Q .non (upd H d (.dK []))
theorem mt_dclear:MtR X "dict.clear" rDClear:=by
 intro pins s σ H x vs v us Q I rx rv h
 obtain⟨d,kvs,rfl,rfl,hH,q⟩:=h
 cases rx
 have hus:=rv.zero
 subst hus
 obtain⟨z,hd,ws,rel,dd⟩:=dk_of I.hok hH
 refine call_meetsIn PySem.F.slot_dict_clear dd.typeIs PySem.F.entry_dict_clear (PySem.F.args_dict_clear_1 _) (meets_dict_clear (cz X.prog X.w) d) ⟨ws,dd,by rw [←rel.length];exact z,fun h' dd' hs=>?_⟩
 have he:∃q,h'.get? d=some q:=let ⟨q,_,_,hq,_⟩:=dd';⟨q,hq⟩
 exact⟨.non,_,zY (t':=s.toks) I (by rw [hH];exact True.intro) hs he (dk_new (Nat.zero_le _) hd .nil dd'),rfl,q⟩
theorem hits_of2 {pins:List (Addr×Obj)} {σ:St} {H:Hp} {s:Shared} (I:Inv X pins σ H s) (hu:X.A.in1.units+64 <cLine) {kvs0:List (Key×V)} {va vb:List (Key×Value)} (ra:KV kvs0 va) (rb:KV kvs0 vb) (nd:(vb.map (·.1)).Nodup) (hn:∀kv∈kvs0,∃d,Dt X.K H kv.2 d∧SeqAt.shaped d=true∧PyData.eqv d d=true):
  ∀(n:Nat) {ka:List (Key×Value)},ka=va.drop n→PySem.W.KeqHits X.A.in1 s vb ka true:=by
 intro n ka e
 induction ka generalizing n with
 | nil=>exact .nil
 | cons kv r ih=>
  obtain⟨k,v⟩:=kv
  have hv:va[n]?=some (k,v):=by
   have:=congrArg (·[0]?) e
   simpa using this.symm
  obtain⟨v0,e0,r0⟩:=kv_get2 ra hv
  obtain⟨v',e',r'⟩:=kv_get3 rb e0
  obtain⟨d,hd,sh,ev⟩:=hn _ (List.mem_of_getElem? e0)
  obtain⟨as,q1⟩:=hd.reads I r0
  obtain⟨bs,q2⟩:=hd.reads I r'
  have hd:r=va.drop (n+1):=by
   have hlt:n <va.length:=(List.getElem?_eq_some_iff.mp hv).1
   rw [List.drop_eq_getElem_cons hlt] at e
   exact(List.cons.inj e).2
  have q:=PySem.W.keq_at (A:=X.A) q1 q2 sh sh hu
  rw [ev] at q
  exact PySem.W.KeqHits.hit (e:=true) (b:=true) (qZ nd e') q (ih _ hd)
def Dicts2 (K:PySem.W.Frag) (x y:V) (H:Hp):Prop:=∃p q kvs,x=.ref p∧y=.ref q∧p≠q∧Rd H p (.dK kvs)∧Rd H q (.dK kvs)∧∀kv∈kvs,∃d,Dt K H kv.2 d∧SeqAt.shaped d=true∧PyData.eqv d d=true
theorem op_eqKK (hu:X.A.units+100 <cLine):OpR X (compareOp .Eq) (fun x y H Q=>Dicts2 X.K x y H∧Q (.bl true) H):=by
 intro pins s σ H x y v u Q I rx ry h
 obtain⟨⟨p,q,kvs,rfl,rfl,ne,h1,h2,hn⟩,hq⟩:=h
 cases rx
 cases ry
 obtain⟨_,a1,va,r1,d1⟩:=ql I.hok h1
 obtain⟨_,a2,vb,r2,d2⟩:=ql I.hok h2
 obtain⟨_,_,_,_,_,_,_,_,nd⟩:=id d2
 refine PySem.W.keq_eq a1 a2 d1 d2 (by omega) (fun _=>hits_of2 I (by show X.A.units+1+64 <cLine;omega) r1 r2 nd hn 0 (by simp)) ?_
 have e:va.length=vb.length:=(Paired.length r1).symm.trans (Paired.length r2)
 rw [e,beq_self_eq_true,Bool.true_and]
 exact cu I hq rfl
end
section
variable {prog:Program} {w:World} {A:Around} {E:Value→Shared→Prop}
end
end L2
set_option Elab.async false
set_option linter.all false
set_option maxRecDepth 100000
set_option Elab.async false
set_option maxHeartbeats 4000000
namespace L2
open PySem PySem.Spec PyProof.Rows
def Itrv (K:PySem.W.Frag) (a:Addr) (xs:List V):It:=
 ⟨fun i H=>SqL K H a xs∧i <xs.length,fun i H x H'=>H'=H∧xs.reverse[i]?=some x,fun i H=>SqL K H a xs∧xs.length≤i⟩
theorem turn_rev {P:Program} {w:World} {K:PySem.W.Frag} {tg:Expr} (a it:Addr) (xs:List V):Turn P w K tg (Itrv K a xs) [it] it (fun i h=>i≤xs.length∧h.IsRevIter it a ((xs.length:Int) - 1 - (i:Int))) where
 mem:=by simp
 obj:=fun i h st b hb=>by
  have e:b=it:=by simpa using hb
  subst e
  obtain⟨_,o,e,c,d⟩:=st
  exact⟨o,e,fun v z=>by rw [d] at z;cases z⟩
 keep:=fun i h h' st k=>⟨st.1,st.2.at fun o e=>k it (by simp) o e⟩
 item:=by
  intro X hP hw hK hc i pins s σ H E I hf st hg
  subst hP hw hK
  obtain⟨hq,hi⟩:=hg
  obtain⟨its,rv,p,hz⟩:=I.list hq
  have hl:=rv.length
  obtain⟨f0,f1,f2,f3,f4,f5⟩:=hf it (by simp)
  have e1:(xs.length:Int) - 1 - (i:Int)=((xs.length - 1 - i:Nat):Int):=by omega
  have hit:=st.2
  rw [e1] at hit
  have hx:xs.reverse[i]?=some (xs[xs.length - 1 - i]'(by omega)):=by rw [List.getElem?_reverse hi];exact List.getElem?_eq_getElem _
  obtain⟨u,hu,ru⟩:=rv.get (List.getElem?_eq_getElem (show xs.length - 1 - i <xs.length by omega))
  refine wpAny_pyNext_rev_item hit p.isList (x:=u) (by simpa using hu) fun h' st' sb=>?_
  have e2:((xs.length - 1 - i:Nat):Int) - 1=(xs.length:Int) - 1 - ((i+1:Nat):Int):=by omega
  rw [e2] at st'
  have I1:Inv X pins σ H { s with heap:=h' }:=I.turned (t':=s.toks) (fun b o hb e=>(sb.2 b hb).trans e) f0 f1 f3 f4 f5
  obtain⟨o,e,c,d⟩:=id st'
  exact⟨u,rfl,go_of (s:={ s with heap:=h' }) e c d (by decide) ⟨_,H,I1,ru,⟨rfl,hx⟩,⟨hi,st'⟩,fun b hb=>(hf b hb).1⟩⟩
 done:=by
  intro X hP hw hK hc i pins s σ H E I hf st hg
  subst hP hw hK
  obtain⟨hq,hi⟩:=hg
  obtain⟨f0,f1,f2,f3,f4,f5⟩:=hf it (by simp)
  have hit:=st.2
  rw [show(xs.length:Int) - 1 - (i:Int)= -1 by have:=st.1;omega] at hit
  exact wpAny_pyNext_rev_end (I.ok.hd hc) hit fun h' eb=>⟨rfl,I.turned (t':=s.toks) (fun b o hb e=>eb b o hb e) f0 f1 f3 f4 f5⟩
 self:=fun _ _ _ _ _ st h=>wpAny_pyIter_revIter st.2 h
section
variable {X:Cx} {tg:Expr}
theorem bt_reversed:bootBuiltins "reversed" =some (.type "reversed"):=by decide +kernel
def iRev (K:PySem.W.Frag) (ta:TA):TI:=fun σ H R=>ta σ H fun vs H1=>∃a xs,vs=[.ref a]∧SqL K H1 a xs∧R (Itrv K a xs) H1
theorem pi_rev {l:Expr} {ta:TA} {p pos:Pos} (hg:Gl X "reversed") (hm:X.mg "reversed" =none) (ha:PA X [l] ta) (hs:starEach [l] X.env=[(false,eval l X.env)]:=by rfl):
  PI X tg (.Call (.Name "reversed" p) [l] [] pos) (iRev X.K ta):=by
 intro pins s σ H R I h
 refine Call_ (yX I hg hm bt_reversed (PyProof.Rows.callWith_type1 (thn (ha pos pins s σ H _ I h) fun us s1 ⟨vs,H1,I1,r1,q1⟩=>?_) hs rfl))
 obtain⟨a,xs,e,hq,q⟩:=q1
 subst e
 obtain⟨u,rfl,ru⟩:=vals1 r1
 cases ru
 obtain⟨its,rv,pl,hz⟩:=I1.list hq
 have hl:=rv.length
 refine call_reversed_list pl.isList (wpAny_pyIter_revIter (it:=s1.heap.objs.size) (l:=a) (i:=(xs.length:Int) - 1) ⟨_,Heap.get?_push_size _ rfl,rfl,by simp [revObj,hl]⟩ ?_)
 refine⟨s1.heap.objs.size,[s1.heap.objs.size],_,_,H1,rfl,I1.kept (t':=s1.toks) fun b o e=>Heap.get?_push_of_some _ e,turn_rev a _ xs,⟨Nat.zero_le _,⟨_,Heap.get?_push_size _ rfl,rfl,by simp [revObj,hl]⟩⟩,fun b hb=>?_,q⟩
 have e:b=s1.heap.objs.size:=by simpa using hb
 subst e
 exact I1.fpOk (Nat.le_refl _) (I1.hok.fresh (Nat.le_refl _))
end
theorem comp_rev {js:List Nat} {tt:TT} {te:TE} {σ:St} {Qd:List V→Hp→Prop} {K:PySem.W.Frag} {a:Addr} {xs:List V} {H:Hp} (Pv:Nat→List V→Hp→Prop) (hn:xs.length≤sizeLine) (h0:Pv 0 [] H) (hl:∀i ys H,Pv i ys H→ys.length≤i) (hq:∀i ys H,i≤xs.length→Pv i ys H→SqL K H a xs)
  (hs:∀i x ys H,xs.reverse[i]?=some x→Pv i ys H→tt (some x:: eX σ js) H fun b H4=>if b=true then te (some x:: eX σ js) H4 fun y H5=>Pv (i+1) (ys ++ [y]) H5 else Pv (i+1) ys H4)
  (hd:∀ys H,Pv xs.length ys H→Qd ys H):CompEnd js tt te σ Qd (Itrv K a xs) H:=by
 refine⟨fun i m ys H=>m=xs.length - i∧i≤xs.length∧Pv i ys H,⟨xs.length,by simp,Nat.zero_le _,h0⟩,?_⟩
 rintro i m ys H ⟨rfl,hi,p⟩
 have hlen:=hl i ys H p
 have q:=hq i ys H hi p
 by_cases hlt:i <xs.length
 ·refine .inr ⟨⟨q,hlt⟩,by omega,Pv (i+1),fun ys' H' p'=>⟨xs.length - (i+1),by omega,rfl,hlt,p'⟩,fun x H' y=>?_⟩
  obtain⟨rfl,y⟩:=y
  exact hs i x ys _ y p
 ·obtain rfl:i=xs.length:=by omega
  exact .inl ⟨⟨q,Nat.le_refl _⟩,by omega,hd ys H p⟩
section
variable {X:Cx} {e:Expr}
theorem pe_alt {t u:TE} (h:PE X e t) (h':PE X e u):PE X e (fun σ H Q=>t σ H Q∨u σ H Q):=fun pins s σ H Q I q=>q.elim (h pins s σ H Q I) (h' pins s σ H Q I)
end
end L2
set_option Elab.async false
set_option linter.all false
set_option maxRecDepth 100000
set_option Elab.async false
set_option maxHeartbeats 4000000
namespace L2
open PySem PySem.Spec PyProof.Rows
section
variable {X:Cx}
def rInD (K:PySem.W.Frag) (neg:Bool):R2:=fun x y H Q=>∃d ds,Dt K H x d∧Dt K H y (.list ds)∧SeqAt.shaped d=true∧SeqAt.shaped (.list ds)=true∧Q (.bl (if neg then !(ds.any fun z=>PyData.eqv z d) else ds.any fun z=>PyData.eqv z d)) H
theorem op_notInD (hu:X.A.units+100 <cLine):OpR X (compareOp .NotIn) (rInD X.K true):=by
 intro pins s σ H x y v u Q I rx ry h
 obtain⟨d,ds,h1,h2,s1,s2,q⟩:=h
 obtain⟨as,r1⟩:=h1.reads I rx
 obtain⟨bs,r2⟩:=h2.reads I ry
 exact SeqAt.notIn_list_reads r2 r1 (SeqAt.canLay_of_shaped s2) (SeqAt.canLay_of_shaped s1) (room_in_shaped s1 (by omega)) (cu I q rfl)
theorem uC:∀{us:List Value} {ys:List Str},StrsAre us ys→Vals (ys.map V.str) us
 | _,_,.nil=>.nil
 | _,_,.cons _ _ t=>.cons ⟨_,rfl⟩ (uC t)
theorem bt_sorted:bootBuiltins "sorted" =some (.builtin "sorted"):=by decide +kernel
theorem call_sortS:oK X (.builtin "sorted") (fun xs H Q=>∃p ys,xs=[.ref p]∧SqL X.K H p (ys.map V.str)∧ys.length <64∧∀l zs,H l=none→zs.Perm ys→sortedS zs=true→Q (.ref l) (upd H l (.lst (zs.map V.str)))):=by
 intro pins s σ H xs us Q I rx h
 obtain⟨p,ys,rfl,hq,hl,q⟩:=h
 obtain⟨u,rfl,ru⟩:=vals1 rx
 cases ru
 obtain⟨its,r,pl,hz⟩:=I.list hq
 have hlen:=r.length
 rw [List.length_map] at hlen
 have hsz:sizeLine=16777216:=sizeLine_eq
 refine sorted_strs pl.isList (sG r) (by omega) fun out ss' a1 a2 a3=>?_
 obtain⟨e,he⟩:=sortedAll_at s.heap its out
 have hl':=a2.length_eq
 have rv:=uC a1
 refine⟨.ref (s.heap.objs.size+1),_,I.laid (t':=s.toks) (fun b o=>sortedAll_old) (Nat.le_succ _) (show fM X.prog X.w _ _ _ (.lst (ss'.map V.str)) from⟨by rw [List.length_map];omega,out.toList,e,rv,by simpa [seqObj] using he⟩),rfl,q _ _ (I.hok.fresh (Nat.le_succ _)) a2 a3⟩
theorem call_sortD (hc:X.calm=true):oK X (.builtin "sorted") (fun xs H Q=>∃d kvs ys,xs=[.ref d]∧Rd H d (.dK kvs)∧kvs.map (·.1)=ys.map (fun y=>(Sum.inr y:Key))∧ys.length <64∧∀l zs,H l=none→zs.Perm ys→sortedS zs=true→Q (.ref l) (upd H l (.lst (zs.map V.str)))):=by
 intro pins s σ H xs us Q I rx h
 obtain⟨d,kvs,ys,rfl,hr,hk,hl,q⟩:=h
 obtain⟨u,rfl,ru⟩:=vals1 rx
 cases ru
 obtain⟨z,hd,vs,rel,dd⟩:=ql I.hok hr
 obtain⟨ep,da⟩:=dd.dictAt
 have hlv:kvs.length=vs.length:=Paired.length rel
 have hly:kvs.length=ys.length:=by have:=congrArg List.length hk;rwa [List.length_map,List.length_map] at this
 have hsz:sizeLine=16777216:=sizeLine_eq
 refine Calls.call_function_entry kind_sorted plain_sorted entry_sorted (args_sorted1 _) ?_
 unfold Builtin.«sorted»
 refine wpAny_bind (m:=checkCount "sorted" 1 1 _) (wpAny_pure ?_)
 refine wpAny_bind (PySem.W.kdu_collect (A:=X.A.in1) (PySem.W.kdl_dict (knd:=cz X.prog X.w) (kvs:=vs) (ep:=ep) hd) (I.ok.hd hc) da (by omega) fun h' tk acc kp hacc=>?_)
 have hla:acc.toList.length=vs.length:=by rw [Array.length_toList];exact hacc.1
 refine wpAny_bind (wpAny_newList ?_ (by rw [hla];omega))
 have hS:StrsAre acc.toList ys:=by
  refine sG (vy (by rw [hla,List.length_map];omega) fun j x u hx hu=>?_)
  obtain⟨k,v,hkv,hki⟩:=hacc.2 j u (by rw [←Array.getElem?_toList];exact hu)
  rw [List.getElem?_map] at hx
  obtain⟨y,hy,rfl⟩:=Option.map_eq_some_iff.mp hx
  have e1:(kvs.map (·.1))[j]?=some (Sum.inr y):=by rw [hk,List.getElem?_map,hy];rfl
  rw [List.getElem?_map] at e1
  obtain⟨p,hp,e2⟩:=Option.map_eq_some_iff.mp e1
  obtain⟨v',hv'⟩:=kv_get rel (k:=p.1) (v:=p.2) hp
  rw [hkv] at hv'
  cases hv'
  rw [e2] at hki
  exact kV_rel (k:=Sum.inr y) hki
 have hoL:(h'.push (seqObj "list" acc.toList.toArray 0)).get? h'.objs.size=some (seqObj "list" acc.toList.toArray 0):=Heap.get?_push_size _ rfl
 show wpAny _ _ _ _ _ { s with heap:=h'.push (seqObj "list" acc.toList.toArray 0),toks:=tk }
 refine wpAny_bind (wpAny_holding (wpAny_call_entry slot_list_sort ⟨_,hoL,rfl⟩ entry_list_sort (list_sort_treeK strKind_oneLt hoL hS.keysOf (fun v₁ v₂ rest e=>keyKind_strs (by rw [←e];exact hS)) (by omega) fun st' a1 a2=>⟨_,rfl,?_⟩) (args_list_sort _)))
 obtain⟨ss',b1,b2,b3⟩:=sorted_out_str hS a1 a2
 generalize (arrOf st').map (·.2)=out at b1 ⊢
 obtain⟨e,he⟩:=sortedHeap_at (out:=out) hoL
 have hl':=b2.length_eq
 have I1:Inv X pins σ H { s with heap:=h',toks:=tk }:=I.kept kp
 refine wpAny_pure ⟨_,rfl,.ref h'.objs.size,_,I1.laid (t':=tk) (fun b o eb=>?_) (Nat.le_refl _) (show fM X.prog X.w _ _ _ (.lst (ss'.map V.str)) from⟨by rw [List.length_map];omega,out.toList,e,uC b1,by simpa [seqObj] using he⟩),rfl,q _ _ (I1.hok.fresh (Nat.le_refl _)) b2 b3⟩
 have hlt:b <h'.objs.size:=Heap.lt_size eb
 rw [sortedHeap_old (Nat.ne_of_lt hlt) (by rw [size_push'];exact Nat.lt_succ_of_lt hlt),Heap.get?_push_ne _ _ _ (Nat.ne_of_lt hlt)]
 exact eb
end
theorem xr:∀{p:Str} {r:List Str},risingS p r=true→∀y∈r,p.cps.toList≤y.cps.toList
 | p,x:: r,h,y,hy=>by
  unfold risingS at h
  rw [Bool.and_eq_true,ltCps_eq] at h
  have h1:p.cps.toList≤x.cps.toList:=List.not_lt.mp (by simpa using h.1)
  rcases List.mem_cons.mp hy with rfl | hy
  ·exact h1
  ·exact List.le_trans h1 (xr h.2 y hy)
theorem yq {p:Str} {r:List Str} (h:sortedS (p:: r)=true):sortedS r=true:=by
 cases r with
 | nil=>rfl
 | cons x r=>
  have:risingS p (x:: r)=true:=h
  unfold risingS at this
  rw [Bool.and_eq_true] at this
  exact this.2
theorem Aq:∀{l m:List Str},sortedS l=true→sortedS m=true→l.Perm m→l=m
 | [],m,_,_,p=>(List.nil_perm.mp p).symm
 | a:: r,[],_,_,p=>by have:=p.length_eq;simp at this
 | a:: r,b:: t,h1,h2,p=>by
  have e:a=b:=by
   have hb:b∈a:: r:=p.mem_iff.mpr List.mem_cons_self
   have ha:a∈b:: t:=p.mem_iff.mp List.mem_cons_self
   rcases List.mem_cons.mp hb with h | hb
   ·exact h.symm
   rcases List.mem_cons.mp ha with h | ha
   ·exact h
   exact PyProof.Rows.ext_toList (List.le_antisymm (xr h1 b hb) (xr h2 a ha))
  subst e
  rw [Aq (yq h1) (yq h2) (List.Perm.cons_inv p)]
end L2
namespace L2
open PySem PySem.Spec PyProof.Rows
section
variable {M:Model} {A:Around} {E:Value→Shared→Prop} {nm q:Str} {C N:Addr} {bs bm:List Value} {hdct:Bool} {sn:List Str} {sub:List Value} {ab:Bool} {col:Option Bool} {dd:Option Addr} {k0 k1 k2 k3 k5:Option Value} {newId:String}
end
def tChain3 (r r' r'':R2) (ta tb tc td:TE):TE:=fun σ H Q=>ta σ H fun x H1=>tb σ H1 fun y H2=>r x y H2 fun z H3=>∃k,z=.bl k∧
 (if k=true then tc σ H3 fun w' H4=>r' y w' H4 fun z' H5=>∃k',z'=.bl k'∧(if k'=true then td σ H5 fun w2 H6=>r'' w' w2 H6 Q else Q (.bl false) H5) else Q (.bl false) H3)
theorem pt_chain3 {X:Cx} {a b c e:Expr} {pos:Pos} {ta tb tc td:TE} {op op' op'':CmpOp} {r r' r'':R2} (ho:OpR X (compareOp op) r) (ho':OpR X (compareOp op') r') (ho'':OpR X (compareOp op'') r'') (ha:PE X a ta) (hb:PE X b tb) (hc:PE X c tc) (he:PE X e td)
  (hm:lastMarks [op,op',op''] [b,c,e]=false:=by with_unfolding_all rfl):PT X (.Compare a [op,op',op''] [b,c,e] pos) (tTest (tChain3 r r' r'' ta tb tc td)):=by
 intro pins s σ H Q I h
 refine isTrue_chain (thn (ha pins s σ H _ I h) fun v s1 ⟨x,H1,I1,r1,q1⟩=>test_link (thn (hb pins s1 σ H1 _ I1 q1) fun u s2 ⟨y,H2,I2,r2,q2⟩=>
  thn (ho pins s2 σ H2 x y v u _ I2 r1 r2 q2) fun d s3 ⟨z,H3,I3,r3,k,e,q3⟩=>?_)) hm
 subst e
 cases r3
 refine wpAny_truthy_bool ?_
 cases k with
 | false=>
  obtain⟨k',e',q'⟩:=q3
  cases e'
  exact ite_ff ⟨H3,I3,q'⟩
 | true=>
  refine ite_tt (test_link (thn (hc pins s3 σ H3 _ I3 q3) fun w' s4 ⟨z',H4,I4,r4,q4⟩=>thn (ho' pins s4 σ H4 y z' u w' _ I4 r2 r4 q4) fun d' s5 hpt=>?_))
  obtain⟨z2,H5,I5,r5,k2,e2,q5⟩:=hpt
  subst e2
  cases r5
  refine wpAny_truthy_bool ?_
  cases k2 with
  | false=>
   obtain⟨k',e',q'⟩:=q5
   cases e'
   exact ite_ff ⟨H5,I5,q'⟩
  | true=>
   refine ite_tt (test_last (thn (he pins s5 σ H5 _ I5 q5) fun w2 s6 ⟨z6,H6,I6,r6,q6⟩=>thn (ho'' pins s6 σ H6 z' z6 w' w2 _ I6 r4 r6 q6) fun d7 s7 hpt=>?_))
   obtain⟨z7,H7,I7,r7,k7,e7,q7⟩:=hpt
   subst e7
   cases r7
   exact wpAny_truthy_bool ⟨H7,I7,q7⟩
end L2
set_option Elab.async false
set_option linter.all false
set_option maxRecDepth 100000set_option Elab.async false
set_option maxHeartbeats 4000000
namespace L2
open PySem PyProof
theorem call_max3 {X:Cx} (hc:X.calm=true):oK X (.builtin "max") (fun xs H Q=>∃a b c:Int,xs=[.int a,.int b,.int c]∧∀n:Int,a≤n→b≤n→c≤n→(n=a∨n=b∨n=c)→Q (.int n) H):=by
 intro pins s σ H xs us Q I r h
 obtain⟨a,b,c,rfl,q⟩:=h
 cases r with
 | cons r1 r=>
  obtain⟨u,w',rfl,⟨t2,rfl⟩,⟨t3,rfl⟩⟩:=vals2 r
  obtain⟨t1,rfl⟩:=r1
  refine max_three_ints (I.ok.hd hc) fun h' tk k=>?_
  split <;> split
  ·exact⟨.int c,H,I.kept k,⟨_,rfl⟩,q c (by omega) (by omega) (by omega) (by omega)⟩
  ·exact⟨.int b,H,I.kept k,⟨_,rfl⟩,q b (by omega) (by omega) (by omega) (by omega)⟩
  ·exact⟨.int c,H,I.kept k,⟨_,rfl⟩,q c (by omega) (by omega) (by omega) (by omega)⟩
  ·exact⟨.int a,H,I.kept k,⟨_,rfl⟩,q a (by omega) (by omega) (by omega) (by omega)⟩
end L2
set_option maxHeartbeats 4000000
namespace One
open PySem PySem.W PySem.Calls PyProof.Rows
def plant:Nat→BT→List Obj→BT
 | _,t,[]=>t
 | n,t,o:: r=>plant (n+1) (t.ins n o) r
def planted:Nat→BT→List Obj→Bool
 | _,_,[]=>true
 | n,t,o:: r=>((t.ins n o).get n).isSome && planted (n+1) (t.ins n o) r
theorem plant_abs {life:Life}:∀(l:List Obj) (n:Nat) (t:BT) (as:List Obj),absHeap t n life=⟨as.toArray,life⟩→planted n t l=true→absHeap (plant n t l) (n+l.length) life=⟨(as ++ l).toArray,life⟩
 | [],n,t,as,h,_=>by simpa [plant] using h
 | o:: r,n,t,as,h,k=>by
  simp only [planted,Bool.and_eq_true] at k
  have e:=absHeap_ins (life:=life) k.1
  rw [h] at e
  have:=plant_abs r (n+1) (t.ins n o) (as ++ [o]) (by rw [e];simp [Heap.push]) k.2
  rw [List.append_assoc] at this
  rw [List.length_cons,show n+(r.length+1)=n+1+r.length by omega]
  exact this
def goT (tb:String→Option Builtin) (p:Program) (w:World) (m:Nat) (an:Option Value):Nat→SharedT→Thread→Option (SharedT×Thread)
 | 0,s,t=>some (s,t)
 | n+1,s,t=>match through t with
  | true=>some (s,t)
  | false=>match stepOk m an t with
   | false=>none
   | true=>match stepT (denote tb) p w s t with
    | some (s',t')=>goT tb p w m an n s' t'
    | none=>none
theorem goT_of {tb:String→Option Builtin} {p:Program} {w:World} {m:Nat} {an:Option Value}:∀{n:Nat} {s s':SharedT} {t t':Thread},goT tb p w m an n s t=some (s',t')→through t'=true→topRun tb p w m an (n+1) s.abs t=some s'.abs
 | 0,s,s',t,t',h,z=>by
  obtain⟨rfl,rfl⟩:=Prod.mk.inj (Option.some.inj h)
  unfold topRun
  rw [z]
 | n+1,s,s',t,t',h,z=>by
  unfold goT at h
  unfold topRun
  cases e1:through t with
  | true=>
   rw [e1] at h
   obtain⟨rfl,rfl⟩:=Prod.mk.inj (Option.some.inj h)
   rfl
  | false=>
   rw [e1] at h
   cases e2:stepOk m an t with
   | false=>rw [e2] at h;cases h
   | true=>
    rw [e2] at h
    cases e3:stepT (denote tb) p w s t with
    | none=>rw [e3] at h;cases h
    | some r=>
     obtain⟨s2,t2⟩:=r
     rw [e3] at h
     rw [stepT_spec e3]
     exact goT_of h z
def ends (r:SharedT×Thread):Option SharedT:=match through r.2 with
 | true=>some r.1
 | false=>none
theorem topT_of {tb:String→Option Builtin} {p:Program} {w:World} {m:Nat} {an:Option Value} {n:Nat} {s s':SharedT} {t:Thread} (h:(goT tb p w m an n s t).bind ends=some s'):topRun tb p w m an (n+1) s.abs t=some s'.abs:=by
 obtain⟨⟨s2,t2⟩,e1,e2⟩:=Option.bind_eq_some_iff.mp h
 unfold ends at e2
 cases z:through t2 with
 | false=>simp only [z] at e2;cases e2
 | true=>
  simp only [z] at e2
  cases e2
  exact goT_of e1 z
noncomputable def ann0 (P:Params):Option Value:=(boot_heap P).nsMap mainGlobals "__annotations__"
noncomputable def S0 (w:World) (os:OsState):SharedT:=⟨plant 0 .nil (boot_heap w.params).objs.toList,11,{},Array.mk [],boot_drawn,boot_toks,os⟩
theorem S0_abs (w:World) (os:OsState):(S0 w os).abs=⟨boot_heap w.params,Array.mk [],boot_drawn,boot_toks,os⟩:=by
 have e:=plant_abs (life:={}) (boot_heap w.params).objs.toList 0 .nil [] rfl (by rfl)
 have e2:absHeap (plant 0 .nil (boot_heap w.params).objs.toList) 11 {}=boot_heap w.params:=e
 show(⟨absHeap (plant 0 .nil (boot_heap w.params).objs.toList) 11 {},_,_,_,_⟩:Shared)=_
 rw [e2]
 rfl
noncomputable def runX (p:Program) (M:Nat) (w:World) (os:OsState):Option SharedT:=(goT treeTable p w 11 (ann0 w.params) M (S0 w os) (topStub p)).bind ends
noncomputable def looksX (p q:Program) (loose:List Str) (Xt:Shared→Bool) (M:Nat) (w:World) (os:OsState):=
 (runX p M w os).map fun s=>(staticsOk (importedModules p.main.body) (boot_heap w.params) s.abs.heap && namesBound p s.abs.heap && gensDone s.abs && laidKept (boot_heap w.params) s.abs.heap,openSeen q loose (importedModules p.main.body) Xt true s.abs)
theorem left_of {p q:Program} {loose:List Str} {Xt:Shared→Bool} {α:Type} {Yf:Shared→α} {Ya:World→α} {N M:Nat} (e:opening p=plainProg p.main.scope.names) (hN:Nat.ble 600 N=true) (f:∀s,fenceModules? p s=some s) (le:Nat.ble (M+1) N=true)
  (A:∀w os,looksX p q loose Xt M w os=some (true,openGood q loose)) (B:∀w os,(runX p M w os).map (fun s=>Yf s.abs)=some (Ya w)):LeftO p q loose Xt Yf Ya N:=fun w=>by
 obtain⟨⟨h,gs,d,k,os⟩,e1,e2⟩:=Option.map_eq_some_iff.mp (boot_open e hN f w)
 obtain⟨rfl,rfl,rfl,rfl⟩:h=boot_heap w.params∧gs=Array.mk []∧d=boot_drawn∧k=boot_toks:=by simpa using e2
 obtain⟨s1,r1,l1⟩:=Option.map_eq_some_iff.mp (A w os)
 obtain⟨s2,r2,l2⟩:=Option.map_eq_some_iff.mp (B w os)
 rw [r1] at r2
 cases r2
 obtain⟨l3,l4⟩:=Prod.mk.inj l1
 have r3:=topT_of r1
 rw [S0_abs] at r3
 have r4:=topRun_mono (N - (M+1)) _ _ _ _ r3
 rw [show M+1+(N - (M+1))=N by have:=Nat.le_of_ble_eq_true le;omega] at r4
 have t:topFrom treeTable p w N ⟨boot_heap w.params,Array.mk [],boot_drawn,boot_toks,os⟩=some s1.abs:=by
  unfold topFrom
  have z1:((boot_heap w.params).isNs mainGlobals && (Array.mk []:Array GenState).size == 0)=true:=by kernel_rfl
  dsimp only
  rw [z1]
  show((topRun treeTable p w 11 (ann0 w.params) N _ _).bind _)=_
  rw [r4]
  show(match staticsOk (importedModules p.main.body) (boot_heap w.params) s1.abs.heap && namesBound p s1.abs.heap && gensDone s1.abs && laidKept (boot_heap w.params) s1.abs.heap with | true=>_ | false=>_)=_
  rw [l3]
 unfold openEnds
 rw [e1]
 show(topFrom treeTable p w N _).map _=_
 rw [t]
 exact congrArg some (Prod.ext l4 l2)
def yF (s:SharedT) (a:Addr):Option Obj:=match Nat.blt a s.n with
 | true=>(match s.tree.get a with | some o=>alive o | none=>none)
 | false=>none
theorem getT_abs {s:SharedT} {a:Addr} {o:Obj} (h:yF s a=some o):s.abs.heap.get? a=some o:=by
 unfold yF at h
 cases e:Nat.blt a s.n with
 | false=>rw [e] at h;cases h
 | true=>
  rw [e] at h
  cases g:s.tree.get a with
  | none=>rw [g] at h;cases h
  | some x=>
   rw [g] at h
   exact(abs_get (Nat.le_of_ble_eq_true e) g).trans h
theorem all_abs {s:SharedT}:∀{as:List Addr} {l:List (Addr×Obj)},as.map (yF s)=l.map (fun p=>some p.2)→as.map s.abs.heap.get?=l.map fun p=>some p.2
 | [],[],_=>rfl
 | [],_:: _,h=>by cases h
 | _:: _,[],h=>by cases h
 | a:: as,x:: l,h=>by
  have h1:=List.cons.inj h
  show s.abs.heap.get? a:: as.map _=_
  rw [getT_abs h1.1,all_abs h1.2]
  rfl
theorem chunk {o:Option SharedT} {as:List Addr} {l:List (Addr×Obj)} (n:Nat) (h1:o.map (fun s=>(as.take n).map (yF s))=some ((l.take n).map fun p=>some p.2)) (h2:o.map (fun s=>(as.drop n).map (yF s))=some ((l.drop n).map fun p=>some p.2)):
  o.map (fun s=>as.map (yF s))=some (l.map fun p=>some p.2):=by
 obtain⟨s,e1,e2⟩:=Option.map_eq_some_iff.mp h1
 subst e1
 have e3:=Option.some.inj h2
 show some (as.map (yF s))=_
 rw [←List.take_append_drop n as,←List.take_append_drop n l,List.map_append,List.map_append]
 exact congrArg some (congr (congrArg _ e2) e3)
theorem hook_of {o:Option SharedT} {w:World} {K:Params→Frag} {as:List Addr} {e:∀P,as=(K P).map (·.1)} (h:o.map (fun s=>as.map (yF s))=some ((K w.params).map fun p=>some p.2)):
  o.map (fun s=>Hook.obs (kHook K as e) s.abs)=some (Hook.val (kHook K as e) w):=by
 obtain⟨s,h1,h2⟩:=Option.map_eq_some_iff.mp h
 rw [h1]
 exact congrArg some (all_abs h2)
end One
namespace HD
open PySem PySem.W PySem.Calls PyProof.Rows
abbrev rr:OpenRow:=OpenLaw.row PySem.Challenge.rw_holdlane_k64_the_paper_of_a_share
def q:Program:=view PySem.Challenge.pw_holdlane_k64_the_paper_of_a_share [91]
def loose:List PySem.Str:=(["_wall", "LaneError", "TooMany", "NoKind", "BadName", "Doubled", "NoSuch", "BadNumbers", "BadLanes", "BadRoom", "Open", "Loose", "NotCalm", "arcs_of", "arcs_of_lane", "gone_round"]:List PySem.Str) ++ (["ring_into", "times_or_ring", "grow_times", "VALUES", "FIGURES", "LETTERS", "LONGEST_NAME", "is_whole", "is_value", "is_name", "greatest_divisor", "least_terms", "share", "tokens_of", "fraction_of", "least_tokens"]:List PySem.Str) ++ (["COUNTS", "Part", "Give", "Take", "Pass", "Copy", "Turn", "Heap", "Add", "Less", "Order", "Choose", "Split", "is_kind", "need_fit", "made_of"]:List PySem.Str) ++ (["part_made", "MOST_LANES", "MOST_PARTS", "MOST_ROOM", "need_counts", "need_fresh", "need_lane", "fresh_part", "tie_lanes", "need_ends", "joined_with", "need_joined", "row_of", "Net", "_law_cell", "_law_mix"]:List PySem.Str) ++ (["_law_value", "_law_word", "_law_lane", "_law_part", "_law_pick", "_law_two", "_law_loop", "_law_step", "_law_closed", "_law_net", "_law_arcs", "_law_whole", "_law_ring", "_law_changed", "_law_divides", "_law_numbers"]:List PySem.Str) ++ (["_law_least", "_law_paper"]:List PySem.Str)
def Xt (s:Shared):Bool:=xlAt q [] s && recOk (RowW.records (OpenRow.toRowW (OpenLaw.row PySem.Challenge.rw_holdlane_k64_the_paper_of_a_share))) s
structure KA where
 K:Params→Frag
 as:List Addr
def pickK {r:OpenRow} {K:Params→Frag} {as:List Addr} (_:(∀H:Hook,(∃e,H=kHook K as e)→r.Holds)→r.Holds):KA:=⟨K,as⟩
local macro_rules | `(tactic| o_head $H)=>`(tactic| (rename_i hh;exact hh $H ⟨_,rfl⟩))
noncomputable def ka:KA:=pickK (r:=rr) (fun _=>by k_head)
theorem ka_e (P:Params):KA.as ka=(ka.heap_1 P).map (·.1):=by kernel_rfl
noncomputable def runC:World→OsState→Option SharedT:=fun w os=>One.runX PySem.Challenge.pw_holdlane_k64_the_paper_of_a_share 12060 w os
noncomputable def looksC:=fun(w:World) (os:OsState)=>One.looksX PySem.Challenge.pw_holdlane_k64_the_paper_of_a_share q loose Xt 12060 w os
noncomputable def goodC:=some (true,openGood q loose)
theorem runC_e:runC=runC:=rfl
name_quick runQ for HD.runC by HD.runC_e
theorem looksC_e:looksC=looksC:=rfl
name_quick looksQ for HD.looksC by HD.looksC_e
theorem goodC_e:goodC=goodC:=rfl
name_quick goodQ for HD.goodC by HD.goodC_e
theorem A0 (w:World) (os:OsState):PySem.W.Fast.looksQ (w.withFollow "special-get-raises" false) os=PySem.W.Fast.goodQ:=by kernel_rfl
theorem B0_0 (w:World) (os:OsState):(PySem.W.Fast.runQ (w.withFollow "special-get-raises" false) os).map (fun s=>(KA.as ka).map (One.yF s))=some ((ka.heap_1 (w.withFollow "special-get-raises" false).params).map fun p=>some p.2):=by kernel_rfl
theorem B0 (w:World) (os:OsState):(PySem.W.Fast.runQ (w.withFollow "special-get-raises" false) os).map (fun s=>(KA.as ka).map (One.yF s))=some ((ka.heap_1 (w.withFollow "special-get-raises" false).params).map fun p=>some p.2):=B0_0 w os
theorem A1 (w:World) (os:OsState):PySem.W.Fast.looksQ (w.withFollow "special-get-raises" true) os=PySem.W.Fast.goodQ:=by kernel_rfl
theorem B1_0 (w:World) (os:OsState):(PySem.W.Fast.runQ (w.withFollow "special-get-raises" true) os).map (fun s=>(KA.as ka).map (One.yF s))=some ((ka.heap_1 (w.withFollow "special-get-raises" true).params).map fun p=>some p.2):=by kernel_rfl
theorem B1 (w:World) (os:OsState):(PySem.W.Fast.runQ (w.withFollow "special-get-raises" true) os).map (fun s=>(KA.as ka).map (One.yF s))=some ((ka.heap_1 (w.withFollow "special-get-raises" true).params).map fun p=>some p.2):=B1_0 w os
theorem A (w:World):∀os,looksC w os=goodC:=by
 rw [PySem.W.Fast.looksQ_eq,PySem.W.Fast.goodQ_eq]
 exact byRow2 "special-get-raises" (P:=fun w=>∀os,PySem.W.Fast.looksQ w os=PySem.W.Fast.goodQ) A0 A1 w
theorem B (w:World):∀os,(runC w os).map (fun s=>(KA.as ka).map (One.yF s))=some ((ka.heap_1 w.params).map fun p=>some p.2):=by
 rw [PySem.W.Fast.runQ_eq]
 exact byRow2 "special-get-raises" (P:=fun w=>∀os,(PySem.W.Fast.runQ w os).map (fun s=>(KA.as ka).map (One.yF s))=some ((ka.heap_1 w.params).map fun p=>some p.2)) B0 B1 w
theorem head {d:DefRec} {kwd:List (PySem.Str×Expr)}
  (hdef:defOf q rr.name=some (d,kwd)) (hp:rr.prog.theDef rr.name=some (d.params,d.body,d.scope)) (hk:kwWritten? d.params.kwonlyargs d.params.kw_defaults=some kwd) (hwr:(!rr.writes || rr.records.isEmpty)=true)
  (k1:rr.wellSaid=true) (ok:(chainsOk q && opensWell rr.prog && (frees rr.toRowW && rr.within.isEmpty))=true) (hb:rr.prog.bare) (ho:opening PySem.Challenge.pw_holdlane_k64_the_paper_of_a_share=plainProg (PySem.Challenge.pw_holdlane_k64_the_paper_of_a_share).main.scope.names) (f:∀s,fenceModules? PySem.Challenge.pw_holdlane_k64_the_paper_of_a_share s=some s)
  (hw:rr.toRowW.promised) (hc:WalkO q loose (XL q []) (Hook.says (kHook ka.heap_1 (KA.as ka) ka_e)) rr.toRowW d kwd fun f vs=>PySem.call f vs):rr.Holds:=by
 have left:LeftO PySem.Challenge.pw_holdlane_k64_the_paper_of_a_share q loose Xt (Hook.obs (kHook ka.heap_1 (KA.as ka) ka_e)) (Hook.val (kHook ka.heap_1 (KA.as ka) ka_e)) 24700:=One.left_of (M:=12060) ho rfl f rfl A fun w os=>One.hook_of (B w os)
 exact holds_open (XP:=XL q []) (YP:=Hook.says (kHook ka.heap_1 (KA.as ka) ka_e)) left (Hook.of _) (Hook.keeps _) (fun s z=>xl_of s (Bool.and_eq_true_iff.mp z).1) XL.keeps hdef hp hk (fun s z=>recFacts_of (Bool.and_eq_true_iff.mp z).2) hwr k1 ok hb hw hc
end HD
namespace K64
open PySem L2
theorem szl {n:Nat} (h:Nat.ble n 16777216=true:=by rfl):n≤sizeLine:=by rw [sizeLine_eq];exact Nat.le_of_ble_eq_true h
theorem lM {α β:Type} {f:α→β} {l:List α}:(l.map f).length=l.length:=List.length_map ..
theorem lP {α:Type} {l m:List α}:(l ++ m).length=l.length+m.length:=List.length_append ..
def top (i:Nat):Stmt:=PySem.Challenge.pw_holdlane_k64_the_paper_of_a_share.main.body.getD i (.Pass ⟨0,0,0,0⟩)
abbrev mK:Stmt:=top 28
abbrev m5:Stmt:=top 29
abbrev fc:Stmt:=inClass (top 40) 0
abbrev lQ:Stmt:=inClass (top 41) 0
abbrev lA:Stmt:=inClass (top 42) 0
abbrev lu:Stmt:=inClass (top 43) 0
abbrev lJ:Stmt:=inClass (top 44) 0
abbrev lD:Stmt:=inClass (top 45) 0
abbrev lR:Stmt:=inClass (top 46) 0
abbrev mZ:Stmt:=inClass (top 47) 0
abbrev lH:Stmt:=inClass (top 48) 0
abbrev iK:Stmt:=inClass (top 49) 0
abbrev gQ:Stmt:=inClass (top 50) 0
abbrev iJ:Stmt:=inClass (top 51) 0
abbrev oZ:Stmt:=top 52
abbrev lg:Stmt:=top 53
abbrev oY:Stmt:=top 54
abbrev lG:Stmt:=top 55
abbrev mW:Stmt:=top 72
abbrev lB:Stmt:=top 71
abbrev iY:Stmt:=top 73
abbrev ir:Stmt:=top 74
abbrev iu:Stmt:=top 75
abbrev lE:Stmt:=top 77
abbrev iz:Stmt:=top 76
abbrev mL:Stmt:=top 78
abbrev lK:Stmt:=top 79
abbrev lL:Stmt:=top 80
abbrev gM:Stmt:=top 81
abbrev kZ:Stmt:=top 82
abbrev mY:Stmt:=top 30
abbrev gJ:Stmt:=top 60
abbrev iI:Stmt:=top 61
abbrev iw:Stmt:=top 62
abbrev iM:Stmt:=top 63
abbrev lq:Stmt:=top 64
abbrev lO:Stmt:=top 65
abbrev gZ:Stmt:=top 66
abbrev gH:Stmt:=top 67
abbrev dW:Stmt:=inClass (top 69) 1
abbrev dR:Stmt:=inClass (top 69) 2
abbrev cT:Stmt:=inClass (top 69) 12
abbrev gO:Stmt:=inClass (top 69) 7
abbrev fZ:Stmt:=inClass (top 69) 8
abbrev fX:Stmt:=inClass (top 69) 9
abbrev fY:Stmt:=inClass (top 69) 10
abbrev o7:Stmt:=inClass (top 69) 6
abbrev fW:Stmt:=inClass (top 69) 0
abbrev fQ:Stmt:=top 16
abbrev mQ:Stmt:=top 15
abbrev iH:Stmt:=top 18
abbrev iy:Stmt:=top 19
abbrev iT:Stmt:=top 22
abbrev eZ:Stmt:=top 21
abbrev dj:Stmt:=top 31
abbrev gY:Stmt:=top 32
abbrev iD:Stmt:=top 35
abbrev gW:Stmt:=top 36
abbrev fP:Stmt:=top 37
abbrev wC:Stmt:=top 34
abbrev fC:Stmt:=top 83
abbrev iU:Stmt:=top 84
abbrev lw:Stmt:=top 85
abbrev dX:Stmt:=top 86
abbrev fU:Stmt:=top 87
abbrev eO:Stmt:=top 88
abbrev iW:Stmt:=top 89
abbrev fH:Stmt:=top 90
abbrev BL:Stmt:=top 91
set_option genInjectivity false in
structure Adr where
 xF:Addr
 vp:FuncData
 xH:Addr
 ww:FuncData
 bR:Addr
 mO:FuncData
 vD:Addr
 tW:FuncData
 vK:Addr
 sr:FuncData
 vI:Addr
 um:FuncData
 wA:Addr
 uD:FuncData
 vV:Addr
 sY:FuncData
 uY:Addr
 sE:FuncData
 xP:Addr
 uT:FuncData
 vM:Addr
 su:FuncData
 sX:Addr
 qN:FuncData
 q9:Addr
 pB:FuncData
 ut:Addr
 rn:FuncData
 zp:Addr
 xQ:FuncData
 xJ:Addr
 vJ:FuncData
 yQ:Addr
 xW:FuncData
 vB:Addr
 sI:FuncData
 xU:Addr
 vq:FuncData
 vO:Addr
 tU:FuncData
 tZ:Addr
 qT:FuncData
 uR:Addr
 tH:FuncData
 v8:Addr
 sW:FuncData
 vo:Addr
 uA:FuncData
 vU:Addr
 tK:FuncData
 xX:Addr
 vH:FuncData
 uM:Addr
 uo:FuncData
 wg:Addr
 tO:FuncData
 qG:Addr
 pG:FuncData
 xY:Addr
 vZ:FuncData
 zj:Addr
 xM:FuncData
 qO:Addr
 pI:FuncData
 sJ:Addr
 qI:FuncData
 uO:Addr
 sU:FuncData
 ur:Addr
 qP:FuncData
 vG:Addr
 uh:FuncData
 vd:Addr
 uz:FuncData
 rA:Addr
 o8:FuncData
 qY:Addr
 pN:FuncData
 mU:Addr
 lZ:FuncData
 mV:Addr
 lU:FuncData
 iC:Addr
 g8:FuncData
 rD:Addr
 pM:FuncData
 pZ:Addr
 ou:FuncData
 pU:Addr
 n6:FuncData
 pC:Addr
 nZ:FuncData
 zr:Addr
 xu:FuncData
 pO:Addr
 oE:FuncData
 p8:Addr
 oh:FuncData
 zm:Addr
 xN:FuncData
 ux:Addr
 rB:FuncData
 uW:Addr
 uB:FuncData
 tE:Addr
 qQ:FuncData
 oG:Addr
 mX:FuncData
 kY:Addr
 iZ:FuncData
 qK:Addr
 p7:FuncData
 uN:Addr
 sO:FuncData
 rC:Addr
 pK:FuncData
 pW:Addr
 nY:FuncData
 f_share:Addr
 Al:FuncData
 vX:Addr
 tQ:FuncData
 ud:Addr
 rE:FuncData
 uU:Addr
 sV:FuncData
 pJ:Addr
 nW:FuncData
 pH:Addr
 nU:FuncData
 pL:Addr
 n8:FuncData
 ul:Addr
 qU:FuncData
 uw:Addr
 qH:FuncData
 f_law:Addr
 fd_law:FuncData
 dI:Addr
 dH:Addr
 dD:Addr
 dB:Addr
 dF:Addr
 dG:Addr
 gw:Addr
 dJ:Addr
 cL:Addr
 bZ:Addr
 cM:Addr
 bK:Addr
 nQ:Addr
abbrev ROWS:List (Str×List Int):=[("give",[0,0,1]),("take",[0,1,0]),("pass",[0,1,1]),("copy",[0,1,2]),("turn",[2,1,1]),("heap",[1,1,1]),("add",[0,2,1]),("less",[0,2,1]),("order",[0,2,2]),("choose",[0,3,1]),("split",[0,2,2])]
structure Txt (w:World) (K:PySem.W.Frag) (mg:Str→Option Value) (t:Adr):Prop where
 xn:Fun K "is_whole" "is_whole" mK t.xF t.vp
 Bu:Binds K t.vp ["thing"] []
 BP:mg "is_whole" =some (.ref t.xF)
 xG:Fun K "is_value" "is_value" m5 t.xH t.ww
 Bc:Binds K t.ww ["thing"] []
 BR:mg "is_value" =some (.ref t.xH)
 F_Part___init__:Fun K "__init__" "Part.__init__" fc t.bR t.mO
 bY:Binds K t.mO ["self", "name", "numbers", "ins", "outs"] []
 F_Give_kind:Fun K "kind" "Give.kind" lQ t.vD t.tW
 b_Give_kind:Binds K t.tW ["self"] []
 F_Take_kind:Fun K "kind" "Take.kind" lA t.vK t.sr
 b_Take_kind:Binds K t.sr ["self"] []
 F_Pass_kind:Fun K "kind" "Pass.kind" lu t.vI t.um
 b_Pass_kind:Binds K t.um ["self"] []
 F_Copy_kind:Fun K "kind" "Copy.kind" lJ t.wA t.uD
 b_Copy_kind:Binds K t.uD ["self"] []
 F_Turn_kind:Fun K "kind" "Turn.kind" lD t.vV t.sY
 b_Turn_kind:Binds K t.sY ["self"] []
 F_Heap_kind:Fun K "kind" "Heap.kind" lR t.uY t.sE
 b_Heap_kind:Binds K t.sE ["self"] []
 F_Add_kind:Fun K "kind" "Add.kind" mZ t.xP t.uT
 b_Add_kind:Binds K t.uT ["self"] []
 F_Less_kind:Fun K "kind" "Less.kind" lH t.vM t.su
 b_Less_kind:Binds K t.su ["self"] []
 F_Order_kind:Fun K "kind" "Order.kind" iK t.sX t.qN
 b_Order_kind:Binds K t.qN ["self"] []
 F_Choose_kind:Fun K "kind" "Choose.kind" gQ t.q9 t.pB
 b_Choose_kind:Binds K t.pB ["self"] []
 F_Split_kind:Fun K "kind" "Split.kind" iJ t.ut t.rn
 b_Split_kind:Binds K t.rn ["self"] []
 za:Fun K "is_kind" "is_kind" oZ t.zp t.xQ
 b_is_kind:Binds K t.xQ ["word"] []
 m_is_kind:mg "is_kind" =some (.ref t.zp)
 BJ:Fun K "need_fit" "need_fit" lg t.xJ t.vJ
 b_need_fit:Binds K t.vJ ["kind", "name", "numbers", "ins", "outs"] []
 m_need_fit:mg "need_fit" =some (.ref t.xJ)
 F_made_of:Fun K "made_of" "made_of" oY t.yQ t.xW
 b_made_of:Binds K t.xW ["kind", "name", "numbers", "ins", "outs"] []
 m_made_of:mg "made_of" =some (.ref t.yQ)
 zz:Fun K "part_made" "part_made" lG t.vB t.sI
 b_part_made:Binds K t.sI ["kind", "name", "numbers", "ins", "outs"] []
 m_part_made:mg "part_made" =some (.ref t.vB)
 bz:Fun K "_law_mix" "_law_mix" mW t.xU t.vq
 bB:Binds K t.vq ["_law_cell_here", "_law_k"] []
 bC:mg "_law_mix" =some (.ref t.xU)
 qm:Fun K "_law_cell" "_law_cell" lB t.vO t.tU
 wj:Binds K t.tU ["_law_script", "_law_k"] []
 uP:mg "_law_cell" =some (.ref t.vO)
 iV:Fun K "_law_value" "_law_value" iY t.tZ t.qT
 mG:Binds K t.qT ["_law_cell_here", "_law_k"] []
 mj:mg "_law_value" =some (.ref t.tZ)
 nC:Fun K "_law_word" "_law_word" ir t.uR t.tH
 qF:Binds K t.tH ["_law_cell_here", "_law_k"] []
 qd:mg "_law_word" =some (.ref t.uR)
 lz:Fun K "_law_lane" "_law_lane" iu t.v8 t.sW
 nj:Binds K t.sW ["_law_state", "_law_cell_here", "_law_back"] []
 m9:mg "_law_lane" =some (.ref t.v8)
 qz:Fun K "_law_pick" "_law_pick" lE t.vo t.uA
 vC:Binds K t.uA ["_law_state", "_law_number"] []
 vL:mg "_law_pick" =some (.ref t.vo)
 cH:Fun K "_law_part" "_law_part" iz t.vU t.tK
 cU:Binds K t.tK ["_law_state", "_law_cell_here", "_law_kind", "_law_numbers_here", "_law_ins", "_law_many"] []
 cV:mg "_law_part" =some (.ref t.vU)
 BW:Fun K "_law_two" "_law_two" mL t.xX t.vH
 b__law_two:Binds K t.vH ["_law_state", "_law_cell_here", "_law_one", "_law_odd"] []
 m__law_two:mg "_law_two" =some (.ref t.xX)
 zB:Fun K "_law_loop" "_law_loop" lK t.uM t.uo
 b__law_loop:Binds K t.uo ["_law_state", "_law_cell_here", "_law_one"] []
 m__law_loop:mg "_law_loop" =some (.ref t.uM)
 zG:Fun K "_law_step" "_law_step" lL t.wg t.tO
 b__law_step:Binds K t.tO ["_law_state", "_law_cell_here", "_law_odd"] []
 m__law_step:mg "_law_step" =some (.ref t.wg)
 xf:Fun K "_law_closed" "_law_closed" gM t.qG t.pG
 b__law_closed:Binds K t.pG ["_law_state", "_law_cell_here", "_law_back"] []
 m__law_closed:mg "_law_closed" =some (.ref t.qG)
 Aj:Fun K "_law_net" "_law_net" kZ t.xY t.vZ
 b__law_net:Binds K t.vZ ["_law_script", "_law_start", "_law_steps", "_law_odd"] []
 m__law_net:mg "_law_net" =some (.ref t.xY)
 F_is_name:Fun K "is_name" "is_name" mY t.zj t.xM
 b_is_name:Binds K t.xM ["thing"] []
 m_is_name:mg "is_name" =some (.ref t.zj)
 xm:Fun K "need_counts" "need_counts" gJ t.qO t.pI
 b_need_counts:Binds K t.pI ["lanes", "parts"] []
 m_need_counts:mg "need_counts" =some (.ref t.qO)
 tX:Fun K "need_fresh" "need_fresh" iI t.sJ t.qI
 yu:Binds K t.qI ["name", "known"] []
 yD:mg "need_fresh" =some (.ref t.sJ)
 zQ:Fun K "need_lane" "need_lane" iw t.uO t.sU
 b_need_lane:Binds K t.sU ["name", "room", "first"] []
 m_need_lane:mg "need_lane" =some (.ref t.uO)
 yp:Fun K "fresh_part" "fresh_part" iM t.ur t.qP
 b_fresh_part:Binds K t.qP ["row", "known"] []
 m_fresh_part:mg "fresh_part" =some (.ref t.ur)
 vz:Fun K "tie_lanes" "tie_lanes" lq t.vG t.uh
 zN:Binds K t.uh ["part", "lanes", "rooms", "ends"] []
 zx:mg "tie_lanes" =some (.ref t.vG)
 zE:Fun K "need_ends" "need_ends" lO t.vd t.uz
 b_need_ends:Binds K t.uz ["rooms", "givers", "takers"] []
 m_need_ends:mg "need_ends" =some (.ref t.vd)
 xg:Fun K "joined_with" "joined_with" gZ t.rA t.o8
 b_joined_with:Binds K t.o8 ["part", "givers", "takers"] []
 m_joined_with:mg "joined_with" =some (.ref t.rA)
 xj:Fun K "need_joined" "need_joined" gH t.qY t.pN
 b_need_joined:Binds K t.pN ["names", "givers", "takers"] []
 m_need_joined:mg "need_joined" =some (.ref t.qY)
 F_Net_lane_names:Fun K "lane_names" "Net.lane_names" dW t.mU t.lZ
 rQ:Binds K t.lZ ["self"] []
 F_Net_part_names:Fun K "part_names" "Net.part_names" dR t.mV t.lU
 mR:Binds K t.lU ["self"] []
 F_Net_need_lane_name:Fun K "need_lane_name" "Net.need_lane_name" cT t.iC t.g8
 fG:Binds K t.g8 ["self", "name"] []
 F_Net_room_of:Fun K "room_of" "Net.room_of" gO t.rD t.pM
 b_Net_room_of:Binds K t.pM ["self", "name"] []
 F_Net_first_of:Fun K "first_of" "Net.first_of" fZ t.pZ t.ou
 b_Net_first_of:Binds K t.ou ["self", "name"] []
 F_Net_giver_of:Fun K "giver_of" "Net.giver_of" fX t.pU t.n6
 b_Net_giver_of:Binds K t.n6 ["self", "name"] []
 F_Net_taker_of:Fun K "taker_of" "Net.taker_of" fY t.pC t.nZ
 b_Net_taker_of:Binds K t.nZ ["self", "name"] []
 F_Net_odd:Fun K "odd" "Net.odd" o7 t.zr t.xu
 b_Net_odd:Binds K t.xu ["self"] []
 F_Net___init__:Fun K "__init__" "Net.__init__" fW t.pO t.oE
 b_Net___init__:Binds K t.oE ["self", "lanes", "parts"] []
 vg:Fun K "arcs_of_lane" "arcs_of_lane" fQ t.p8 t.oh
 b_arcs_of_lane:Binds K t.oh ["net", "lane"] []
 m_arcs_of_lane:mg "arcs_of_lane" =some (.ref t.p8)
 F_arcs_of:Fun K "arcs_of" "arcs_of" mQ t.zm t.xN
 b_arcs_of:Binds K t.xN ["net"] []
 m_arcs_of:mg "arcs_of" =some (.ref t.zm)
 yE:Fun K "gone_round" "gone_round" iH t.ux t.rB
 b_gone_round:Binds K t.rB ["start", "leads"] []
 m_gone_round:mg "gone_round" =some (.ref t.ux)
 zF:Fun K "ring_into" "ring_into" iy t.uW t.uB
 b_ring_into:Binds K t.uB ["start", "into"] []
 m_ring_into:mg "ring_into" =some (.ref t.uW)
 yr:Fun K "grow_times" "grow_times" iT t.tE t.qQ
 b_grow_times:Binds K t.qQ ["times", "into", "arcs", "wish"] []
 m_grow_times:mg "grow_times" =some (.ref t.tE)
 oA:Fun K "times_or_ring" "times_or_ring" eZ t.oG t.mX
 uE:Binds K t.mX ["names", "arcs", "wish"] []
 uH:mg "times_or_ring" =some (.ref t.oG)
 pP:Fun K "greatest_divisor" "greatest_divisor" dj t.kY t.iZ
 b_greatest_divisor:Binds K t.iZ ["one", "other"] []
 m_greatest_divisor:mg "greatest_divisor" =some (.ref t.kY)
 wZ:Fun K "least_terms" "least_terms" gY t.qK t.p7
 b_least_terms:Binds K t.p7 ["top", "bottom"] []
 m_least_terms:mg "least_terms" =some (.ref t.qK)
 zT:Fun K "tokens_of" "tokens_of" iD t.uN t.sO
 b_tokens_of:Binds K t.sO ["ring"] []
 m_tokens_of:mg "tokens_of" =some (.ref t.uN)
 m6:Fun K "fraction_of" "fraction_of" gW t.rC t.pK
 qM:Binds K t.pK ["ring"] []
 qW:mg "fraction_of" =some (.ref t.rC)
 uV:Fun K "least_tokens" "least_tokens" fP t.pW t.nY
 b_least_tokens:Binds K t.nY ["arcs", "start"] []
 m_least_tokens:mg "least_tokens" =some (.ref t.pW)
 F_share:Fun K "share" "share" wC t.f_share t.Al
 b_share:Binds K t.Al ["net"] []
 m_share:mg "share" =some (.ref t.f_share)
 zV:Fun K "_law_arcs" "_law_arcs" fC t.vX t.tQ
 b__law_arcs:Binds K t.tQ ["_law_lanes", "_law_parts"] []
 m__law_arcs:mg "_law_arcs" =some (.ref t.vX)
 oM:Fun K "_law_whole" "_law_whole" iU t.ud t.rE
 tY:Binds K t.rE ["_law_found"] []
 ug:mg "_law_whole" =some (.ref t.ud)
 zA:Fun K "_law_ring" "_law_ring" lw t.uU t.sV
 b__law_ring:Binds K t.sV ["_law_ring_here", "_law_arcs_here"] []
 m__law_ring:mg "_law_ring" =some (.ref t.uU)
 uX:Fun K "_law_changed" "_law_changed" dX t.pJ t.nW
 b__law_changed:Binds K t.nW ["_law_lanes", "_law_cell_here"] []
 m__law_changed:mg "_law_changed" =some (.ref t.pJ)
 uQ:Fun K "_law_divides" "_law_divides" fU t.pH t.nU
 b__law_divides:Binds K t.nU ["_law_top", "_law_bottom"] []
 m__law_divides:mg "_law_divides" =some (.ref t.pH)
 pF:Fun K "_law_numbers" "_law_numbers" eO t.pL t.n8
 wz:Binds K t.n8 ["_law_told", "_law_names"] []
 uL:mg "_law_numbers" =some (.ref t.pL)
 yf:Fun K "_law_least" "_law_least" iW t.ul t.qU
 b__law_least:Binds K t.qU ["_law_arcs_here", "_law_start", "_law_many"] []
 m__law_least:mg "_law_least" =some (.ref t.ul)
 yx:Fun K "_law_paper" "_law_paper" fH t.uw t.qH
 b__law_paper:Binds K t.qH ["_law_paper_here", "_law_arcs_here", "_law_names"] []
 m__law_paper:mg "_law_paper" =some (.ref t.uw)
 F_law:Fun K "law" "law" BL t.f_law t.fd_law
 b_law:Binds K t.fd_law ["_law_script"] []
 m_law:mg "law" =some (.ref t.f_law)
 c_Give:Cls K t.dI
 mc_Give:mg "Give" =some (.ref t.dI)
 M_Give:Mk K t.dI t.bR
 me_Give_kind:Meth K t.dI "kind" t.vD
 na_Give_name:bG K t.dI "name"
 na_Give_numbers:bG K t.dI "numbers"
 na_Give_ins:bG K t.dI "ins"
 na_Give_outs:bG K t.dI "outs"
 c_Take:Cls K t.dH
 mc_Take:mg "Take" =some (.ref t.dH)
 M_Take:Mk K t.dH t.bR
 me_Take_kind:Meth K t.dH "kind" t.vK
 na_Take_name:bG K t.dH "name"
 na_Take_numbers:bG K t.dH "numbers"
 na_Take_ins:bG K t.dH "ins"
 na_Take_outs:bG K t.dH "outs"
 c_Pass:Cls K t.dD
 mc_Pass:mg "Pass" =some (.ref t.dD)
 M_Pass:Mk K t.dD t.bR
 me_Pass_kind:Meth K t.dD "kind" t.vI
 na_Pass_name:bG K t.dD "name"
 na_Pass_numbers:bG K t.dD "numbers"
 na_Pass_ins:bG K t.dD "ins"
 na_Pass_outs:bG K t.dD "outs"
 c_Copy:Cls K t.dB
 mc_Copy:mg "Copy" =some (.ref t.dB)
 M_Copy:Mk K t.dB t.bR
 me_Copy_kind:Meth K t.dB "kind" t.wA
 na_Copy_name:bG K t.dB "name"
 na_Copy_numbers:bG K t.dB "numbers"
 na_Copy_ins:bG K t.dB "ins"
 na_Copy_outs:bG K t.dB "outs"
 c_Turn:Cls K t.dF
 mc_Turn:mg "Turn" =some (.ref t.dF)
 M_Turn:Mk K t.dF t.bR
 me_Turn_kind:Meth K t.dF "kind" t.vV
 na_Turn_name:bG K t.dF "name"
 na_Turn_numbers:bG K t.dF "numbers"
 na_Turn_ins:bG K t.dF "ins"
 na_Turn_outs:bG K t.dF "outs"
 c_Heap:Cls K t.dG
 mc_Heap:mg "Heap" =some (.ref t.dG)
 M_Heap:Mk K t.dG t.bR
 me_Heap_kind:Meth K t.dG "kind" t.uY
 na_Heap_name:bG K t.dG "name"
 na_Heap_numbers:bG K t.dG "numbers"
 na_Heap_ins:bG K t.dG "ins"
 na_Heap_outs:bG K t.dG "outs"
 c_Add:Cls K t.gw
 mc_Add:mg "Add" =some (.ref t.gw)
 M_Add:Mk K t.gw t.bR
 me_Add_kind:Meth K t.gw "kind" t.xP
 na_Add_name:bG K t.gw "name"
 na_Add_numbers:bG K t.gw "numbers"
 na_Add_ins:bG K t.gw "ins"
 na_Add_outs:bG K t.gw "outs"
 c_Less:Cls K t.dJ
 mc_Less:mg "Less" =some (.ref t.dJ)
 M_Less:Mk K t.dJ t.bR
 me_Less_kind:Meth K t.dJ "kind" t.vM
 na_Less_name:bG K t.dJ "name"
 na_Less_numbers:bG K t.dJ "numbers"
 na_Less_ins:bG K t.dJ "ins"
 na_Less_outs:bG K t.dJ "outs"
 c_Order:Cls K t.cL
 mc_Order:mg "Order" =some (.ref t.cL)
 M_Order:Mk K t.cL t.bR
 me_Order_kind:Meth K t.cL "kind" t.sX
 na_Order_name:bG K t.cL "name"
 na_Order_numbers:bG K t.cL "numbers"
 na_Order_ins:bG K t.cL "ins"
 na_Order_outs:bG K t.cL "outs"
 c_Choose:Cls K t.bZ
 mc_Choose:mg "Choose" =some (.ref t.bZ)
 M_Choose:Mk K t.bZ t.bR
 me_Choose_kind:Meth K t.bZ "kind" t.q9
 na_Choose_name:bG K t.bZ "name"
 na_Choose_numbers:bG K t.bZ "numbers"
 na_Choose_ins:bG K t.bZ "ins"
 na_Choose_outs:bG K t.bZ "outs"
 c_Split:Cls K t.cM
 mc_Split:mg "Split" =some (.ref t.cM)
 M_Split:Mk K t.cM t.bR
 me_Split_kind:Meth K t.cM "kind" t.ut
 na_Split_name:bG K t.cM "name"
 na_Split_numbers:bG K t.cM "numbers"
 na_Split_ins:bG K t.cM "ins"
 na_Split_outs:bG K t.cM "outs"
 cP:Cls K t.bK
 mc_Net:mg "Net" =some (.ref t.bK)
 M_Net:Mk K t.bK t.pO
 qb:Meth K t.bK "lane_names" t.mU
 lW:Meth K t.bK "part_names" t.mV
 me_Net_odd:Meth K t.bK "odd" t.zr
 eU:Meth K t.bK "need_lane_name" t.iC
 me_Net_room_of:Meth K t.bK "room_of" t.rD
 me_Net_first_of:Meth K t.bK "first_of" t.pZ
 me_Net_giver_of:Meth K t.bK "giver_of" t.pU
 me_Net_taker_of:Meth K t.bK "taker_of" t.pC
 fu:bG K t.bK "rooms"
 qL:bG K t.bK "firsts"
 gn:bG K t.bK "parts"
 km:bG K t.bK "givers"
 kj:bG K t.bK "takers"
 mt_COUNTS:mg "COUNTS" =some (.ref t.nQ)
 t_COUNTS:KTab w K t.nQ ROWS
 n_all:mg "all" =none
 n_bool:mg "bool" =none
 n_dict:mg "dict" =none
 n_int:mg "int" =none
 dN:mg "isinstance" =none
 du:mg "len" =none
 zb:mg "list" =none
 n_max:mg "max" =none
 lV:mg "range" =none
 n_reversed:mg "reversed" =none
 n_sorted:mg "sorted" =none
 n_str:mg "str" =none
 n_sum:mg "sum" =none
 wN:mg "tuple" =none
 g_VALUES:∃u,mg "VALUES" =some u∧RelV (.int 1000000000) u
 g_LETTERS:∃u,mg "LETTERS" =some u∧RelV (.str "abcdefghijklmnopqrstuvwxyz") u
 g_LONGEST_NAME:∃u,mg "LONGEST_NAME" =some u∧RelV (.int 8) u
 g_FIGURES:∃u,mg "FIGURES" =some u∧RelV (.str "0123456789") u
 g_MOST_LANES:∃u,mg "MOST_LANES" =some u∧RelV (.int 24) u
 g_MOST_PARTS:∃u,mg "MOST_PARTS" =some u∧RelV (.int 16) u
 g_MOST_ROOM:∃u,mg "MOST_ROOM" =some u∧RelV (.int 199) u
section
variable {P:Program} {w:World} {K:PySem.W.Frag} {mg:Str→Option Value} {base:Heap} {t:Adr}
def fL (i:Nat):Str:=match i with
 | 0=> "give"
 | 1=> "take"
 | 2=> "pass"
 | 3=> "copy"
 | 4=> "turn"
 | 5=> "heap"
 | 6=> "add"
 | 7=> "less"
 | 8=> "order"
 | 9=> "choose"
 | _=> "split"
def cN (i:Nat):Nat:=match i with
 | 0=>0
 | 1=>0
 | 2=>0
 | 3=>0
 | 4=>2
 | 5=>1
 | 6=>0
 | 7=>0
 | 8=>0
 | 9=>0
 | _=>0
def cI (i:Nat):Nat:=match i with
 | 0=>0
 | 1=>1
 | 2=>1
 | 3=>1
 | 4=>1
 | 5=>1
 | 6=>2
 | 7=>2
 | 8=>2
 | 9=>3
 | _=>2
def cO (i:Nat):Nat:=match i with
 | 0=>1
 | 1=>0
 | 2=>1
 | 3=>2
 | 4=>1
 | 5=>1
 | 6=>1
 | 7=>1
 | 8=>2
 | 9=>1
 | _=>2
def cls (t:Adr) (i:Nat):Addr:=match i with
 | 0=>t.dI
 | 1=>t.dH
 | 2=>t.dD
 | 3=>t.dB
 | 4=>t.dF
 | 5=>t.dG
 | 6=>t.gw
 | 7=>t.dJ
 | 8=>t.cL
 | 9=>t.bZ
 | _=>t.cM
theorem row_of (i:Nat):rowOf ROWS (fL i)=some [((cN i:Nat):Int),((cI i:Nat):Int),((cO i:Nat):Int)]:=match i with
 | 0=>by show rowOf ROWS "give" =some [0,0,1];decide +kernel
 | 1=>by show rowOf ROWS "take" =some [0,1,0];decide +kernel
 | 2=>by show rowOf ROWS "pass" =some [0,1,1];decide +kernel
 | 3=>by show rowOf ROWS "copy" =some [0,1,2];decide +kernel
 | 4=>by show rowOf ROWS "turn" =some [2,1,1];decide +kernel
 | 5=>by show rowOf ROWS "heap" =some [1,1,1];decide +kernel
 | 6=>by show rowOf ROWS "add" =some [0,2,1];decide +kernel
 | 7=>by show rowOf ROWS "less" =some [0,2,1];decide +kernel
 | 8=>by show rowOf ROWS "order" =some [0,2,2];decide +kernel
 | 9=>by show rowOf ROWS "choose" =some [0,3,1];decide +kernel
 | n+10=>by show rowOf ROWS "split" =some [0,2,2];decide +kernel
theorem uf (T:Txt w K mg t) (i:Nat):Cls K (cls t i):=match i with
 | 0=>T.c_Give
 | 1=>T.c_Take
 | 2=>T.c_Pass
 | 3=>T.c_Copy
 | 4=>T.c_Turn
 | 5=>T.c_Heap
 | 6=>T.c_Add
 | 7=>T.c_Less
 | 8=>T.c_Order
 | 9=>T.c_Choose
 | n+10=>T.c_Split
theorem z9 (T:Txt w K mg t) (i:Nat):bG K (cls t i) "name" :=match i with
 | 0=>T.na_Give_name
 | 1=>T.na_Take_name
 | 2=>T.na_Pass_name
 | 3=>T.na_Copy_name
 | 4=>T.na_Turn_name
 | 5=>T.na_Heap_name
 | 6=>T.na_Add_name
 | 7=>T.na_Less_name
 | 8=>T.na_Order_name
 | 9=>T.na_Choose_name
 | n+10=>T.na_Split_name
theorem na_numbers (T:Txt w K mg t) (i:Nat):bG K (cls t i) "numbers" :=match i with
 | 0=>T.na_Give_numbers
 | 1=>T.na_Take_numbers
 | 2=>T.na_Pass_numbers
 | 3=>T.na_Copy_numbers
 | 4=>T.na_Turn_numbers
 | 5=>T.na_Heap_numbers
 | 6=>T.na_Add_numbers
 | 7=>T.na_Less_numbers
 | 8=>T.na_Order_numbers
 | 9=>T.na_Choose_numbers
 | n+10=>T.na_Split_numbers
theorem na_ins (T:Txt w K mg t) (i:Nat):bG K (cls t i) "ins" :=match i with
 | 0=>T.na_Give_ins
 | 1=>T.na_Take_ins
 | 2=>T.na_Pass_ins
 | 3=>T.na_Copy_ins
 | 4=>T.na_Turn_ins
 | 5=>T.na_Heap_ins
 | 6=>T.na_Add_ins
 | 7=>T.na_Less_ins
 | 8=>T.na_Order_ins
 | 9=>T.na_Choose_ins
 | n+10=>T.na_Split_ins
theorem na_outs (T:Txt w K mg t) (i:Nat):bG K (cls t i) "outs" :=match i with
 | 0=>T.na_Give_outs
 | 1=>T.na_Take_outs
 | 2=>T.na_Pass_outs
 | 3=>T.na_Copy_outs
 | 4=>T.na_Turn_outs
 | 5=>T.na_Heap_outs
 | 6=>T.na_Add_outs
 | 7=>T.na_Less_outs
 | 8=>T.na_Order_outs
 | 9=>T.na_Choose_outs
 | n+10=>T.na_Split_outs
theorem cN_le (i:Nat):cN i≤2:=match i with
 | 0=>by show 0≤2;decide
 | 1=>by show 0≤2;decide
 | 2=>by show 0≤2;decide
 | 3=>by show 0≤2;decide
 | 4=>by show 2≤2;decide
 | 5=>by show 1≤2;decide
 | 6=>by show 0≤2;decide
 | 7=>by show 0≤2;decide
 | 8=>by show 0≤2;decide
 | 9=>by show 0≤2;decide
 | n+10=>by show 0≤2;decide
theorem cI_le (i:Nat):cI i≤3:=match i with
 | 0=>by show 0≤3;decide
 | 1=>by show 1≤3;decide
 | 2=>by show 1≤3;decide
 | 3=>by show 1≤3;decide
 | 4=>by show 1≤3;decide
 | 5=>by show 1≤3;decide
 | 6=>by show 2≤3;decide
 | 7=>by show 2≤3;decide
 | 8=>by show 2≤3;decide
 | 9=>by show 3≤3;decide
 | n+10=>by show 2≤3;decide
theorem cO_le (i:Nat):cO i≤2:=match i with
 | 0=>by show 1≤2;decide
 | 1=>by show 0≤2;decide
 | 2=>by show 1≤2;decide
 | 3=>by show 2≤2;decide
 | 4=>by show 1≤2;decide
 | 5=>by show 1≤2;decide
 | 6=>by show 1≤2;decide
 | 7=>by show 1≤2;decide
 | 8=>by show 2≤2;decide
 | 9=>by show 1≤2;decide
 | n+10=>by show 2≤2;decide
theorem wQ {f:Str} {y:V} {fs:List (Str×V)} {n:Nat} (h:fs.length≤n):(bh f y fs).length≤n+1:=Nat.le_trans (u9 f y fs) (Nat.succ_le_succ h)
def flds (nm:V) (tn ti to:Addr):List (Str×V):=bh "outs" (.ref to) (bh "ins" (.ref ti) (bh "numbers" (.ref tn) (bh "name" nm [])))
theorem yV (nm:V) (tn ti to:Addr):(flds nm tn ti to).lookup ("name" :Str)=some nm:=by
 unfold flds
 rw [aN,if_neg (by decide +kernel),aN,if_neg (by decide +kernel),aN,if_neg (by decide +kernel),aN,if_pos rfl]
theorem flds_ins (nm:V) (tn ti to:Addr):(flds nm tn ti to).lookup ("ins" :Str)=some (.ref ti):=by
 unfold flds
 rw [aN,if_neg (by decide +kernel),aN,if_pos rfl]
theorem flds_outs (nm:V) (tn ti to:Addr):(flds nm tn ti to).lookup ("outs" :Str)=some (.ref to):=by
 unfold flds
 rw [aN,if_pos rfl]
theorem flds_no (nm:V) (tn ti to:Addr) {m:Str} (h1:¬m= "outs") (h2:¬m= "ins") (h3:¬m= "numbers") (h4:¬m= "name"):(flds nm tn ti to).lookup m=none:=by
 unfold flds
 rw [aN,if_neg h1,aN,if_neg h2,aN,if_neg h3,aN,if_neg h4]
 all_goals rfl
structure PartAt (K:PySem.W.Frag) (t:Adr) (H:Hp) (p:Addr) (i:Nat) (nm:V) (ns is os:List V):Prop where
 ex:∃dx tn ti to,H p=some (.ins (cls t i) dx (flds nm tn ti to))∧SqT K H tn ns∧SqT K H ti is∧SqT K H to os
theorem PartAt.same {H H':Hp} {p:Addr} {i:Nat} {nm:V} {ns is os:List V} (h:PartAt K t H p i nm ns is os) (s:aW H H'):PartAt K t H' p i nm ns is os:=by
 obtain⟨dx,tn,ti,to,h1,h2,h3,h4⟩:=h
 exact⟨dx,tn,ti,to,s _ _ h1,s.seqT h2,s.seqT h3,s.seqT h4⟩
def iQ (i:Nat):Sp:=fun vs H Q _=>∃x,vs=[x]∧Q (.str (fL i)) H
def nV (j:Nat):V:=.int (j:Nat)
def Val (v:V):Prop:=∃n:Int,v=.int n∧0≤n∧n <1000000000
inductive Flat:PyData→Prop
 | non:Flat .none
 | int (i:Int):Flat (.int i)
def cg (a b:Int):Int:=((((a % 2147483647 * 48271+7919 * b+11) % 2147483647) * ((a % 2147483647 * 48271+7919 * b+11) % 2147483647) % 2147483629+613 * b) * (((a % 2147483647 * 48271+7919 * b+11) % 2147483647) * ((a % 2147483647 * 48271+7919 * b+11) % 2147483647) % 2147483629)) % 2147483587
theorem zP (a b:Int):0≤cg a b:=Int.emod_nonneg _ (by decide)
def oJ (ns:List Int) (j:Nat):Int:=(ns[j]?).getD (41 * (j:Int)+3)
def rF (a b:Int):Int:=if cg a b / 7 % 3=0 then cg a b % 5 else if cg a b / 7 % 3=1 then cg a b % 10 ^ 9 else 10 ^ 9 - 1 - cg a b % 3
theorem rW (a b:Int):0≤rF a b∧rF a b <1000000000:=by
 unfold rF
 have h0:=zP a b
 generalize cg a b=n at h0
 split
 ·omega
 ·split
  ·have h1:=Int.emod_lt_of_pos n (show(0:Int) <10 ^ 9 by decide)
   have h2:=Int.emod_nonneg n (show(10:Int) ^ 9≠0 by decide)
   exact⟨h2,h1⟩
  ·have h1:=Int.emod_lt_of_pos n (show(0:Int) <3 by decide)
   have h2:=Int.emod_nonneg n (show(3:Int)≠0 by decide)
   have e:(10:Int) ^ 9=1000000000:=by decide
   rw [e]
   omega
def low (c:Nat):Bool:=decide (97≤c) && decide (c≤122)
def fig (c:Nat):Bool:=decide (48≤c) && decide (c≤57)
def nameB (x:Str):Bool:=match x.cps.toList with
 | []=>false
 | c:: r=>decide (r.length≤7) && (low c && (c:: r).all fun d=>low d || fig d)
theorem oW (x:Str):x.cps.toList.length=x.length:=by simp [Str.length]
theorem Bj:∀(ws:List Str),(Str.join Str.empty ws).cps.toList=(ws.map fun w=>w.cps.toList).flatten
 | []=>rfl
 | [w]=>by simp [Str.join]
 | w:: v:: r=>by
  have ih:=Bj (v:: r)
  show(w.cps ++ #[] ++ (Str.join Str.empty (v:: r)).cps).toList=_
  rw [Array.toList_append,ih]
  simp
theorem sum_le {n:Nat}:∀(ws:List Str),(∀w∈ws,w.length≤n)→(ws.map (·.length)).sum≤ws.length * n
 | [],_=>by simp
 | w:: r,h=>by
  have h1:=h w (by simp)
  have h2:=sum_le r fun v hv=>h v (by simp [hv])
  simp only [List.map_cons,List.sum_cons,List.length_cons,Nat.add_mul]
  omega
def ltc (n:Int):Nat:=97+(n % 26).toNat
theorem ltc_low (n:Int):low (ltc n)=true:=by
 unfold low ltc
 have h0:=Int.emod_nonneg n (show(26:Int)≠0 by decide)
 have h1:=Int.emod_lt_of_pos n (show(0:Int) <26 by decide)
 simp
 omega
abbrev LT:Str:= "abcdefghijklmnopqrstuvwxyz"
theorem lt_len:LT.length=26:=by decide +kernel
theorem lt_codes:LT.cps.toList=List.range' 97 26:=by decide +kernel
theorem lt_at (n:Int):atI LT.cps.toList (n % 26)=some (ltc n):=by
 have h0:=Int.emod_nonneg n (show(26:Int)≠0 by decide)
 have h1:=Int.emod_lt_of_pos n (show(0:Int) <26 by decide)
 obtain⟨j,hj⟩:∃j:Nat,n % 26=(j:Int):=⟨(n % 26).toNat,by omega⟩
 unfold ltc
 rw [hj,lt_codes]
 exact aK (by rw [List.getElem?_range' (by omega)];simp)
def gj (a:Int):List Nat:=(List.range (cg a 50 % 7).toNat).map fun j=>ltc (cg a (60+(j:Nat)))
def qy (a:Int):Nat:=(cg a 51 % (cg a 50 % 7+1)).toNat
def numC (n:Nat):List Nat:=(toString (Int.ofNat n):Str).cps.toList
def zy (a:Int) (k:Nat):List Nat:=if cg a 52 % 3=0 then ltc (cg a 53):: numC (cg a 54 % 1000+37 * (k:Int)).toNat else(gj a).take (qy a) ++ ltc (cg a 55+k):: (gj a).drop (qy a)
def cG (a:Int) (k:Nat):Str:=⟨(zy a k).toArray⟩
def undig (l:List Nat):Nat:=l.foldl (fun r c=>10 * r+(c - 48)) 0
theorem num_tab:(List.range 2000).all (fun i=>(numC i).all fig && decide ((numC i).length≤4) && decide (undig (numC i)=i))=true:=by decide +kernel
theorem wB {n:Nat} (h:n <2000):(numC n).all fig=true∧(numC n).length≤4∧undig (numC n)=n:=by
 have z:=List.all_eq_true.mp num_tab n (List.mem_range.mpr h)
 simp only [Bool.and_eq_true,decide_eq_true_eq] at z
 exact⟨z.1.1,z.1.2,z.2⟩
theorem Ba (a:Int):(gj a).length≤6∧((gj a).length:Int)=cg a 50 % 7:=by
 unfold gj
 have h0:=Int.emod_nonneg (cg a 50) (show(7:Int)≠0 by decide)
 have h1:=Int.emod_lt_of_pos (cg a 50) (show(0:Int) <7 by decide)
 rw [lM,List.length_range]
 omega
theorem spot_le (a:Int):qy a≤(gj a).length:=by
 have h:=(Ba a).2
 unfold qy
 have h0:=Int.emod_nonneg (cg a 50) (show(7:Int)≠0 by decide)
 have h1:=Int.emod_lt_of_pos (cg a 51) (show(0:Int) <cg a 50 % 7+1 by omega)
 have h2:=Int.emod_nonneg (cg a 51) (show cg a 50 % 7+1≠0 by omega)
 omega
theorem Bd {x:Str} {c:Nat} {r:List Nat} (e:x.cps.toList=c:: r) (h:r.length≤7) (hc:low c=true) (ha:∀d∈r,low d=true∨fig d=true):nameB x=true:=by
 unfold nameB
 rw [e]
 simp only [Bool.and_eq_true,decide_eq_true_eq,List.all_eq_true,Bool.or_eq_true]
 refine⟨h,hc,fun d hd=>?_⟩
 rcases List.mem_cons.mp hd with rfl | hd
 ·exact .inl hc
 ·exact ha d hd
theorem Bh (a:Int) (k:Nat):(cG a k).cps.toList=zy a k:=by simp [cG]
theorem word_ok (a:Int) {k:Nat} (hk:k <26):nameB (cG a k)=true:=by
 have h0:=Int.emod_nonneg (cg a 54) (show(1000:Int)≠0 by decide)
 have h1:=Int.emod_lt_of_pos (cg a 54) (show(0:Int) <1000 by decide)
 have e:=Bh a k
 unfold zy at e
 split at e
 ·obtain⟨n1,n2,_⟩:=wB (n:=(cg a 54 % 1000+37 * (k:Int)).toNat) (by omega)
  exact Bd e (by omega) (ltc_low _) fun c hc=>.inr (List.all_eq_true.mp n1 c hc)
 ·have b1:=(Ba a).1
  have b2:=spot_le a
  have all:∀c∈(gj a).take (qy a) ++ ltc (cg a 55+k):: (gj a).drop (qy a),low c=true:=fun c hc=>by
   have hb:∀c∈gj a,low c=true:=fun c hc=>by
    unfold gj at hc
    obtain⟨j,_,rfl⟩:=List.mem_map.mp hc
    exact ltc_low _
   rcases List.mem_append.mp hc with h | h
   ·exact hb c (List.mem_of_mem_take h)
   ·rcases List.mem_cons.mp h with rfl | h
    ·exact ltc_low _
    ·exact hb c (List.mem_of_mem_drop h)
  have len:((gj a).take (qy a) ++ ltc (cg a 55+k):: (gj a).drop (qy a)).length≤7:=by
   rw [lP,List.length_take,List.length_cons,List.length_drop]
   omega
  have ne:(gj a).take (qy a) ++ ltc (cg a 55+k):: (gj a).drop (qy a)≠[]:=by simp
  generalize (gj a).take (qy a) ++ ltc (cg a 55+k):: (gj a).drop (qy a)=l at all len ne e
  obtain⟨c,r,rfl⟩:=List.exists_cons_of_ne_nil ne
  rw [List.length_cons] at len
  exact Bd e (by omega) (all c List.mem_cons_self) fun d hd=>.inl (all d (List.mem_cons_of_mem _ hd))
theorem word_inj (a:Int) {j k:Nat} (hj:j <26) (hk:k <26) (h:cG a j=cG a k):j=k:=by
 have e:zy a j=zy a k:=by
  have:=congrArg (fun s:Str=>s.cps.toList) h
  simpa [cG] using this
 unfold zy at e
 split at e
 ·have h0:=Int.emod_nonneg (cg a 54) (show(1000:Int)≠0 by decide)
  have h1:=Int.emod_lt_of_pos (cg a 54) (show(0:Int) <1000 by decide)
  have e2:=congrArg undig (List.cons.inj e).2
  rw [(wB (by omega)).2.2,(wB (by omega)).2.2] at e2
  omega
 ·have e2:=(List.cons.inj (List.append_cancel_left e)).1
  unfold ltc at e2
  omega
namespace Drawn
variable {S:Type}
structure PartD (S:Type) where
 kind:Nat
 name:S
 nums:List Int
 ins:List S
 outs:List S
structure NS (S:Type) where
 lanes:List S
 parts:List (PartD S)
 opens:List S
 back:List S
inductive Conn (ps:List (PartD S)):S→S→Prop
 | refl (x:S):Conn ps x x
 | step {x y z:S} {p:PartD S}:p∈ps→x∈p.ins ++ p.outs→y∈p.ins ++ p.outs→Conn ps y z→Conn ps x z
theorem Conn.trans {ps:List (PartD S)} {x y z:S} (h:Conn ps x y) (k:Conn ps y z):Conn ps x z:=by
 induction h with
 | refl _=>exact k
 | step hp hx hy _ ih=>exact .step hp hx hy (ih k)
theorem Conn.symm {ps:List (PartD S)} {x y:S} (h:Conn ps x y):Conn ps y x:=by
 induction h with
 | refl _=>exact .refl _
 | step hp hx hy _ ih=>exact ih.trans (.step hp hy hx (.refl _))
theorem Conn.mono {ps qs:List (PartD S)} (hs:∀p∈ps,p∈qs) {x y:S} (h:Conn ps x y):Conn qs x y:=by
 induction h with
 | refl _=>exact .refl _
 | step hp hx hy _ ih=>exact .step (hs _ hp) hx hy ih
theorem Conn.part {ps:List (PartD S)} {p:PartD S} (hp:p∈ps) {x y:S} (hx:x∈p.ins ++ p.outs) (hy:y∈p.ins ++ p.outs):Conn ps x y:=.step hp hx hy (.refl _)
structure WF (ns:NS S):Prop where
 nod:ns.lanes.Nodup
 outs:((ns.parts.flatMap (·.outs)) ++ ns.back).Perm ns.lanes
 ins:((ns.parts.flatMap (·.ins)) ++ ns.opens).Perm ns.lanes
 hang:∀p∈ns.parts,∃x∈p.ins ++ p.outs,∃o∈ns.opens,Conn ns.parts x o
 touch:∀p∈ns.parts,p.ins ++ p.outs≠[]
theorem WF.add {ns:NS S} (w:WF ns) {p:PartD S} {newl opens' back':List S} (hn:(ns.lanes ++ newl).Nodup) (ho:(p.outs ++ back').Perm (ns.back ++ newl)) (hi:(p.ins ++ opens').Perm (ns.opens ++ newl))
  (hg:∀o∈ns.opens,∃o'∈opens',Conn (ns.parts ++ [p]) o o') (hp:∃x∈p.ins ++ p.outs,∃o∈opens',Conn (ns.parts ++ [p]) x o):
  WF { lanes:=ns.lanes ++ newl,parts:=ns.parts ++ [p],opens:=opens',back:=back' }:=by
 have mono:∀q∈ns.parts,q∈ns.parts ++ [p]:=fun q hq=>List.mem_append.mpr (.inl hq)
 refine⟨hn,?_,?_,?_,?_⟩
 ·have e:(ns.parts ++ [p]).flatMap (·.outs)=ns.parts.flatMap (·.outs) ++ p.outs:=by simp
  show(((ns.parts ++ [p]).flatMap (·.outs)) ++ back').Perm _
  rw [e,List.append_assoc]
  exact(ho.append_left _).trans (by rw [←List.append_assoc];exact w.outs.append_right _)
 ·have e:(ns.parts ++ [p]).flatMap (·.ins)=ns.parts.flatMap (·.ins) ++ p.ins:=by simp
  show(((ns.parts ++ [p]).flatMap (·.ins)) ++ opens').Perm _
  rw [e,List.append_assoc]
  exact(hi.append_left _).trans (by rw [←List.append_assoc];exact w.ins.append_right _)
 ·intro q hq
  rcases List.mem_append.mp hq with h | h
  ·obtain⟨x,hx,o,hoq,c⟩:=w.hang q h
   obtain⟨o',ho',c'⟩:=hg o hoq
   exact⟨x,hx,o',ho',(c.mono mono).trans c'⟩
  ·rw [List.mem_singleton] at h
   subst h
   exact hp
 ·intro q hq
  rcases List.mem_append.mp hq with h | h
  ·exact w.touch q h
  ·rw [List.mem_singleton] at h
   subst h
   obtain⟨x,hx,_⟩:=hp
   intro z
   rw [z] at hx
   cases hx
theorem WF.start:WF (⟨[],[],[],[]⟩:NS S):=⟨List.nodup_nil,.refl _,.refl _,fun p hp=>(by cases hp),fun p hp=>(by cases hp)⟩
theorem WF.backLane {ns:NS S} (w:WF ns) {b:S} (hn:(ns.lanes ++ [b]).Nodup):WF { ns with lanes:=ns.lanes ++ [b],opens:=ns.opens ++ [b],back:=ns.back ++ [b] }:=by
 refine⟨hn,?_,?_,fun p hp=>?_,w.touch⟩
 ·show(_ ++ (ns.back ++ [b])).Perm _
  rw [←List.append_assoc]
  exact w.outs.append_right _
 ·show(_ ++ (ns.opens ++ [b])).Perm _
  rw [←List.append_assoc]
  exact w.ins.append_right _
 ·obtain⟨x,hx,o,ho,c⟩:=w.hang p hp
  exact⟨x,hx,o,List.mem_append.mpr (.inl ho),c⟩
theorem WF.part {ns:NS S} (w:WF ns) {p:PartD S} {rest:List S} (hi:ns.opens.Perm (p.ins ++ rest)) (hf:(ns.lanes ++ p.outs).Nodup) (ho:p.outs≠[]):
  WF { ns with lanes:=ns.lanes ++ p.outs,parts:=ns.parts ++ [p],opens:=rest ++ p.outs }:=by
 have hp:p∈ns.parts ++ [p]:=by simp
 obtain⟨o1,hoo⟩:∃o1,o1∈p.outs:=List.exists_mem_of_ne_nil _ ho
 have h1:o1∈rest ++ p.outs:=List.mem_append.mpr (.inr hoo)
 refine w.add hf List.perm_append_comm ?_ (fun o h=>?_) ⟨o1,List.mem_append.mpr (.inr hoo),o1,h1,.refl _⟩
 ·rw [←List.append_assoc]
  exact hi.symm.append_right _
 ·rcases List.mem_append.mp (hi.mem_iff.mp h) with h | h
  ·exact⟨o1,h1,Conn.part hp (List.mem_append.mpr (.inl h)) (List.mem_append.mpr (.inr hoo))⟩
  ·exact⟨o,List.mem_append.mpr (.inl h),.refl _⟩
theorem WF.take {ns:NS S} (w:WF ns) {p:PartD S} {rest:List S} {y x:S} (hi:p.ins=[y]) (ho:p.outs=[]) (hr:ns.opens.Perm (y:: rest)) (hx:x∈rest) (c:Conn ns.parts y x):
  WF { ns with parts:=ns.parts ++ [p],opens:=rest }:=by
 have mono:∀q∈ns.parts,q∈ns.parts ++ [p]:=fun q hq=>List.mem_append.mpr (.inl hq)
 have:=w.add (p:=p) (newl:=[]) (opens':=rest) (back':=ns.back) (by rw [List.append_nil];exact w.nod) (by rw [ho,List.append_nil];exact .refl _) (by rw [hi,List.append_nil];exact hr.symm)
  (fun o h=>by
   rcases List.mem_cons.mp (hr.mem_iff.mp h) with rfl | h
   ·exact⟨x,hx,c.mono mono⟩
   ·exact⟨o,h,.refl _⟩) ⟨y,by simp [hi],x,hx,c.mono mono⟩
 rw [List.append_nil] at this
 exact this
theorem WF.loop {ns:NS S} (w:WF ns) {p:PartD S} {rest:List S} {one own fresh:S} (hi:p.ins=[one,own]) (ho:p.outs=[own,fresh]) (hr:ns.opens.Perm (one:: rest)) (hn:(ns.lanes ++ [own,fresh]).Nodup):
  WF { ns with lanes:=ns.lanes ++ [own,fresh],parts:=ns.parts ++ [p],opens:=rest ++ [fresh] }:=by
 have hp:p∈ns.parts ++ [p]:=by simp
 have hf:fresh∈rest ++ [fresh]:=by simp
 refine w.add hn (by rw [ho];exact List.perm_append_comm) ?_ (fun o h=>?_) ⟨fresh,by simp [ho],fresh,hf,.refl _⟩
 ·rw [hi]
  show(one:: own:: (rest ++ [fresh])).Perm (ns.opens ++ [own,fresh])
  refine .trans ?_ (hr.symm.append_right _)
  refine .cons _ ?_
  show(own:: (rest ++ [fresh])).Perm (rest ++ ([own] ++ [fresh]))
  rw [←List.append_assoc]
  exact(List.perm_append_comm (l₁:=[own]) (l₂:=rest)).append_right [fresh]
 ·rcases List.mem_cons.mp (hr.mem_iff.mp h) with rfl | h
  ·exact⟨fresh,hf,Conn.part hp (by simp [hi]) (by simp [ho])⟩
  ·exact⟨o,List.mem_append.mpr (.inl h),.refl _⟩
theorem WF.closeBack {ns:NS S} (w:WF ns) {p:PartD S} {rest:List S} {one b fresh:S} (hi:p.ins=[one]) (ho:p.outs=[b,fresh]) (hb:ns.back.Perm (b:: rest)) (h1:ns.opens=[one]) (hn:(ns.lanes ++ [fresh]).Nodup):
  WF { lanes:=ns.lanes ++ [fresh],parts:=ns.parts ++ [p],opens:=[fresh],back:=rest }:=by
 have hp:p∈ns.parts ++ [p]:=by simp
 refine w.add hn ?_ (by rw [hi,h1]) (fun o h=>?_) ⟨fresh,by simp [ho],fresh,by simp,.refl _⟩
 ·rw [ho]
  show(b:: fresh:: rest).Perm (ns.back ++ [fresh])
  refine .trans ?_ (hb.symm.append_right _)
  exact .cons _ (List.perm_append_comm (l₁:=[fresh]) (l₂:=rest))
 ·rw [h1,List.mem_singleton] at h
  subst h
  exact⟨fresh,by simp,Conn.part hp (by simp [hi]) (by simp [ho])⟩
theorem WF.last {ns:NS S} (w:WF ns) {p:PartD S} {y:S} (hb:ns.back=[]) (h1:ns.opens=[y]) (hi:p.ins=[y]) (ho:p.outs=[]):
  ((ns.parts ++ [p]).flatMap (·.outs)).Perm ns.lanes∧((ns.parts ++ [p]).flatMap (·.ins)).Perm ns.lanes∧∀q∈ns.parts ++ [p],∃x∈q.ins ++ q.outs,Conn (ns.parts ++ [p]) x y:=by
 have mono:∀q∈ns.parts,q∈ns.parts ++ [p]:=fun q hq=>List.mem_append.mpr (.inl hq)
 refine⟨?_,?_,?_⟩
 ·have e:(ns.parts ++ [p]).flatMap (·.outs)=ns.parts.flatMap (·.outs):=by simp [ho]
  rw [e]
  have:=w.outs
  rw [hb,List.append_nil] at this
  exact this
 ·have e:(ns.parts ++ [p]).flatMap (·.ins)=ns.parts.flatMap (·.ins) ++ [y]:=by simp [hi]
  rw [e]
  have:=w.ins
  rw [h1] at this
  exact this
 ·intro q hq
  rcases List.mem_append.mp hq with h | h
  ·obtain⟨x,hx,o,hoq,c⟩:=w.hang q h
   rw [h1,List.mem_singleton] at hoq
   subst hoq
   exact⟨x,hx,c.mono mono⟩
  ·rw [List.mem_singleton] at h
   subst h
   exact⟨y,by simp [hi],.refl _⟩
theorem Ay {ps:List (PartD S)} {J:PartD S→Prop} (closed:∀(l:S) (p q:PartD S),p∈ps→q∈ps→l∈p.ins ++ p.outs→l∈q.ins ++ q.outs→J p→J q) {y:S} (hang:∀q∈ps,∃x∈q.ins ++ q.outs,Conn ps x y)
  {p0:PartD S} (hp0:p0∈ps) (h0:J p0):∀q∈ps,J q:=by
 have go:∀{x z:S},Conn ps x z→(∃p∈ps,x∈p.ins ++ p.outs∧J p)→∃p∈ps,z∈p.ins ++ p.outs∧J p:=by
  intro x z c
  induction c with
  | refl _=>exact id
  | step hp hx hy _ ih=>
   rintro⟨p',hp',hx',hJ⟩
   exact ih ⟨_,hp,hy,closed _ _ _ hp' hp hx' hx hJ⟩
 obtain⟨x0,hx0,c0⟩:=hang p0 hp0
 have hy:=go c0 ⟨p0,hp0,hx0,h0⟩
 intro q hq
 obtain⟨x,hx,c⟩:=hang q hq
 obtain⟨p',hp',hx',hJ⟩:=go c.symm hy
 exact closed _ _ _ hp' hq hx' hx hJ
theorem one_giver {ps:List (PartD S)} (f:PartD S→List S) (h:(ps.flatMap f).Nodup) {i j:Nat} {p q:PartD S} {l:S} (hi:ps[i]?=some p) (hj:ps[j]?=some q) (hp:l∈f p) (hq:l∈f q):i=j:=by
 induction ps generalizing i j with
 | nil=>cases hi
 | cons r rs ih=>
  rw [List.flatMap_cons,List.nodup_append] at h
  obtain⟨h1,h2,h3⟩:=h
  have far:∀{k:Nat} {s:PartD S},rs[k]?=some s→l∈f s→l∈rs.flatMap f:=fun e hs=>List.mem_flatMap.mpr ⟨_,List.mem_of_getElem? e,hs⟩
  match i,j with
  | 0,0=>rfl
  | 0,j+1=>
   simp only [List.getElem?_cons_zero,Option.some.injEq] at hi
   subst hi
   exact absurd rfl (h3 l hp l (far (by simpa using hj) hq))
  | i+1,0=>
   simp only [List.getElem?_cons_zero,Option.some.injEq] at hj
   subst hj
   exact absurd rfl (h3 l hq l (far (by simpa using hi) hp))
  | i+1,j+1=>exact congrArg (· +1) (ih h2 (by simpa using hi) (by simpa using hj))
end Drawn
structure LaneD where
 name:Str
 room:Int
 first:List Int
def LaneD.ok (l:LaneD):Prop:=1≤l.room∧l.room≤10∧(l.first.length:Int)≤l.room∧∀v∈l.first,0≤v∧v <1000000000
abbrev PD:=Drawn.PartD Str
def PartOk (p:PD):Prop:=p.kind <11∧p.nums.length=cN p.kind∧p.ins.length=cI p.kind∧p.outs.length=cO p.kind∧∀v∈p.nums,0≤v∧v <1000000000
def bj (E:List Addr) (H:Hp):Hp:=fun b=>if b∈E then none else H b
theorem bQ {E:List Addr} {H:Hp}:aW (bj E H) H:=fun b o e=>by
 unfold bj at e
 split at e
 ·cases e
 ·exact e
theorem dw {E:List Addr} {H:Hp} {p:Addr} {o:HO} (h:H p=some o) (n:p∉E):bj E H p=some o:=by
 unfold bj
 rw [if_neg n]
 exact h
theorem cj {E:List Addr} {H:Hp} {a:Addr} {o:HO} (h:a∈E):bj E (upd H a o)=bj E H:=by
 funext b
 unfold bj
 split
 ·rfl
 ·rename_i n
  rw [aM (fun z=>n (by rw [z];exact h))]
theorem By {E:List Addr} {H H':Hp} (s:aW H H') (hE:∀a∈E,∃o,H a=some o):aW (bj E H) (bj E H'):=fun b o e=>by
 have e':=bQ b o e
 unfold bj at e ⊢
 split at e
 ·cases e
 ·rename_i n
  rw [if_neg n]
  exact s _ _ e'
inductive All2 {α β:Type} (R:α→β→Prop):List α→List β→Prop
 | nil:All2 R [] []
 | cons {a:α} {b:β} {l:List α} {m:List β}:R a b→All2 R l m→All2 R (a:: l) (b:: m)
theorem All2.imp {α β:Type} {R R':α→β→Prop} (h:∀a b,R a b→R' a b):∀{l:List α} {m:List β},All2 R l m→All2 R' l m
 | _,_,.nil=>.nil
 | _,_,.cons r t=>.cons (h _ _ r) (t.imp h)
theorem All2.length {α β:Type} {R:α→β→Prop}:∀{l:List α} {m:List β},All2 R l m→l.length=m.length
 | _,_,.nil=>rfl
 | _,_,.cons _ t=>by rw [List.length_cons,List.length_cons,t.length]
theorem All2.app {α β:Type} {R:α→β→Prop}:∀{l l':List α} {m m':List β},All2 R l m→All2 R l' m'→All2 R (l ++ l') (m ++ m')
 | _,_,_,_,.nil,h=>h
 | _,_,_,_,.cons r t,h=>.cons r (t.app h)
theorem All2.get {α β:Type} {R:α→β→Prop}:∀{l:List α} {m:List β},All2 R l m→∀{i:Nat} {a:α},l[i]?=some a→∃b,m[i]?=some b∧R a b
 | _,_,.nil,_,_,h=>by simp at h
 | _,_,.cons r t,0,_,h=>by
  simp only [List.getElem?_cons_zero,Option.some.injEq] at h
  subst h
  exact⟨_,rfl,r⟩
 | _,_,.cons r t,i+1,_,h=>t.get (i:=i) (by simpa using h)
theorem All2.take {α β:Type} {R:α→β→Prop}:∀{l:List α} {m:List β},All2 R l m→∀n:Nat,All2 R (l.take n) (m.take n)
 | _,_,.nil,_=>by simp;exact .nil
 | _,_,.cons r t,0=>by simp;exact .nil
 | _,_,.cons r t,n+1=>by simp;exact .cons r (t.take n)
theorem All2.drop {α β:Type} {R:α→β→Prop}:∀{l:List α} {m:List β},All2 R l m→∀n:Nat,All2 R (l.drop n) (m.drop n)
 | _,_,.nil,_=>by simp;exact .nil
 | _,_,.cons r t,0=>.cons r t
 | _,_,.cons r t,n+1=>by simp;exact t.drop n
def xq (G:Hp) (v:V) (l:LaneD):Prop:=∃q f,v=.ref q∧G q=some (.tup [.str l.name,.int l.room,.ref f])∧G f=some (.lst (l.first.map V.int))
def Be (G:Hp) (v:V) (p:PD):Prop:=∃q a1 a2 a3,v=.ref q∧G q=some (.tup [.str (fL p.kind),.str p.name,.ref a1,.ref a2,.ref a3])∧G a1=some (.lst (p.nums.map V.int))∧G a2=some (.lst (p.ins.map V.str))∧G a3=some (.lst (p.outs.map V.str))
theorem xq.same {G G':Hp} {v:V} {l:LaneD} (h:xq G v l) (s:aW G G'):xq G' v l:=by
 obtain⟨q,f,e,h1,h2⟩:=h
 exact⟨q,f,e,s _ _ h1,s _ _ h2⟩
theorem Be.same {G G':Hp} {v:V} {p:PD} (h:Be G v p) (s:aW G G'):Be G' v p:=by
 obtain⟨q,a1,a2,a3,e,h1,h2,h3,h4⟩:=h
 exact⟨q,a1,a2,a3,e,s _ _ h1,s _ _ h2,s _ _ h3,s _ _ h4⟩
structure Dw where
 S:Addr
 L:Addr
 P:Addr
 O:Addr
 c3:Int
 c4:Int
abbrev Dw.E (d:Dw):List Addr:=[d.L,d.P,d.O]
structure DAt (d:Dw) (H:Hp) (ls:List LaneD) (ps:List PD) (os:List Str):Prop where
 top:bj d.E H d.S=some (.lst [.ref d.L,.ref d.P,.ref d.O,.int d.c3,.int d.c4])
 lanes:∃xs,H d.L=some (.lst xs)∧All2 (xq (bj d.E H)) xs ls
 parts:∃xs,H d.P=some (.lst xs)∧All2 (Be (bj d.E H)) xs ps
 opens:H d.O=some (.lst (os.map V.str))
 ne:d.L≠d.P∧d.L≠d.O∧d.P≠d.O
 lok:∀l∈ls,l.ok
 pok:∀p∈ps,PartOk p
 ln:ls.map (·.name)=(List.range ls.length).map (cG d.c3)
 pn:ps.map (·.name)=(List.range ps.length).map (cG d.c4)
theorem DAt.seqS {d:Dw} {H:Hp} {ls:List LaneD} {ps:List PD} {os:List Str} (D:DAt d H ls ps os):SqL K H d.S [.ref d.L,.ref d.P,.ref d.O,.int d.c3,.int d.c4]:=SqL.of (bQ _ _ D.top)
theorem DAt.has {d:Dw} {H:Hp} {ls:List LaneD} {ps:List PD} {os:List Str} (D:DAt d H ls ps os) {a:Addr} (h:a∈d.E):∃o,H a=some o:=by
 obtain⟨_,e1,_⟩:=D.lanes
 obtain⟨_,e2,_⟩:=D.parts
 rcases List.mem_cons.mp h with rfl | h
 ·exact⟨_,e1⟩
 ·rcases List.mem_cons.mp h with rfl | h
  ·exact⟨_,e2⟩
  ·rw [List.mem_singleton] at h
   subst h
   exact⟨_,D.opens⟩
theorem DAt.out {d:Dw} {H:Hp} {ls:List LaneD} {ps:List PD} {os:List Str} (D:DAt d H ls ps os) {p:Addr} (h:H p=none):p∉d.E:=fun z=>by
 obtain⟨o,e⟩:=D.has z
 rw [h] at e
 cases e
theorem DAt.keep {d:Dw} {H H':Hp} {ls:List LaneD} {ps:List PD} {os:List Str} (D:DAt d H ls ps os) (s:aW H H'):DAt d H' ls ps os:=by
 obtain⟨xs,e1,a1⟩:=D.lanes
 obtain⟨ys,e2,a2⟩:=D.parts
 have c:=By (E:=d.E) s (fun a h=>D.has h)
 exact⟨c _ _ D.top,⟨xs,s _ _ e1,a1.imp fun _ _ h=>h.same c⟩,⟨ys,s _ _ e2,a2.imp fun _ _ h=>h.same c⟩,s _ _ D.opens,D.ne,D.lok,D.pok,D.ln,D.pn⟩
theorem DAt.cut {d:Dw} {H H':Hp} {ls:List LaneD} {ps:List PD} {os:List Str} (D:DAt d H ls ps os) (s:aW H H'):aW (bj d.E H) (bj d.E H'):=By s (fun _ h=>D.has h)
theorem name_next {α:Type} {f:α→Str} {w:Nat→Str} {l:List α} {x:α} (h:l.map f=(List.range l.length).map w) (hx:f x=w l.length):(l ++ [x]).map f=(List.range (l ++ [x]).length).map w:=by
 rw [List.map_append,lP,List.length_singleton,List.range_succ,List.map_append,h,List.map_singleton,List.map_singleton,hx]
theorem DAt.lane {d:Dw} {H:Hp} {ls:List LaneD} {ps:List PD} {os:List Str} (D:DAt d H ls ps os) {v:V} {l:LaneD} (h:xq (bj d.E H) v l) (hl:l.ok) (hn:l.name=cG d.c3 ls.length) {xs:List V} (e:H d.L=some (.lst xs)):
  DAt d (upd H d.L (.lst (xs ++ [v]))) (ls ++ [l]) ps os:=by
 obtain⟨xs',e1,a1⟩:=D.lanes
 obtain⟨ys,e2,a2⟩:=D.parts
 rw [e] at e1
 cases e1
 have c:bj d.E (upd H d.L (.lst (xs ++ [v])))=bj d.E H:=cj (by simp)
 refine⟨by rw [c];exact D.top,⟨_,aA,by rw [c];exact a1.app (.cons h .nil)⟩,⟨ys,by rw [aM (Ne.symm D.ne.1)];exact e2,by rw [c];exact a2⟩,by rw [aM (Ne.symm D.ne.2.1)];exact D.opens,D.ne,fun x hx=>?_,D.pok,name_next D.ln hn,D.pn⟩
 rcases List.mem_append.mp hx with hx | hx
 ·exact D.lok x hx
 ·rw [List.mem_singleton] at hx
  subst hx
  exact hl
theorem DAt.part {d:Dw} {H:Hp} {ls:List LaneD} {ps:List PD} {os:List Str} (D:DAt d H ls ps os) {v:V} {p:PD} (h:Be (bj d.E H) v p) (hl:PartOk p) (hn:p.name=cG d.c4 ps.length) {xs:List V} (e:H d.P=some (.lst xs)):
  DAt d (upd H d.P (.lst (xs ++ [v]))) ls (ps ++ [p]) os:=by
 obtain⟨xs',e1,a1⟩:=D.lanes
 obtain⟨ys,e2,a2⟩:=D.parts
 rw [e] at e2
 cases e2
 have c:bj d.E (upd H d.P (.lst (xs ++ [v])))=bj d.E H:=cj (by simp)
 refine⟨by rw [c];exact D.top,⟨_,by rw [aM D.ne.1];exact e1,by rw [c];exact a1⟩,⟨_,aA,by rw [c];exact a2.app (.cons h .nil)⟩,by rw [aM (Ne.symm D.ne.2.2)];exact D.opens,D.ne,D.lok,fun x hx=>?_,D.ln,name_next D.pn hn⟩
 rcases List.mem_append.mp hx with hx | hx
 ·exact D.pok x hx
 ·rw [List.mem_singleton] at hx
  subst hx
  exact hl
theorem DAt.open {d:Dw} {H:Hp} {ls:List LaneD} {ps:List PD} {os os':List Str} (D:DAt d H ls ps os):DAt d (upd H d.O (.lst (os'.map V.str))) ls ps os':=by
 obtain⟨xs,e1,a1⟩:=D.lanes
 obtain⟨ys,e2,a2⟩:=D.parts
 have c:bj d.E (upd H d.O (.lst (os'.map V.str)))=bj d.E H:=cj (by simp)
 exact⟨by rw [c];exact D.top,⟨xs,by rw [aM D.ne.2.1];exact e1,by rw [c];exact a1⟩,⟨ys,by rw [aM D.ne.2.2];exact e2,by rw [c];exact a2⟩,aA,D.ne,D.lok,D.pok,D.ln,D.pn⟩
theorem zU (a:Int) {n:Nat} (h:n≤26):((List.range n).map (cG a)).Nodup:=by
 induction n with
 | zero=>exact List.nodup_nil
 | succ n ih=>
  rw [List.range_succ,List.map_append,List.nodup_append]
  refine⟨ih (by omega),by simp,fun x hx y hy=>?_⟩
  obtain⟨j,hj,rfl⟩:=List.mem_map.mp hx
  rw [List.map_singleton,List.mem_singleton] at hy
  subst hy
  have hj':=List.mem_range.mp hj
  intro z
  have:=word_inj a (by omega) (by omega) z
  omega
abbrev vN (ls:List LaneD) (ps:List PD) (os back:List Str):Drawn.NS Str:=⟨ls.map (·.name),ps,os,back⟩
theorem DAt.nod {d:Dw} {H:Hp} {ls:List LaneD} {ps:List PD} {os:List Str} (D:DAt d H ls ps os) (h:ls.length≤26):(ls.map (·.name)).Nodup:=by
 rw [D.ln]
 exact zU _ h
theorem WFperm {ns:Drawn.NS Str} (w:Drawn.WF ns) {os:List Str} (h:ns.opens.Perm os):Drawn.WF { ns with opens:=os }:=
 ⟨w.nod,w.outs,(h.symm.append_left _).trans w.ins,fun p hp=>by
  obtain⟨x,hx,o,ho,c⟩:=w.hang p hp
  exact⟨x,hx,o,h.mem_iff.mp ho,c⟩,w.touch⟩
theorem rK {d:Dw} {H:Hp} {ls newl:List LaneD} {ps:List PD} {p:PD} {os ops back:List Str} (w:Drawn.WF (vN ls ps ops back)) (ho:p.outs=newl.map (·.name)) (D:DAt d H (ls ++ newl) (ps ++ [p]) (os ++ newl.map (·.name))) (hi:ops.Perm (p.ins ++ os)) (hne:newl.length≠0) (hl:(ls ++ newl).length≤26):
  Drawn.WF (vN (ls ++ newl) (ps ++ [p]) (os ++ newl.map (·.name)) back):=by
 have nd:=D.nod hl
 rw [List.map_append] at nd
 have:=w.part (p:=p) hi (by rw [ho];exact nd) (by rw [ho];intro z;exact hne (by rw [←lM (f:=fun l:LaneD=>l.name),z];rfl))
 rw [ho] at this
 unfold vN
 rw [List.map_append]
 exact this
def Calm (ps:List PD):Prop:=∀p∈ps,p.kind <9
theorem Calm.app {ps:List PD} {p:PD} (h:Calm ps) (hp:p.kind <9):Calm (ps ++ [p]):=fun q hq=>by
 rcases List.mem_append.mp hq with z | z
 ·exact h q z
 ·rw [List.mem_singleton] at z
  rw [z]
  exact hp
structure Nxt (d:Dw) (H H':Hp) (ls:List LaneD) (ps:List PD) (back:List Str) (ls':List LaneD) (ps':List PD) (os':List Str):Prop where
 cut:aW (bj d.E H) (bj d.E H')
 at':DAt d H' ls' ps' os'
 wf:Drawn.WF (vN ls' ps' os' back)
 o1:1≤os'.length
 o4:os'.length≤4
 l2:ls'.length≤ls.length+2
 p2:ps'.length≤ps.length+2
 cm:Calm ps→Calm ps'
theorem Ag {c X Y B:Prop} [Decidable c] (k:B) (hx:c→B→X) (hy:B→Y):if c then X else Y:=by
 split
 ·rename_i h;exact hx h k
 ·exact hy k
theorem hide {t u:TS} {D:Ends} {σ:St} {H:Hp} (h:∀v,v=u→zc t v D σ H):zc t u D σ H:=h u rfl
theorem hideG {i:Nat} {x:V} {t u:TS} {D:Ends} {σ:St} {H:Hp} (h:∀E,E=D→∀v,v=u→zc t v E (σ.set i (some x)) H):gName i x σ H fun σ2 H2=>zc t u D σ2 H2:=h D rfl u rfl
theorem hideD {i:Nat} {x:V} {t:TS} {D:Ends} {σ:St} {H:Hp} (h:∀E,E=D→t E (σ.set i (some x)) H):gName i x σ H fun σ2 H2=>t D σ2 H2:=h D rfl
theorem hideW {t u:TS} {D:Ends} {σ:St} {H:Hp} (h:∀E,E=D→∀v,v=u→zc t v E σ H):zc t u D σ H:=h D rfl u rfl
theorem bx {t u v:TS} {D:Ends} {σ:St} {H:Hp} (hv:v=zc t u) (h:∀w,w=u→zc t w D σ H):v D σ H:=by
 subst hv
 exact h u rfl
theorem DAt.two {d:Dw} {H:Hp} {ls:List LaneD} {ps:List PD} {os:List Str} (D:DAt d H ls ps os) {a1 a2:Addr} {x y:HO} (n1:H a1=none) (n2:upd H a1 x a2=none):
  DAt d (upd (upd H a1 x) a2 y) ls ps os∧bj d.E (upd (upd H a1 x) a2 y) a1=some x∧bj d.E (upd (upd H a1 x) a2 y) a2=some y∧aW (bj d.E H) (bj d.E (upd (upd H a1 x) a2 y)):=by
 have s1:=aH (o:=x) n1
 have s2:=aH (o:=y) n2
 have s:=s1.trans s2
 exact⟨D.keep s,dw (s2 _ _ aA) (D.out n1),dw aA (D.out (s1.free n2)),D.cut s⟩
structure Whole (lanes:List Str) (ps:List PD):Prop where
 nod:lanes.Nodup
 outs:(ps.flatMap (·.outs)).Perm lanes
 ins:(ps.flatMap (·.ins)).Perm lanes
 hang:∃y,∀q∈ps,∃x∈q.ins ++ q.outs,Drawn.Conn ps x y
def lenAt (H:Hp) (a:Addr):Nat:=match H a with
 | some (.lst xs)=>xs.length
 | _=>0
theorem yz {H:Hp} {a:Addr} {xs:List V} (h:H a=some (.lst xs)):lenAt H a=xs.length:=by
 unfold lenAt
 rw [h]
theorem zf (m:Int) {n:Int} {k:Nat} (h0:0 <n) (hk:n=k):∃j:Nat,m % n=(j:Int)∧j <k:=by
 have h1:=Int.emod_nonneg m (Int.ne_of_gt h0)
 have h2:=Int.emod_lt_of_pos m h0
 exact⟨(m % n).toNat,(Int.toNat_of_nonneg h1).symm,by omega⟩
theorem pick3 (m:Int):∃i:Nat,atI [V.str "add",V.str "less",V.str "add"] (m % 3)=some (.str (fL i))∧(i=6∨i=7):=by
 have key:∀j,j <3→atI [V.str "add",V.str "less",V.str "add"] ((j:Nat):Int)=some (.str (fL (([6,7,6]:List Nat).getD j 0)))∧(([6,7,6]:List Nat).getD j 0=6∨([6,7,6]:List Nat).getD j 0=7):=by decide +kernel
 obtain⟨j,e,hj⟩:=zf m (n:=3) (k:=3) (by decide) rfl
 rw [e]
 exact⟨_,key j hj⟩
structure NetD (c3 c4:Int) (ls:List LaneD) (ps:List PD):Prop where
 lok:∀l∈ls,l.ok
 pok:∀p∈ps,PartOk p
 ln:ls.map (·.name)=(List.range ls.length).map (cG c3)
 pn:((List.range ps.length).map (cG c4)).Perm (ps.map (·.name))
 whole:Whole (ls.map (·.name)) ps
 l1:1≤ls.length
 l17:ls.length≤17
 p1:1≤ps.length
 p16:ps.length≤16
 calm:Calm ps
structure NetAt (H:Hp) (L P:Addr) (ls:List LaneD) (ps:List PD):Prop where
 lanes:∃xs,H L=some (.lst xs)∧All2 (xq H) xs ls
 parts:∃xs,H P=some (.lst xs)∧All2 (Be H) xs ps
theorem NetAt.same {H H':Hp} {L P:Addr} {ls:List LaneD} {ps:List PD} (h:NetAt H L P ls ps) (s:aW H H'):NetAt H' L P ls ps:=by
 obtain⟨⟨xs,e1,a1⟩,⟨ys,e2,a2⟩⟩:=h
 exact⟨⟨xs,s _ _ e1,a1.imp fun _ _ h=>h.same s⟩,⟨ys,s _ _ e2,a2.imp fun _ _ h=>h.same s⟩⟩
theorem Conn_perm {ps qs:List PD} (h:ps.Perm qs) {x y:Str} (c:Drawn.Conn ps x y):Drawn.Conn qs x y:=c.mono fun _ hp=>h.mem_iff.mp hp
theorem Whole.perm {ns:List Str} {ps qs:List PD} (w:Whole ns ps) (h:ps.Perm qs):Whole ns qs:=by
 obtain⟨y,hy⟩:=w.hang
 exact⟨w.nod,(h.symm.flatMap_right _).trans w.outs,(h.symm.flatMap_right _).trans w.ins,y,fun q hq=>by
  obtain⟨x,hx,c⟩:=hy q (h.mem_iff.mpr hq)
  exact⟨x,hx,Conn_perm h c⟩⟩
theorem rot_perm {α:Type} (l:List α) (n:Nat):l.Perm (l.drop n ++ l.take n):=by
 have h:l.Perm (l.take n ++ l.drop n):=by rw [List.take_append_drop]
 exact h.trans List.perm_append_comm
theorem zg (xs:List V) (g:Nat):ym xs (some (g:Int)) none=xs.drop g:=by
 unfold ym
 rw [HT.sIx_none,HT.Ad,←List.length_drop,List.take_length]
 rcases Nat.le_total g xs.length with h | h
 ·rw [Nat.min_eq_left h]
 ·rw [Nat.min_eq_right h,List.drop_length,List.drop_eq_nil_of_le h]
theorem cutV_to (xs:List V) (g:Nat):ym xs none (some (g:Int))=xs.take g:=by
 unfold ym
 rw [HT.sIx_none,HT.Ad,List.drop_zero,Nat.sub_zero]
 rcases Nat.le_total g xs.length with h | h
 ·rw [Nat.min_eq_left h]
 ·rw [Nat.min_eq_right h,List.take_length,List.take_of_length_le h]
theorem DAt.init {H:Hp} {S L P O:Addr} (c3 c4:Int) (nL:H L=none) (nP:upd H L (.lst []) P=none) (nO:upd (upd H L (.lst [])) P (.lst []) O=none) (nS:upd (upd (upd H L (.lst [])) P (.lst [])) O (.lst []) S=none):
  DAt ⟨S,L,P,O,c3,c4⟩ (upd (upd (upd (upd H L (.lst [])) P (.lst [])) O (.lst [])) S (.lst [.ref L,.ref P,.ref O,.int c3,.int c4])) [] [] []∧aW H (bj [L,P,O] (upd (upd (upd (upd H L (.lst [])) P (.lst [])) O (.lst [])) S (.lst [.ref L,.ref P,.ref O,.int c3,.int c4])))∧H P=none:=by
 have s1:=aH (o:=.lst []) nL
 have s2:=aH (o:=.lst []) nP
 have s3:=aH (o:=.lst []) nO
 have s4:=aH (o:=.lst [.ref L,.ref P,.ref O,.int c3,.int c4]) nS
 have e1:=s4 _ _ (s3 _ _ (s2 L (.lst []) aA))
 have e2:=s4 _ _ (s3 P (.lst []) aA)
 have e3:=s4 O (.lst []) aA
 have n1:L≠P:=aD (aA (H:=H) (o:=.lst [])) nP
 have n2:L≠O:=aD (s2 L (.lst []) aA) nO
 have n3:P≠O:=aD (aA (H:=upd H L (.lst [])) (o:=.lst [])) nO
 have m1:L≠S:=aD (s3 _ _ (s2 L (.lst []) aA)) nS
 have m2:P≠S:=aD (s3 P (.lst []) aA) nS
 have m3:O≠S:=aD (aA (H:=upd (upd H L (.lst [])) P (.lst [])) (o:=.lst [])) nS
 refine⟨⟨dw aA ?_,⟨[],e1,.nil⟩,⟨[],e2,.nil⟩,e3,⟨n1,n2,n3⟩,(fun _ h=>by cases h),(fun _ h=>by cases h),rfl,rfl⟩,fun b o e=>dw (s4 _ _ (s3 _ _ (s2 _ _ (s1 _ _ e)))) ?_,s1.free nP⟩
 ·show S∉[L,P,O]
  simp [m1.symm,m2.symm,m3.symm]
 ·have q1:=aD e nL
  have q2:=aD (s1 _ _ e) nP
  have q3:=aD (s2 _ _ (s1 _ _ e)) nO
  simp [q1,q2,q3]
abbrev LET:Str:= "abcdefghijklmnopqrstuvwxyz"
abbrev FIG:Str:= "0123456789"
theorem let_codes:LET.cps.toList=List.range' 97 26:=by decide +kernel
theorem fig_codes:FIG.cps.toList=List.range' 48 10:=by decide +kernel
theorem in_let (c:Nat):(!(Builtin.Str.occurrences LET ⟨#[c]⟩ 0 LET.length 1).isEmpty)=low c:=by
 rw [StrLaws.found_one,let_codes]
 unfold low
 rw [Bool.eq_iff_iff]
 simp [List.mem_range'_1]
 omega
theorem in_fig (c:Nat):(!(Builtin.Str.occurrences FIG ⟨#[c]⟩ 0 FIG.length 1).isEmpty)=fig c:=by
 rw [StrLaws.found_one,fig_codes]
 unfold fig
 rw [Bool.eq_iff_iff]
 simp [List.mem_range'_1]
 omega
structure Flds (ms:List Str) (want:List (Str×V)) (fs:List (Str×V)):Prop where
 has:∀p∈want,fs.lookup p.1=some p.2
 no:∀m∈ms,fs.lookup m=none
theorem rH {H:Hp} {d:Addr} {kvs:List (Key×V)} {v:HO} (e:H d=some (.dK kvs)) {b:Addr} {u:HO} (h:H b=some u) (hu:∀ks,u≠.dK ks):upd H d v b=some u:=by
 rw [aM]
 ·exact h
 ·rintro rfl
  rw [e] at h
  exact hu _ (Option.some.inj h).symm
theorem fK {H:Hp} {d a:Addr} {kvs:List (Key×V)} {v:HO} {xs:List V} (e:H d=some (.dK kvs)) (h:SqT K H a xs):SqT K (upd H d v) a xs:=by
 rcases h with (h | ⟨o,h⟩) | h
 ·exact .inl (.inl (rH e h (by intro _ z;cases z)))
 ·exact .inl (.inr ⟨o,rH e h (by intro _ z;cases z)⟩)
 ·exact .inr h
theorem PartAt.chill {H:Hp} {d p:Addr} {kvs:List (Key×V)} {v:HO} {i:Nat} {nm:V} {ns is os:List V} (e:H d=some (.dK kvs)) (h:PartAt K t H p i nm ns is os):PartAt K t (upd H d v) p i nm ns is os:=by
 obtain⟨dx,tn,ti,to,h1,h2,h3,h4⟩:=h
 exact⟨dx,tn,ti,to,rH e h1 (by intro _ z;cases z),fK e h2,fK e h3,fK e h4⟩
theorem upd_id {H:Hp} {a:Addr} {o:HO} (e:H a=some o):upd H a o=H:=by
 funext b
 unfold upd
 split
 ·rename_i h;rw [h];exact e.symm
 ·rfl
theorem uZ {κ:Type} [DecidableEq κ] {kvs:List (κ×V)} {k:κ} (h:k∉kvs.map (·.1)):dY kvs k=none:=by
 induction kvs with
 | nil=>rfl
 | cons p r ih=>
  simp only [List.map_cons,List.mem_cons,not_or] at h
  rw [fJ (Ne.symm h.1)]
  exact ih h.2
theorem wk {κ:Type} [DecidableEq κ] {kvs:List (κ×V)} {k:κ} {v:V} (nd:(kvs.map (·.1)).Nodup) (h:(k,v)∈kvs):dY kvs k=some v:=by
 induction kvs with
 | nil=>cases h
 | cons p r ih=>
  simp only [List.map_cons,List.nodup_cons] at nd
  rcases List.mem_cons.mp h with h | h
  ·subst h
   exact fV rfl
  ·have:¬p.1=k:=fun z=>nd.1 (List.mem_map.mpr ⟨_,h,z.symm⟩)
   rw [fJ this]
   exact ih nd.2 h
def cJ (f:PD→List Str) (ps:List PD):List (Key×V):=ps.flatMap fun p=>(f p).map fun l=>((Sum.inr l:Key),V.str p.name)
theorem xZ (f:PD→List Str) (ps:List PD):(cJ f ps).map (·.1)=(ps.flatMap f).map (fun l=>(Sum.inr l:Key)):=by
 induction ps with
 | nil=>rfl
 | cons p r ih=>
  unfold cJ at ih ⊢
  simp only [List.flatMap_cons,List.map_append,ih,List.map_map]
  rfl
theorem rJ {l:List Str} (h:l.Nodup):(l.map (fun x=>(Sum.inr x:Key))).Nodup:=by
 induction l with
 | nil=>exact List.nodup_nil
 | cons a r ih=>
  simp only [List.map_cons,List.nodup_cons,List.mem_map] at h ⊢
  refine⟨?_,ih h.2⟩
  rintro⟨b,hb,e⟩
  cases e
  exact h.1 hb
theorem dU {f:PD→List Str} {ps:List PD} (nd:(ps.flatMap f).Nodup) {p:PD} (hp:p∈ps) {l:Str} (hl:l∈f p):dY (cJ f ps) (Sum.inr l)=some (.str p.name):=
 wk (by rw [xZ];exact rJ nd) (List.mem_flatMap.mpr ⟨p,hp,List.mem_map.mpr ⟨l,hl,rfl⟩⟩)
theorem Bg {f:PD→List Str} {ps:List PD} {l:Str} (h:l∉ps.flatMap f):dY (cJ f ps) (Sum.inr l)=none:=uZ (by
 rw [xZ]
 intro z
 obtain⟨b,hb,e⟩:=List.mem_map.mp z
 cases e
 exact h hb)
theorem endsK_len (f:PD→List Str) (ps:List PD):(cJ f ps).length=(ps.flatMap f).length:=by
 have:=congrArg List.length (xZ f ps)
 simpa using this
theorem Az (f:PD→List Str) (ps:List PD) (p:PD):cJ f (ps ++ [p])=cJ f ps ++ (f p).map fun l=>((Sum.inr l:Key),V.str p.name):=by
 unfold cJ
 rw [List.flatMap_append]
 simp
theorem filt_lt {α:Type} {f g:α→Bool}:∀{l:List α},(∀a∈l,g a=true→f a=true)→(∃a∈l,f a=true∧g a=false)→(l.filter g).length <(l.filter f).length
 | [],_,h=>by obtain⟨a,ha,_⟩:=h;cases ha
 | x:: r,h,h2=>by
  have le:∀r:List α,(∀a∈r,g a=true→f a=true)→(r.filter g).length≤(r.filter f).length:=fun r=>by
   induction r with
   | nil=>intro _;exact Nat.le_refl _
   | cons y t ih=>
    intro q
    have:=ih fun a ha=>q a (List.mem_cons_of_mem _ ha)
    have q0:=q y List.mem_cons_self
    rw [List.filter_cons,List.filter_cons]
    cases hg:g y
    ·simp only [Bool.false_eq_true,if_false]
     split
     ·rw [List.length_cons];omega
     ·exact this
    ·rw [q0 hg]
     simp only [if_true,List.length_cons]
     omega
  obtain⟨a,ha,hf,hg⟩:=h2
  have hr:=fun a ha=>h a (List.mem_cons_of_mem x ha)
  rw [List.filter_cons,List.filter_cons]
  rcases List.mem_cons.mp ha with rfl | ha
  ·rw [hf,hg]
   have:=le r hr
   simp
   omega
  ·have ih:=filt_lt hr ⟨a,ha,hf,hg⟩
   have q0:=h x List.mem_cons_self
   cases hx:g x
   ·simp only [Bool.false_eq_true,if_false]
    split
    ·rw [List.length_cons];omega
    ·exact ih
   ·rw [q0 hx]
    simp only [if_true,List.length_cons]
    omega
def gm (jk:List (Key×V)) (x:Str):Bool:=(dY jk (Sum.inr x)).isSome
def ph (ps:List PD) (jk:List (Key×V)):Nat:=(ps.filter fun p=>!gm jk p.name).length
theorem hasN_put (jk:List (Key×V)) (x y:Str) (v:V):gm (putK jk (Sum.inr x) v) y=(decide (y=x) || gm jk y):=by
 unfold gm
 rw [valV_put]
 by_cases h:y=x
 ·subst h;simp
 ·have:¬(Sum.inr y:Key)=Sum.inr x:=fun z=>h (Sum.inr.inj z)
  rw [if_neg this]
  simp [h]
theorem missN_lt {ps:List PD} {jk jk':List (Key×V)} (h:∀x,gm jk x=true→gm jk' x=true) {p:PD} (hp:p∈ps) (h1:gm jk p.name=false) (h2:gm jk' p.name=true):ph ps jk' <ph ps jk:=by
 refine filt_lt (fun a _ q=>?_) ⟨p,hp,by simp [h1],by simp [h2]⟩
 cases hj:gm jk a.name
 ·rfl
 ·rw [h _ hj] at q;cases q
theorem lane_ends {ps:List PD} (pm:(ps.flatMap (·.outs)).Perm (ps.flatMap (·.ins))) {l:Str} (h:l∈ps.flatMap (·.outs)):∃a∈ps,∃b∈ps,l∈a.outs∧l∈b.ins:=by
 obtain⟨a,ha,hl⟩:=List.mem_flatMap.mp h
 obtain⟨b,hb,hl2⟩:=List.mem_flatMap.mp (pm.mem_iff.mp h)
 exact⟨a,ha,b,hb,hl,hl2⟩
theorem all_in {ps:List PD} (no:(ps.flatMap (·.outs)).Nodup) (ni:(ps.flatMap (·.ins)).Nodup) (pm:(ps.flatMap (·.outs)).Perm (ps.flatMap (·.ins))) {jk:List (Key×V)} (hang:∃y,∀q∈ps,∃x∈q.ins ++ q.outs,Drawn.Conn ps x y)
  (cl:∀a∈ps,∀b∈ps,∀l,l∈a.outs→l∈b.ins→gm jk a.name=gm jk b.name) {p0:PD} (hp0:p0∈ps) (h0:gm jk p0.name=true):∀q∈ps,gm jk q.name=true:=by
 obtain⟨y,hy⟩:=hang
 refine Drawn.Ay (J:=fun p=>gm jk p.name=true) (fun l p q hp hq hlp hlq hJ=>?_) hy hp0 h0
 have same:∀{f:PD→List Str},(ps.flatMap f).Nodup→∀{a b:PD},a∈ps→b∈ps→l∈f a→l∈f b→a.name=b.name:=fun {f} nd {a b} ha hb h1 h2=>by
  obtain⟨i,hi,ei⟩:=List.mem_iff_getElem.mp ha
  obtain⟨j,hj,ej⟩:=List.mem_iff_getElem.mp hb
  have:=Drawn.one_giver f nd (i:=i) (j:=j) (p:=a) (q:=b) (l:=l) (by rw [List.getElem?_eq_getElem hi,ei]) (by rw [List.getElem?_eq_getElem hj,ej]) h1 h2
  subst this
  rw [←ei,←ej]
 have hl:l∈ps.flatMap (·.outs):=by
  rcases List.mem_append.mp hlp with h | h
  ·exact pm.mem_iff.mpr (List.mem_flatMap.mpr ⟨p,hp,h⟩)
  ·exact List.mem_flatMap.mpr ⟨p,hp,h⟩
 obtain⟨a,ha,b,hb,la,lb⟩:=lane_ends pm hl
 have e:=cl a ha b hb l la lb
 have np:p.name=a.name∨p.name=b.name:=(List.mem_append.mp hlp).elim (fun h=>.inr (same ni hp hb h lb)) fun h=>.inl (same no hp ha h la)
 have nq:q.name=a.name∨q.name=b.name:=(List.mem_append.mp hlq).elim (fun h=>.inr (same ni hq hb h lb)) fun h=>.inl (same no hq ha h la)
 show gm jk q.name=true
 change gm jk p.name=true at hJ
 rcases np with np | np <;> rcases nq with nq | nq <;> rw [np] at hJ <;> rw [nq]
 ·exact hJ
 ·rw [←e];exact hJ
 ·rw [e];exact hJ
 ·exact hJ
theorem nameB_len {z:Str} (h:nameB z=true):z.length≤100:=by
 unfold nameB at h
 rw [←oW]
 split at h
 ·simp_all
 ·rename_i e
  rw [e]
  simp only [Bool.and_eq_true,decide_eq_true_eq] at h
  rw [List.length_cons]
  omega
structure Fit (ls:List LaneD) (ps:List PD):Prop where
 lok:∀l∈ls,1≤l.room∧l.room≤199∧(l.first.length:Int)≤l.room∧∀v∈l.first,0≤v∧v <1000000000
 pok:∀p∈ps,PartOk p
 lnm:∀l∈ls,nameB l.name=true
 pnm:∀p∈ps,nameB p.name=true
 pnd:(ps.map (·.name)).Nodup
 whole:Whole (ls.map (·.name)) ps
 l1:1≤ls.length
 l24:ls.length≤24
 p1:1≤ps.length
 p16:ps.length≤16
theorem word_of {c:Int} {n:Nat} (hn:n≤26) {x:Str} (h:x∈(List.range n).map (cG c)):∃k,k <n∧x=cG c k:=by
 obtain⟨k,hk,rfl⟩:=List.mem_map.mp h
 exact⟨k,List.mem_range.mp hk,rfl⟩
theorem NetD.fit {c3 c4:Int} {ls:List LaneD} {ps:List PD} (h:NetD c3 c4 ls ps):Fit ls ps:=by
 have a:=h.l17
 have b:=h.p16
 refine⟨fun l hl=>?_,h.pok,fun l hl=>?_,fun p hp=>?_,?_,h.whole,h.l1,by omega,h.p1,h.p16⟩
 ·obtain⟨x1,x2,x3,x4⟩:=h.lok l hl
  exact⟨x1,by omega,x3,x4⟩
 ·obtain⟨k,hk,e⟩:=word_of (c:=c3) (n:=ls.length) (by omega) (by rw [←h.ln];exact List.mem_map.mpr ⟨l,hl,rfl⟩)
  rw [e]
  exact word_ok _ (by omega)
 ·obtain⟨k,hk,e⟩:=word_of (c:=c4) (n:=ps.length) (by omega) (h.pn.mem_iff.mpr (List.mem_map.mpr ⟨p,hp,rfl⟩))
  rw [e]
  exact word_ok _ (by omega)
 ·exact h.pn.nodup_iff.mp (zU _ (by omega))
theorem NetD.lane20 {c3 c4:Int} {ls:List LaneD} {ps:List PD} (h:NetD c3 c4 ls ps):cG c3 20∉ls.map (·.name):=fun z=>by
 have a:=h.l17
 rw [h.ln] at z
 obtain⟨k,hk,e⟩:=word_of (by omega) z
 have:=word_inj _ (by omega) (by omega) e
 omega
def d8 (ls:List LaneD):List (Key×V):=ls.map fun l=>((Sum.inr l.name:Key),V.int l.room)
def gq (FL:List (LaneD×Addr)):List (Key×V):=FL.map fun q=>((Sum.inr q.1.name:Key),V.ref q.2)
def dz (PL:List (PD×Addr)):List (Key×V):=PL.map fun q=>((Sum.inr q.1.name:Key),V.ref q.2)
theorem vY (ls:List LaneD):(d8 ls).map (·.1)=(ls.map (·.name)).map (fun x=>(Sum.inr x:Key)):=by unfold d8;rw [List.map_map,List.map_map];rfl
theorem yG (FL:List (LaneD×Addr)):(gq FL).map (·.1)=((FL.map (·.1)).map (·.name)).map (fun x=>(Sum.inr x:Key)):=by unfold gq;rw [List.map_map,List.map_map,List.map_map];rfl
theorem zJ (PL:List (PD×Addr)):(dz PL).map (·.1)=((PL.map (·.1)).map (·.name)).map (fun x=>(Sum.inr x:Key)):=by unfold dz;rw [List.map_map,List.map_map,List.map_map];rfl
structure NetW (K:PySem.W.Frag) (t:Adr) (H:Hp) (n:Addr) (ls:List LaneD) (ps:List PD) (dx:Addr) (fs:List (Str×V)) (R F Pd G Tk:Addr) (FL:List (LaneD×Addr)) (PL:List (PD×Addr)):Prop where
 obj:H n=some (.ins t.bK dx fs)
 fl:Flds ["lane_names", "part_names", "odd", "need_lane_name", "room_of", "first_of", "giver_of", "taker_of", "__init__"] [("rooms",.ref R),("firsts",.ref F),("parts",.ref Pd),("givers",.ref G),("takers",.ref Tk)] fs
 rooms:H R=some (.dK (d8 ls))
 firsts:H F=some (.dK (gq FL))
 parts:H Pd=some (.dK (dz PL))
 givers:H G=some (.dK (cJ (·.outs) ps))
 takers:H Tk=some (.dK (cJ (·.ins) ps))
 fls:FL.map (·.1)=ls
 pls:PL.map (·.1)=ps
 tups:∀q∈FL,SqT K H q.2 (q.1.first.map V.int)
 pats:∀q∈PL,PartAt K t H q.2 q.1.kind (.str q.1.name) (q.1.nums.map V.int) (q.1.ins.map V.str) (q.1.outs.map V.str)
 fit:Fit ls ps
 neRF:R≠F
def vW (K:PySem.W.Frag) (t:Adr) (H:Hp) (n:Addr) (ls:List LaneD) (ps:List PD):Prop:=∃dx fs R F Pd G Tk FL PL,NetW K t H n ls ps dx fs R F Pd G Tk FL PL
section
variable {H H':Hp} {n dx R F Pd G Tk:Addr} {ls:List LaneD} {ps:List PD} {fs:List (Str×V)} {FL:List (LaneD×Addr)} {PL:List (PD×Addr)}
theorem NetW.same (N:NetW K t H n ls ps dx fs R F Pd G Tk FL PL) (s:aW H H'):NetW K t H' n ls ps dx fs R F Pd G Tk FL PL:=
 ⟨s _ _ N.obj,N.fl,s _ _ N.rooms,s _ _ N.firsts,s _ _ N.parts,s _ _ N.givers,s _ _ N.takers,N.fls,N.pls,fun q hq=>s.seqT (N.tups q hq),fun q hq=>(N.pats q hq).same s,N.fit,N.neRF⟩
theorem vW.same (N:vW K t H n ls ps) (s:aW H H'):vW K t H' n ls ps:=by
 obtain⟨dx,fs,R,F,Pd,G,Tk,FL,PL,N⟩:=N
 exact⟨dx,fs,R,F,Pd,G,Tk,FL,PL,N.same s⟩
theorem NetW.s (N:NetW K t H n ls ps dx fs R F Pd G Tk FL PL):vW K t H n ls ps:=⟨dx,fs,R,F,Pd,G,Tk,FL,PL,N⟩
theorem NetW.room (N:NetW K t H n ls ps dx fs R F Pd G Tk FL PL) {l:LaneD} (hl:l∈ls):dY (d8 ls) (Sum.inr l.name)=some (.int l.room):=
 wk (by rw [vY];exact rJ N.fit.whole.nod) (List.mem_map.mpr ⟨l,hl,rfl⟩)
theorem NetW.firstV (N:NetW K t H n ls ps dx fs R F Pd G Tk FL PL) {q:LaneD×Addr} (hq:q∈FL):dY (gq FL) (Sum.inr q.1.name)=some (.ref q.2):=
 wk (by rw [yG,N.fls];exact rJ N.fit.whole.nod) (List.mem_map.mpr ⟨q,hq,rfl⟩)
theorem NetW.partV (N:NetW K t H n ls ps dx fs R F Pd G Tk FL PL) {q:PD×Addr} (hq:q∈PL):dY (dz PL) (Sum.inr q.1.name)=some (.ref q.2):=
 wk (by rw [zJ,N.pls];exact rJ N.fit.pnd) (List.mem_map.mpr ⟨q,hq,rfl⟩)
theorem NetW.ono (N:NetW K t H n ls ps dx fs R F Pd G Tk FL PL):(ps.flatMap (·.outs)).Nodup:=N.fit.whole.outs.nodup_iff.mpr N.fit.whole.nod
theorem NetW.ini (N:NetW K t H n ls ps dx fs R F Pd G Tk FL PL):(ps.flatMap (·.ins)).Nodup:=N.fit.whole.ins.nodup_iff.mpr N.fit.whole.nod
end
theorem in_names {α:Type} {f:α→Str} {xs:List α} {x:Str}:inV (.str x) (xs.map fun p=>V.str (f p))=decide (x∈xs.map f):=by
 rw [Bool.eq_iff_iff]
 unfold inV
 rw [List.any_eq_true,decide_eq_true_eq]
 constructor
 ·rintro⟨v,hv,e⟩
  obtain⟨p,hp,rfl⟩:=List.mem_map.mp hv
  exact List.mem_map.mpr ⟨p,hp,by simpa [eqV] using e⟩
 ·intro h
  obtain⟨p,hp,rfl⟩:=List.mem_map.mp h
  exact⟨.str (f p),List.mem_map.mpr ⟨p,hp,rfl⟩,by simp [eqV]⟩
def ofKd (ps:List PD) (x:Str):List V:=(ps.filter fun p=>decide (fL p.kind=x)).map fun p=>V.str p.name
def oddB (p:PD):Bool:=decide (fL p.kind= "choose") || decide (fL p.kind= "split")
def oddN (ps:List PD):V:=match ps.find? oddB with
 | some p=>.str p.name
 | none=>.non
theorem oddB_in (p:PD):inV (.str (fL p.kind)) [.str "choose",.str "split"]=oddB p:=by
 have n1:¬("choose" :Str)= "split" :=by decide +kernel
 by_cases h1:fL p.kind= "choose"
 ·simp [inV,eqV,oddB,h1]
 ·by_cases h2:fL p.kind= "split"
  ·simp [inV,eqV,oddB,h2]
  ·simp [inV,eqV,oddB,h1,h2,Ne.symm h1,Ne.symm h2]
def LaneT (K:PySem.W.Frag) (H:Hp) (v:V) (l:LaneD):Prop:=∃q f,v=.ref q∧H q=some (.tup [.str l.name,.int l.room,.ref f])∧SqT K H f (l.first.map V.int)
def RowT (K:PySem.W.Frag) (H:Hp) (v:V) (p:PD):Prop:=∃q a1 a2 a3,v=.ref q∧H q=some (.tup [.str (fL p.kind),.str p.name,.ref a1,.ref a2,.ref a3])∧SqT K H a1 (p.nums.map V.int)∧SqT K H a2 (p.ins.map V.str)∧SqT K H a3 (p.outs.map V.str)
theorem LaneT.same {H H':Hp} {v:V} {l:LaneD} (h:LaneT K H v l) (s:aW H H'):LaneT K H' v l:=by
 obtain⟨q,f,e,h1,h2⟩:=h
 exact⟨q,f,e,s _ _ h1,s.seqT h2⟩
theorem RowT.same {H H':Hp} {v:V} {p:PD} (h:RowT K H v p) (s:aW H H'):RowT K H' v p:=by
 obtain⟨q,a1,a2,a3,e,h1,h2,h3,h4⟩:=h
 exact⟨q,a1,a2,a3,e,s _ _ h1,s.seqT h2,s.seqT h3,s.seqT h4⟩
structure ToldAt (K:PySem.W.Frag) (H:Hp) (T a b:Addr) (ls:List LaneD) (ps:List PD):Prop where
 tup:H T=some (.tup [.ref a,.ref b])
 lanes:∃xs,H a=some (.lst xs)∧All2 (LaneT K H) xs ls
 parts:∃xs,H b=some (.lst xs)∧All2 (RowT K H) xs ps
theorem ToldAt.same {H H':Hp} {T a b:Addr} {ls:List LaneD} {ps:List PD} (h:ToldAt K H T a b ls ps) (s:aW H H'):ToldAt K H' T a b ls ps:=by
 obtain⟨h1,⟨xs,e1,a1⟩,⟨ys,e2,a2⟩⟩:=h
 exact⟨s _ _ h1,⟨xs,s _ _ e1,a1.imp fun _ _ h=>h.same s⟩,⟨ys,s _ _ e2,a2.imp fun _ _ h=>h.same s⟩⟩
structure Tr (H:Hp) (f:Addr) (L:List (Addr×HO)) (Hk:Hp):Prop where
 but:But f H Hk
 all:∀p∈L,Hk p.1=some p.2
 fre:∀p∈L,p.1=f∨H p.1=none
 nod:(L.map Prod.fst).Nodup
 obj:∃o,(f,o)∈L
theorem Tr.free {H Hk:Hp} {f x:Addr} {L:List (Addr×HO)} (T:Tr H f L Hk) (nx:Hk x=none):H x=none:=by
 cases e:H x with
 | none=>rfl
 | some o=>
  by_cases h:x=f
  ·obtain⟨u,hu⟩:=T.obj
   have:=T.all _ hu
   rw [h] at nx
   rw [nx] at this
   cases this
  ·rw [T.but x o h e] at nx
   cases nx
theorem Tr.new {H Hk:Hp} {f x:Addr} {L:List (Addr×HO)} {o:HO} (T:Tr H f L Hk) (nx:Hk x=none):Tr H f (L ++ [(x,o)]) (upd Hk x o):=by
 have hne:∀p∈L,p.1≠x:=fun p hp z=>by have:=T.all p hp;rw [z,nx] at this;cases this
 have hx:=T.free nx
 refine⟨fun b u n e=>by rw [aM (aD e hx)];exact T.but b u n e,fun p hp=>?_,fun p hp=>?_,?_,?_⟩
 ·rcases List.mem_append.mp hp with h | h
  ·rw [aM (hne p h)];exact T.all p h
  ·rw [List.mem_singleton] at h;subst h;exact aA
 ·rcases List.mem_append.mp hp with h | h
  ·exact T.fre p h
  ·rw [List.mem_singleton] at h;subst h;exact .inr hx
 ·rw [List.map_append,List.nodup_append]
  refine⟨T.nod,by simp,fun a ha b hb=>?_⟩
  obtain⟨p,hp,rfl⟩:=List.mem_map.mp ha
  simp at hb
  subst hb
  exact hne p hp
 ·obtain⟨u,hu⟩:=T.obj
  exact⟨u,List.mem_append.mpr (.inl hu)⟩
theorem Tr.same {H Hk Hk':Hp} {f:Addr} {L:List (Addr×HO)} (T:Tr H f L Hk) (s:aW Hk Hk'):Tr H f L Hk':=
 ⟨fun b u n e=>s _ _ (T.but b u n e),fun p hp=>s _ _ (T.all p hp),T.fre,T.nod,T.obj⟩
theorem Tr.put {H Hk:Hp} {f x:Addr} {o o':HO} {L1 L2:List (Addr×HO)} (T:Tr H f (L1 ++ (x,o):: L2) Hk):Tr H f (L1 ++ (x,o'):: L2) (upd Hk x o'):=by
 have hx:x=f∨H x=none:=T.fre (x,o) (by simp)
 have nd:=T.nod
 rw [List.map_append,List.map_cons,List.nodup_append] at nd
 obtain⟨n1,n2,n3⟩:=nd
 rw [List.nodup_cons] at n2
 refine⟨fun b u n e=>?_,fun p hp=>?_,fun p hp=>?_,?_,?_⟩
 ·have:b≠x:=by
   rcases hx with rfl | hx
   ·exact n
   ·exact aD e hx
  rw [aM this];exact T.but b u n e
 ·rcases List.mem_append.mp hp with h | h
  ·have:p.1≠x:=n3 p.1 (List.mem_map.mpr ⟨p,h,rfl⟩) x (by simp)
   rw [aM this];exact T.all p (by simp [h])
  ·rcases List.mem_cons.mp h with rfl | h
   ·exact aA
   ·have:p.1≠x:=fun z=>n2.1 (by rw [←z];exact List.mem_map.mpr ⟨p,h,rfl⟩)
    rw [aM this];exact T.all p (by simp [h])
 ·rcases List.mem_append.mp hp with h | h
  ·exact T.fre p (by simp [h])
  ·rcases List.mem_cons.mp h with rfl | h
   ·exact hx
   ·exact T.fre p (by simp [h])
 ·have:=T.nod
  rw [List.map_append,List.map_cons] at this ⊢
  exact this
 ·obtain⟨u,hu⟩:=T.obj
  rcases List.mem_append.mp hu with h | h
  ·exact⟨u,by simp [h]⟩
  ·rcases List.mem_cons.mp h with h | h
   ·cases h;exact⟨o',by simp⟩
   ·exact⟨u,by simp [h]⟩
theorem Tr.start {H:Hp} {f:Addr} {o:HO} (e:H f=some o):Tr H f [(f,o)] H:=⟨But.refl _,fun p hp=>by rw [List.mem_singleton] at hp;subst hp;exact e,fun p hp=>by rw [List.mem_singleton] at hp;subst hp;exact .inl rfl,by simp,o,by simp⟩
def LaneH (K:PySem.W.Frag) (H:Hp) (v:V) (l:LaneD):Prop:=∃q f,v=.ref q∧H q=some (.tup [.str l.name,.int l.room,.ref f])∧SqA K H f (l.first.map V.int)
def RowH (K:PySem.W.Frag) (H:Hp) (v:V) (p:PD):Prop:=∃q a1 a2 a3,v=.ref q∧H q=some (.tup [.str (fL p.kind),.str p.name,.ref a1,.ref a2,.ref a3])∧SqA K H a1 (p.nums.map V.int)∧SqA K H a2 (p.ins.map V.str)∧SqA K H a3 (p.outs.map V.str)
structure Hand (K:PySem.W.Frag) (H:Hp) (Ll Lp:Addr) (ls:List LaneD) (ps:List PD):Prop where
 ll:∃xs,SqL K H Ll xs∧All2 (LaneH K H) xs ls
 lp:∃xs,SqL K H Lp xs∧All2 (RowH K H) xs ps
theorem yH {α:Type} {f:α→Str} {xs:List α} (nd:(xs.map f).Nodup) {j:Nat} {x:α} (h:xs[j]?=some x):f x∉(xs.take j).map f:=fun hm=>by
 have hj:=(List.getElem?_eq_some_iff.mp h).1
 have e:xs[j]=x:=(List.getElem?_eq_some_iff.mp h).2
 rw [List.map_take] at hm
 obtain⟨i,hi,ei⟩:=List.mem_iff_getElem.mp hm
 rw [List.length_take,lM] at hi
 rw [List.getElem_take] at ei
 have e2:(xs.map f)[j]'(by rw [lM];exact hj)=f x:=by rw [List.getElem_map,e]
 have:=(List.getElem_inj nd).mp (ei.trans e2.symm)
 omega
theorem flat_at {f:PD→List Str} {ps:List PD} (nd:(ps.flatMap f).Nodup) {j:Nat} {p:PD} (h:ps[j]?=some p):(f p).Nodup∧∀z∈f p,z∉(ps.take j).flatMap f:=by
 have hj:=(List.getElem?_eq_some_iff.mp h).1
 have e:ps[j]=p:=(List.getElem?_eq_some_iff.mp h).2
 have e2:ps=ps.take j ++ p:: ps.drop (j+1):=by rw [←e,←List.drop_eq_getElem_cons hj,List.take_append_drop]
 rw [e2,List.flatMap_append,List.flatMap_cons,List.nodup_append] at nd
 obtain⟨n1,n2,n3⟩:=nd
 rw [List.nodup_append] at n2
 exact⟨n2.1,fun z hz hm=>n3 z hm z (List.mem_append.mpr (.inl hz)) rfl⟩
theorem yo {H:Hp} {d:Addr} {kvs:List (Key×V)} (e:H d=some (.dK kvs)) {b:Addr} {u:HO} (h:H b=some u) (hu:∀ks,u≠.dK ks):bj [d] H b=some u:=dw h (by
 rw [List.mem_singleton]
 rintro rfl
 rw [e] at h
 exact hu _ (Option.some.inj h).symm)
theorem yh {H:Hp} {d a:Addr} {kvs:List (Key×V)} {xs:List V} (e:H d=some (.dK kvs)) (h:SqT K H a xs):SqT K (bj [d] H) a xs:=by
 rcases h with (h | ⟨o,h⟩) | h
 ·exact .inl (.inl (yo e h (by intro _ z;cases z)))
 ·exact .inl (.inr ⟨o,yo e h (by intro _ z;cases z)⟩)
 ·exact .inr h
theorem PartAt.off {H:Hp} {d p:Addr} {kvs:List (Key×V)} {i:Nat} {nm:V} {ns is os:List V} (e:H d=some (.dK kvs)) (h:PartAt K t H p i nm ns is os):PartAt K t (bj [d] H) p i nm ns is os:=by
 obtain⟨dx,tn,ti,to,h1,h2,h3,h4⟩:=h
 exact⟨dx,tn,ti,to,yo e h1 (by intro _ z;cases z),yh e h2,yh e h3,yh e h4⟩
theorem NetW.off {H:Hp} {n dx R F Pd G Tk d:Addr} {ls:List LaneD} {ps:List PD} {fs:List (Str×V)} {FL:List (LaneD×Addr)} {PL:List (PD×Addr)} {kvs:List (Key×V)} (N:NetW K t H n ls ps dx fs R F Pd G Tk FL PL) (e:H d=some (.dK kvs)) (ne:d≠R∧d≠F∧d≠Pd∧d≠G∧d≠Tk):NetW K t (bj [d] H) n ls ps dx fs R F Pd G Tk FL PL:=by
 obtain⟨n1,n2,n3,n4,n5⟩:=ne
 have c:∀{x:Addr} {o:HO},d≠x→H x=some o→bj [d] H x=some o:=fun hx h=>dw h (by rw [List.mem_singleton];exact Ne.symm hx)
 exact⟨yo e N.obj (by intro _ z;cases z),N.fl,c n1 N.rooms,c n2 N.firsts,c n3 N.parts,c n4 N.givers,c n5 N.takers,N.fls,N.pls,fun q hq=>yh e (N.tups q hq),fun q hq=>(N.pats q hq).off e,N.fit,N.neRF⟩
theorem NetAt.off {H:Hp} {L P d:Addr} {ls:List LaneD} {ps:List PD} {kvs:List (Key×V)} (e:H d=some (.dK kvs)) (h:NetAt H L P ls ps):NetAt (bj [d] H) L P ls ps:=by
 obtain⟨⟨xs,e1,a1⟩,⟨ys,e2,a2⟩⟩:=h
 have g:∀{b:Addr} {u:HO},H b=some u→(∀ks,u≠.dK ks)→bj [d] H b=some u:=fun h hu=>yo e h hu
 refine⟨⟨xs,g e1 (by intro _ z;cases z),a1.imp fun _ _ h=>?_⟩,⟨ys,g e2 (by intro _ z;cases z),a2.imp fun _ _ h=>?_⟩⟩
 ·obtain⟨q,f,e0,h1,h2⟩:=h
  exact⟨q,f,e0,g h1 (by intro _ z;cases z),g h2 (by intro _ z;cases z)⟩
 ·obtain⟨q,b1,b2,b3,e0,h1,h2,h3,h4⟩:=h
  exact⟨q,b1,b2,b3,e0,g h1 (by intro _ z;cases z),g h2 (by intro _ z;cases z),g h3 (by intro _ z;cases z),g h4 (by intro _ z;cases z)⟩
theorem yJ {H H':Hp} {d:Addr} (s:aW H H') (n:H d=none):aW H (bj [d] H'):=fun b o e=>dw (s _ _ e) (by
 rw [List.mem_singleton]
 exact aD e n)
theorem gB {H H':Hp} {d:Addr} {o:HO} (s:aW H H') (h:H d=some o):aW (bj [d] H) (bj [d] H'):=By s (fun a ha=>by rw [List.mem_singleton] at ha;subst ha;exact⟨o,h⟩)
def kvG {β:Type} (g:β→V) (m:List (Str×β)):List (Key×V):=m.map fun q=>((Sum.inr q.1:Key),g q.2)
def lkG {β:Type} (m:List (Str×β)) (x:Str):Option β:=(m.find? fun q=>decide (q.1=x)).map (·.2)
def eV {β:Type} (m:List (Str×β)) (x:Str) (b:β):List (Str×β):=if (m.any fun q=>decide (q.1=x))=true then m.map (fun q=>if q.1=x then(q.1,b) else q) else m ++ [(x,b)]
section
variable {β:Type} {g:β→V}
theorem sZ (g:β→V) (m:List (Str×β)):(kvG g m).length=m.length:=by unfold kvG;rw [lM]
theorem kvG_at {m:List (Str×β)} {j:Nat} {k:Key} {v:V} (h:(kvG g m)[j]?=some (k,v)):∃q,m[j]?=some q∧k=Sum.inr q.1∧v=g q.2:=by
 unfold kvG at h
 rw [List.getElem?_map] at h
 obtain⟨q,hq,e⟩:=Option.map_eq_some_iff.mp h
 cases e
 exact⟨q,hq,rfl,rfl⟩
theorem uq (g:β→V) (x:Str):∀m:List (Str×β),dY (kvG g m) (Sum.inr x)=(lkG m x).map g
 | []=>rfl
 | q:: r=>by
  unfold kvG lkG
  rw [List.map_cons]
  by_cases h:q.1=x
  ·rw [fV (by rw [h]),List.find?_cons_of_pos (by simp [h])]
   rfl
  ·rw [fJ (fun z=>h (Sum.inr.inj z)),List.find?_cons_of_neg (by simp [h])]
   exact uq g x r
theorem kW {H:Hp} {d:Addr} {m:List (Str×β)} (h:H d=some (.dK (kvG g m))) (x:Str):kh H d (.str x) ((lkG m x).map g):=by
 rw [←uq]
 exact kh.k (k:=Sum.inr x) h
theorem kvG_getF {H:Hp} {d:Addr} {o:Obj} {m:List (Str×β)} (h:H d=some (.frz o (.dK (kvG g m)))) (x:Str):kh H d (.str x) ((lkG m x).map g):=.inl ⟨_,Sum.inr x,.inr ⟨o,h⟩,rfl,(uq g x m).symm⟩
theorem wG (m:List (Str×β)) (x:Str):(m.any fun q=>decide (q.1=x))=(lkG m x).isSome:=by
 unfold lkG
 induction m with
 | nil=>rfl
 | cons q r ih=>
  rw [List.any_cons,ih]
  by_cases h:q.1=x
  ·rw [List.find?_cons_of_pos (by simp [h])];simp [h]
  ·rw [List.find?_cons_of_neg (by simp [h])];simp [h]
theorem wH (g:β→V) (m:List (Str×β)) (x:Str) (b:β):putK (kvG g m) (Sum.inr x) (g b)=kvG g (eV m x b):=by
 have e:(kvG g m).any (fun kv=>decide (kv.1=(Sum.inr x:Key)))=m.any (fun q=>decide (q.1=x)):=by
  unfold kvG
  rw [List.any_map]
  congr 1
  funext q
  simp
 unfold putK eV
 rw [e]
 split
 ·unfold kvG
  rw [List.map_map,List.map_map]
  refine List.map_congr_left fun q _=>?_
  by_cases hq:q.1=x
  ·simp [hq]
  ·simp [hq]
 ·unfold kvG
  rw [List.map_append]
  rfl
theorem fD (q:Str×β) (r:List (Str×β)) (y:Str):lkG (q:: r) y=if q.1=y then some q.2 else lkG r y:=by
 unfold lkG
 by_cases h:q.1=y
 ·rw [List.find?_cons_of_pos (by simp [h]),if_pos h];rfl
 ·rw [List.find?_cons_of_neg (by simp [h]),if_neg h]
theorem lkG_app (l r:List (Str×β)) (y:Str):lkG (l ++ r) y=(lkG l y).or (lkG r y):=by
 unfold lkG
 rw [List.find?_append]
 cases l.find? (fun q=>decide (q.1=y)) <;> simp
theorem qe (m:List (Str×β)) (x:Str) (b:β) (y:Str):lkG (eV m x b) y=if y=x then some b else lkG m y:=by
 have ha:=wG m x
 unfold eV
 split
 ·rename_i h
  rw [h] at ha
  clear h
  induction m with
  | nil=>simp [lkG] at ha
  | cons q r ih=>
   rw [List.map_cons,fD,fD]
   by_cases hq:q.1=x
   ·rw [if_pos hq]
    dsimp only
    by_cases hy:y=x
    ·rw [if_pos (hq.trans hy.symm),if_pos hy]
    ·rw [if_neg (fun z=>hy (z.symm.trans hq)),if_neg hy,if_neg (fun z=>hy (z.symm.trans hq))]
     have:∀r:List (Str×β),lkG (r.map fun q=>if q.1=x then(q.1,b) else q) y=lkG r y:=fun r=>by
      induction r with
      | nil=>rfl
      | cons p t ih2=>
       rw [List.map_cons,fD,fD,ih2]
       by_cases hp:p.1=x
       ·rw [if_pos hp]
        dsimp only
        have:¬p.1=y:=fun z=>hy (z.symm.trans hp)
        rw [if_neg this,if_neg this]
       ·rw [if_neg hp]
     exact this r
   ·rw [if_neg hq]
    have ih:=ih (by rw [fD,if_neg hq] at ha;exact ha)
    rw [ih]
    by_cases hy:q.1=y
    ·rw [if_pos hy,if_pos hy,if_neg (fun z=>hq (hy.trans z))]
    ·rw [if_neg hy,if_neg hy]
 ·rename_i h
  rw [lkG_app,fD]
  have hn:lkG m x=none:=by
   cases e:lkG m x with
   | none=>rfl
   | some b=>rw [e] at ha;exact absurd ha h
  by_cases hy:y=x
  ·subst hy
   rw [hn,if_pos rfl,if_pos rfl]
   rfl
  ·rw [if_neg (fun z=>hy z.symm),if_neg hy]
   cases lkG m y <;> rfl
theorem oU {m:List (Str×β)} {x:Str} {b:β} (h:lkG m x=some b):(x,b)∈m:=by
 unfold lkG at h
 obtain⟨q,hq,rfl⟩:=Option.map_eq_some_iff.mp h
 have h1:=List.mem_of_find?_eq_some hq
 have h2:=List.find?_some hq
 simp only [decide_eq_true_eq] at h2
 rw [←h2]
 exact h1
theorem lkG_none {m:List (Str×β)} {x:Str} (h:x∉m.map (·.1)):lkG m x=none:=by
 cases e:lkG m x with
 | none=>rfl
 | some b=>exact absurd (List.mem_map.mpr ⟨_,oU e,rfl⟩) h
theorem qx {m:List (Str×β)} {x:Str}:(lkG m x).isSome=true↔x∈m.map (·.1):=by
 constructor
 ·intro h
  obtain⟨b,e⟩:=Option.isSome_iff_exists.mp h
  exact List.mem_map.mpr ⟨_,oU e,rfl⟩
 ·intro h
  rw [←wG]
  obtain⟨q,hq,rfl⟩:=List.mem_map.mp h
  exact List.any_eq_true.mpr ⟨q,hq,by simp⟩
theorem lkG_nd:∀{m:List (Str×β)} (_:(m.map (·.1)).Nodup) {q:Str×β} (_:q∈m),lkG m q.1=some q.2
 | p:: r,nd,q,hq=>by
  rw [List.map_cons,List.nodup_cons] at nd
  rw [fD]
  rcases List.mem_cons.mp hq with rfl | h
  ·rw [if_pos rfl]
  ·rw [if_neg (fun z=>nd.1 (by rw [z];exact List.mem_map.mpr ⟨q,h,rfl⟩))]
   exact lkG_nd nd.2 h
theorem Bb {m:List (Str×β)} {x:Str} {b:β} {q:Str×β} (h:q∈eV m x b):q∈m∨q=(x,b):=by
 unfold eV at h
 split at h
 ·obtain⟨p,hp,rfl⟩:=List.mem_map.mp h
  split
  ·rename_i e;exact .inr (by rw [e])
  ·exact .inl hp
 ·rcases List.mem_append.mp h with h | h
  ·exact .inl h
  ·rw [List.mem_singleton] at h;exact .inr h
theorem vQ {m:List (Str×β)} {x:Str} (b:β) (h:x∉m.map (·.1)):eV m x b=m ++ [(x,b)]:=by
 unfold eV
 rw [wG,lkG_none h]
 exact if_neg (by simp)
theorem yU {m:List (Str×β)} {x:Str} {b:β} (h:x∈m.map (·.1)):(eV m x b).map (·.1)=m.map (·.1):=by
 unfold eV
 rw [if_pos (by rw [wG];exact qx.mpr h),List.map_map]
 refine List.map_congr_left fun q _=>?_
 dsimp only [Function.comp]
 split <;> rfl
theorem putG_nd {m:List (Str×β)} {x:Str} {b:β} (nd:(m.map (·.1)).Nodup):((eV m x b).map (·.1)).Nodup:=by
 by_cases h:x∈m.map (·.1)
 ·rw [yU h];exact nd
 ·rw [vQ b h,List.map_append,List.nodup_append]
  refine⟨nd,by simp,fun a ha c hc e=>h ?_⟩
  rw [List.map_singleton,List.mem_singleton] at hc
  have hc:c=x:=hc
  rw [←hc,←e]
  exact ha
end
theorem f1T {α:Type} {p:α→Bool} {x:α} (h:p x=true):[x].filter p=[x]:=by simp [h]
theorem f1F {α:Type} {p:α→Bool} {x:α} (h:p x=false):[x].filter p=[]:=by simp [h]
theorem yK (x:Str) (xs:List Str):inV (.str x) (xs.map V.str)=decide (x∈xs):=by
 have:=in_names (f:=fun y:Str=>y) (xs:=xs) (x:=x)
 simpa using this
theorem rZ (xs:List Str):(xs.map V.str).all uF=true:=by simp [uF]
structure Arc where
 fr:Str
 to:Str
 tk:Int
 ln:Str
 wy:Str
def Bs (a:Arc):List V:=[.str a.fr,.str a.to,.int a.tk,.str a.ln,.str a.wy]
abbrev AA:=Arc×Addr
structure ArcsR (H:Hp) (L:Addr) (ra:List AA):Prop where
 lst:H L=some (.lst (ra.map fun q=>V.ref q.2))
 at_:∀q∈ra,H q.2=some (.tup (Bs q.1))
theorem ArcsR.same {H H':Hp} {L:Addr} {ra:List AA} (h:ArcsR H L ra) (s:aW H H'):ArcsR H' L ra:=⟨s _ _ h.lst,fun q hq=>s _ _ (h.at_ q hq)⟩
theorem ArcsR.get {H:Hp} {L:Addr} {ra:List AA} (h:ArcsR H L ra) {j:Nat} {x:V} (hx:(ra.map fun q=>V.ref q.2)[j]?=some x):∃q,ra[j]?=some q∧x=.ref q.2∧H q.2=some (.tup (Bs q.1)):=by
 rw [List.getElem?_map] at hx
 obtain⟨q,hq,e⟩:=Option.map_eq_some_iff.mp hx
 exact⟨q,hq,e.symm,h.at_ q (List.mem_of_getElem? hq)⟩
def gA (f:PD→List Str) (ps:List PD) (x:Str):Str:=match ps.find? (fun p=>decide (x∈f p)) with
 | some p=>p.name
 | none=> ""
theorem m7 {f:PD→List Str} {ps:List PD} (nd:(ps.flatMap f).Nodup) {p:PD} (hp:p∈ps) {x:Str} (hx:x∈f p):gA f ps x=p.name:=by
 obtain⟨q,hq⟩:∃q,ps.find? (fun p=>decide (x∈f p))=some q:=Option.isSome_iff_exists.mp (by
  rw [List.find?_isSome]
  exact⟨p,hp,by simpa using hx⟩)
 unfold gA
 rw [hq]
 have h1:=List.mem_of_find?_eq_some hq
 have h2:=List.find?_some hq
 simp only [decide_eq_true_eq] at h2
 have e1:=dU nd h1 h2
 rw [dU nd hp hx] at e1
 simp only [Option.some.injEq,V.str.injEq] at e1
 exact e1.symm
def vh (ps:List PD) (l:LaneD):List Arc:=[⟨gA (·.outs) ps l.name,gA (·.ins) ps l.name,(l.first.length:Nat),l.name, "along"⟩,⟨gA (·.ins) ps l.name,gA (·.outs) ps l.name,l.room - (l.first.length:Nat),l.name, "against"⟩]
def selfA (p:PD):Arc:=⟨p.name,p.name,1, "", "again"⟩
def cX (ls:List LaneD) (ps:List PD):List Arc:=ls.flatMap (vh ps) ++ ps.map selfA
theorem rT (ps:List PD) (ls:List LaneD):(ls.flatMap (vh ps)).length=2 * ls.length:=by
 induction ls with
 | nil=>rfl
 | cons l r ih=>rw [List.flatMap_cons,lP,ih,List.length_cons];show 2+_=_;omega
theorem lst_cut {H:Hp} {A b:Addr} {xs:List V} {o:HO} (e:H A=some (.lst xs)) (h:H b=some o) (hu:∀ys,o≠.lst ys):bj [A] H b=some o:=dw h (by
 rw [List.mem_singleton]
 rintro rfl
 rw [e] at h
 exact hu _ (Option.some.inj h).symm)
namespace Rg
section
variable {α:Type} [DecidableEq α]
theorem pR:∀{l m:List α},l.Nodup→(∀x∈l,x∈m)→l.length≤m.length
 | [],_,_,_=>Nat.zero_le _
 | a:: r,m,nd,h=>by
  rw [List.nodup_cons] at nd
  have ha:=h a List.mem_cons_self
  have:=pR (l:=r) (m:=m.erase a) nd.2 fun x hx=>(List.mem_erase_of_ne (fun z=>nd.1 (by rw [←z];exact hx))).mpr (h x (List.mem_cons_of_mem _ hx))
  rw [List.length_erase_of_mem ha] at this
  have h1:=List.length_pos_of_mem ha
  rw [List.length_cons]
  omega
def Way (f:α→Option α):List α→Prop
 | a:: b:: r=>f a=some b∧Way f (b:: r)
 | _=>True
theorem Way.tail {f:α→Option α} {a:α} {r:List α} (h:Way f (a:: r)):Way f r:=by
 cases r with
 | nil=>exact True.intro
 | cons b r=>exact h.2
theorem Way.drop {f:α→Option α}:∀{l:List α} (n:Nat),Way f l→Way f (l.drop n)
 | _,0,h=>h
 | [],n+1,_=>by simp [Way]
 | _:: _,n+1,h=>by rw [List.drop_succ_cons];exact Way.drop n h.tail
theorem Way.init {f:α→Option α}:∀{l:List α} {x:α},Way f (l ++ [x])→Way f l
 | [],_,_=>True.intro
 | [_],_,_=>True.intro
 | a:: b:: r,x,h=>⟨h.1,Way.init (l:=b:: r) h.2⟩
theorem Way.last {f:α→Option α}:∀{l:List α} {y x:α},Way f (l ++ [y] ++ [x])→f y=some x
 | [],_,_,h=>h.1
 | [_],_,_,h=>h.2.1
 | a:: b:: r,y,x,h=>Way.last (l:=b:: r) h.2
theorem Way.snoc {f:α→Option α}:∀{l:List α} {y x:α},Way f (l ++ [y])→f y=some x→Way f (l ++ [y] ++ [x])
 | [],_,_,_,h=>⟨h,True.intro⟩
 | [a],_,_,w,h=>⟨w.1,h,True.intro⟩
 | a:: b:: r,y,x,w,h=>⟨w.1,Way.snoc (l:=b:: r) w.2 h⟩
theorem Way.congr {f g:α→Option α}:∀{l:List α},(∀x∈l,f x=g x)→Way f l→Way g l
 | [],_,_=>True.intro
 | [_],_,_=>True.intro
 | a:: b:: r,h,w=>⟨by rw [←h a List.mem_cons_self];exact w.1,Way.congr (fun x hx=>h x (List.mem_cons_of_mem _ hx)) w.2⟩
theorem Way.app {f:α→Option α}:∀{l m:List α},Way f l→Way f m→(∀a b,l.getLast?=some a→m.head?=some b→f a=some b)→Way f (l ++ m)
 | [],_,_,w,_=>w
 | [a],[],_,_,_=>True.intro
 | [a],b:: m,_,w,h=>⟨h a b rfl rfl,w⟩
 | a:: b:: r,m,w,w2,h=>⟨w.1,Way.app (l:=b:: r) w.2 w2 fun x y e e2=>h x y (by rw [List.getLast?_cons_cons];exact e) e2⟩
theorem Way.takeL {f:α→Option α}:∀{l m:List α},Way f (l ++ m)→Way f l
 | [],_,_=>True.intro
 | [_],_,_=>True.intro
 | a:: b:: r,m,h=>⟨h.1,Way.takeL (l:=b:: r) h.2⟩
theorem Way.dropL {f:α→Option α}:∀{l m:List α},Way f (l ++ m)→Way f m
 | [],_,h=>h
 | a:: r,m,h=>Way.dropL (l:=r) (Way.tail h)
theorem Way.joint {f:α→Option α}:∀{l m:List α} {a b:α},Way f (l ++ m)→l.getLast?=some a→m.head?=some b→f a=some b
 | [],_,_,_,_,e,_=>by cases e
 | [x],[],_,_,_,_,e=>by cases e
 | [x],y:: m,a,b,w,e,e2=>by
  cases e
  cases e2
  exact w.1
 | x:: y:: r,m,a,b,w,e,e2=>Way.joint (l:=y:: r) w.2 (by rw [List.getLast?_cons_cons] at e;exact e) e2
structure Round (f:α→Option α) (r:List α):Prop where
 way:Way f r
 shut:∀a b,r.getLast?=some a→r.head?=some b→f a=some b
 nd:r.Nodup
theorem Round.rot {f:α→Option α} {l m:List α} (h:Round f (l ++ m)):Round f (m ++ l):=by
 by_cases hl:l=[]
 ·subst hl;simpa using h
 by_cases hm:m=[]
 ·subst hm;simpa using h
 refine⟨h.way.dropL.app h.way.takeL fun a b e e2=>?_,fun a b e e2=>?_,?_⟩
 ·exact h.shut a b (by rw [List.getLast?_append,e];rfl) (by rw [List.head?_append,e2];rfl)
 ·obtain⟨x,hx⟩:∃x,l.getLast?=some x:=⟨l.getLast hl,List.getLast?_eq_some_getLast hl⟩
  obtain⟨y,hy⟩:∃y,m.head?=some y:=⟨m.head hm,List.head?_eq_some_head hm⟩
  rw [List.getLast?_append,hx] at e
  rw [List.head?_append,hy] at e2
  cases e
  cases e2
  exact h.way.joint hx hy
 ·have:=h.nd
  rw [List.nodup_append] at this ⊢
  exact⟨this.2.1,this.1,fun a ha b hb e=>this.2.2 b hb a ha e.symm⟩
structure Good (T:α→Int) (f:α→Option α) (w:α→Int):Prop where
 slack:∀x y,f x=some y→T x≤T y+w x
 pos:∀r,r≠[]→Round f r→0 <(r.map w).sum
theorem tele {T:α→Int} {f:α→Option α} {w:α→Int}:∀{l:List α} {a e:α},Way f (a:: l ++ [e])→(∀x∈a:: l,∀y,f x=some y→T x≤T y+w x)→T a≤T e+((a:: l).map w).sum
 | [],a,e,h,s=>by
  have:=s a List.mem_cons_self e h.1
  simpa using this
 | b:: r,a,e,h,s=>by
  have h1:=s a List.mem_cons_self b h.1
  have h2:=tele (l:=r) (a:=b) (e:=e) h.2 fun x hx=>s x (List.mem_cons_of_mem _ hx)
  rw [List.map_cons,List.sum_cons]
  omega
theorem Good.grow {T:α→Int} {f:α→Option α} {w:α→Int} (g:Good T f w) {u v:α} {c:Int} (h:T v <T u+c):
  Good (fun x=>if x=v then T u+c else T x) (fun x=>if x=v then some u else f x) (fun x=>if x=v then c else w x):=by
 have up:∀x,T x≤if x=v then T u+c else T x:=fun x=>by
  split
  ·rename_i e;subst e;omega
  ·exact Int.le_refl _
 refine⟨fun x y e=>?_,fun r hr R=>?_⟩
 ·by_cases hx:x=v
  ·subst hx
   rw [if_pos rfl] at e
   cases e
   rw [if_pos rfl,if_pos rfl]
   split
   ·rename_i e;subst e;omega
   ·exact Int.le_refl _
  ·rw [if_neg hx] at e
   rw [if_neg hx,if_neg hx]
   have:=g.slack x y e
   have:=up y
   omega
 ·by_cases hv:v∈r
  ·obtain⟨l,m,rfl⟩:=List.append_of_mem hv
   have R2:=R.rot
   have es:((l ++ v:: m).map fun x=>if x=v then c else w x).sum=(((v:: m) ++ l).map fun x=>if x=v then c else w x).sum:=by
    rw [List.map_append,List.map_append,List.sum_append,List.sum_append]
    omega
   rw [es]
   have nd:=R2.nd
   rw [List.cons_append,List.nodup_cons] at nd
   rw [List.cons_append,List.map_cons,List.sum_cons,if_pos rfl]
   have ew:((m ++ l).map fun x=>if x=v then c else w x)=(m ++ l).map w:=List.map_congr_left fun x hx=>if_neg fun z=>nd.1 (by rw [←z];exact hx)
   rw [ew]
   have way:=R2.way
   have shut:=R2.shut
   rw [List.cons_append] at way shut
   generalize m ++ l=q at nd way shut
   cases q with
   | nil=>
    have:=shut v v rfl rfl
    rw [if_pos rfl] at this
    cases this
    simp
    omega
   | cons b t=>
    have e1:(if v=v then some u else f v)=some b:=way.1
    rw [if_pos rfl] at e1
    cases e1
    have eq:∀x∈u:: t,(if x=v then some u else f x)=f x:=fun x hx=>if_neg fun z=>nd.1 (by rw [←z];exact hx)
    have w2:Way f (u:: t):=(Way.tail way).congr eq
    have w3:Way f ((u:: t) ++ [v]):=w2.app True.intro fun a b ea eb=>by
     have hb:b=v:=by simpa using eb.symm
     subst hb
     have:=shut a b (by rw [List.getLast?_cons_cons];exact ea) rfl
     rw [eq a (List.mem_of_getLast? ea)] at this
     exact this
    have:=tele (T:=T) (w:=w) (l:=t) (a:=u) (e:=v) w3 fun x _ y e=>g.slack x y e
    omega
  ·have eq:∀x∈r,(if x=v then some u else f x)=f x:=fun x hx=>if_neg fun z=>hv (by rw [←z];exact hx)
   have ew:(r.map fun x=>if x=v then c else w x)=r.map w:=List.map_congr_left fun x hx=>if_neg fun z=>hv (by rw [←z];exact hx)
   rw [ew]
   refine g.pos r hr ⟨R.way.congr eq,fun a b ea eb=>?_,R.nd⟩
   rw [←eq a (List.mem_of_getLast? ea)]
   exact R.shut a b ea eb
theorem Good.start (T:α→Int) (w:α→Int):Good T (fun _=>none) w:=by
 refine⟨fun _ _ e=>(by cases e),fun r hr R=>?_⟩
 cases r with
 | nil=>exact absurd rfl hr
 | cons a r=>
  obtain⟨b,hb⟩:∃b,(a:: r).getLast?=some b:=⟨(a:: r).getLast (by simp),List.getLast?_eq_some_getLast (by simp)⟩
  have:=R.shut b a hb rfl
  cases this
structure Rnd {A:Type} (fr to:A→α) (c:A→Int) (arcs:List A) (N:List α) (k j:Nat) (T:α→Int) (f:α→Option α) (w:α→Int) (R:α→Nat):Prop where
 good:Good T f w
 dom:∀v u,f v=some u→v∈N∧u∈N
 src:∀v,1≤R v→∃u,f v=some u∧R v≤R u+1
 le:∀v,R v≤k
 sat1:∀i a,i <j→arcs[i]?=some a→R (fr a) <k→T (fr a)+c a≤T (to a)
 sat2:2≤k→∀i a,j≤i→arcs[i]?=some a→R (fr a)+1 <k→T (fr a)+c a≤T (to a)
section
variable {A:Type} {fr to:A→α} {c:A→Int} {arcs:List A} {N:List α} {k j:Nat} {T:α→Int} {f:α→Option α} {w:α→Int} {R:α→Nat}
theorem Rnd.stay (r:Rnd fr to c arcs N k j T f w R) {a:A} (ha:arcs[j]?=some a) (h:T (fr a)+c a≤T (to a)):Rnd fr to c arcs N k (j+1) T f w R:=by
 refine⟨r.good,r.dom,r.src,r.le,fun i b hi hb hr=>?_,fun hk i b hi hb hr=>r.sat2 hk i b (by omega) hb hr⟩
 by_cases e:i=j
 ·subst e
  rw [ha] at hb
  cases hb
  exact h
 ·exact r.sat1 i b (by omega) hb hr
theorem Rnd.grow (r:Rnd fr to c arcs N k j T f w R) (hk:1≤k) {a:A} (ha:arcs[j]?=some a) (h:T (to a) <T (fr a)+c a) (h1:fr a∈N) (h2:to a∈N):
  Rnd fr to c arcs N k (j+1) (fun x=>if x=to a then T (fr a)+c a else T x) (fun x=>if x=to a then some (fr a) else f x) (fun x=>if x=to a then c a else w x) (fun x=>if x=to a then k else R x):=by
 have up:∀x,T x≤if x=to a then T (fr a)+c a else T x:=fun x=>by
  split
  ·rename_i e;rw [e];omega
  ·exact Int.le_refl _
 have rup:∀x,R x≤if x=to a then k else R x:=fun x=>by
  split
  ·exact r.le x
  ·exact Nat.le_refl _
 refine⟨r.good.grow h,fun v u e=>?_,fun v hv=>?_,fun v=>?_,fun i b hi hb hr=>?_,fun k2 i b hi hb hr=>?_⟩
 ·by_cases hx:v=to a
  ·subst hx
   rw [if_pos rfl] at e
   cases e
   exact⟨h2,h1⟩
  ·rw [if_neg hx] at e
   exact r.dom v u e
 ·by_cases hx:v=to a
  ·subst hx
   refine⟨fr a,if_pos rfl,?_⟩
   rw [if_pos rfl]
   split
   ·omega
   ·rcases Nat.lt_or_ge (R (fr a)+1) k with z | z
    ·have:=r.sat2 (by omega) j a (Nat.le_refl _) ha z
     omega
    ·exact z
  ·rw [if_neg hx] at hv
   obtain⟨u,e,hu⟩:=r.src v hv
   refine⟨u,by rw [if_neg hx];exact e,?_⟩
   rw [if_neg hx]
   have:=rup u
   omega
 ·split
  ·exact Nat.le_refl _
  ·exact r.le v
 ·have hne:fr b≠to a:=fun z=>by rw [if_pos z] at hr;omega
  rw [if_neg hne] at hr ⊢
  by_cases e:i=j
  ·subst e
   rw [ha] at hb
   cases hb
   rw [if_pos rfl]
   exact Int.le_refl _
  ·have:=r.sat1 i b (by omega) hb hr
   have:=up (to b)
   omega
 ·have hne:fr b≠to a:=fun z=>by rw [if_pos z] at hr;omega
  rw [if_neg hne] at hr ⊢
  have:=r.sat2 k2 i b (by omega) hb hr
  have:=up (to b)
  omega
theorem Rnd.next (r:Rnd fr to c arcs N k arcs.length T f w R):Rnd fr to c arcs N (k+1) 0 T f w R:=
 ⟨r.good,r.dom,r.src,fun v=>Nat.le_succ_of_le (r.le v),fun i a hi=>absurd hi (Nat.not_lt_zero _),fun _ i a _ ha hr=>r.sat1 i a (List.getElem?_eq_some_iff.mp ha).1 ha (by omega)⟩
theorem Rnd.start:Rnd fr to c arcs N 1 0 (fun _=>0) (fun _=>none) (fun _=>0) (fun _=>0):=
 ⟨.start _ _,fun _ _ e=>(by cases e),fun _ h=>absurd h (by omega),fun _=>Nat.zero_le _,fun i a hi=>absurd hi (Nat.not_lt_zero _),fun h=>absurd h (by omega)⟩
end
structure Gone (f:α→Option α) (x:α) (seen:List α) (a:α):Prop where
 way:Way f (seen ++ [a])
 nd:seen.Nodup
 hd:(seen ++ [a]).head?=some x
theorem Gone.start (f:α→Option α) (x:α):Gone f x [] x:=⟨True.intro,List.nodup_nil,rfl⟩
theorem Gone.step {f:α→Option α} {x a b:α} {seen:List α} (g:Gone f x seen a) (e:f a=some b) (h:a∉seen):Gone f x (seen ++ [a]) b:=by
 refine⟨g.way.snoc e,?_,?_⟩
 ·rw [List.nodup_append]
  exact⟨g.nd,by simp,fun y hy z hz q=>h (by rw [List.mem_singleton] at hz;rw [←hz,←q];exact hy)⟩
 ·have:=g.hd
  cases seen <;> simpa using this
theorem Gone.mem {f:α→Option α} {x a:α} {seen:List α} (g:Gone f x seen a):∀y∈seen,∃z,f y=some z:=fun y hy=>by
 obtain⟨l,m,rfl⟩:=List.append_of_mem hy
 have w:=g.way
 rw [List.append_assoc] at w
 have w:=w.dropL
 cases m with
 | nil=>exact⟨_,w.1⟩
 | cons b m=>exact⟨_,w.1⟩
theorem Gone.round {f:α→Option α} {x a:α} {seen:List α} (g:Gone f x seen a) {j:Nat} (h:seen[j]?=some a):Round f (seen.drop j)∧seen.drop j≠[]:=by
 have hj:=(List.getElem?_eq_some_iff.mp h).1
 have hne:seen.drop j≠[]:=fun z=>by have:=congrArg List.length z;rw [List.length_drop,List.length_nil] at this;omega
 have w:=g.way.drop j
 rw [List.drop_append_of_le_length (by omega)] at w
 refine⟨⟨w.init,fun y b ey eb=>?_,g.nd.sublist (List.drop_sublist _ _)⟩,hne⟩
 have hb:b=a:=by
  rw [List.head?_drop,h] at eb
  exact(Option.some.inj eb).symm
 subst hb
 exact w.joint ey rfl
theorem Gone.deep {f:α→Option α} {x a:α} {seen N:List α} {R:α→Nat} (g:Gone f x seen a) (src:∀v,1≤R v→∃u,f v=some u∧R v≤R u+1) (dom:∀v u,f v=some u→v∈N∧u∈N) (hx:x∈N) (hR:N.length≤R x) (stop:a∈seen∨f a=none):a∈seen:=by
 rcases stop with h | h
 ·exact h
 refine Classical.byContradiction fun hn=>?_
 have ra:R a=0:=by
  cases e:R a with
  | zero=>rfl
  | succ n=>
   obtain⟨u,eu,_⟩:=src a (by omega)
   rw [h] at eu
   cases eu
 have key:∀(l:List α) (y:α),Way f (l ++ [a])→(l ++ [a]).head?=some y→R y≤R a+l.length:=by
  intro l
  induction l with
  | nil=>
   intro y _ e
   have:a=y:=by simpa using e
   subst this
   exact Nat.le_refl _
  | cons b r ih=>
   intro y w e
   have:b=y:=by simpa using e
   subst this
   rcases Nat.eq_zero_or_pos (R b) with z | z
   ·omega
   ·obtain⟨u,eu,hu⟩:=src b z
    have w2:Way f (r ++ [a]):=Way.tail w
    have:(r ++ [a]).head?=some u:=by
     cases r with
     | nil=>have:=w.1;rw [eu] at this;simpa using this.symm
     | cons d r=>have:=w.1;rw [eu] at this;simpa using this.symm
    have:=ih u w2 this
    rw [List.length_cons]
    omega
 have h1:=key seen x g.way g.hd
 have hin:∀y∈seen ++ [a],y∈N:=fun y hy=>by
  rcases List.mem_append.mp hy with hs | hs
  ·obtain⟨z,ez⟩:=g.mem y hs
   exact(dom y z ez).1
  ·rw [List.mem_singleton] at hs
   subst hs
   cases hq:seen.getLast? with
   | none=>
    have:seen=[]:=by simpa using hq
    subst this
    have:=g.hd
    have:y=x:=by simpa using this
    subst this
    exact hx
   | some l=>exact(dom _ _ (g.way.joint hq rfl)).2
 have nd:(seen ++ [a]).Nodup:=by
  rw [List.nodup_append]
  exact⟨g.nd,by simp,fun y hy z hz q=>hn (by rw [List.mem_singleton] at hz;rw [←hz,←q];exact hy)⟩
 have:=pR nd hin
 rw [lP,List.length_singleton] at this
 omega
end
end Rg
structure Gd (n:Nat) (d:PyData):Prop where
 eq:PyData.eqv d d=true
 lay:PyData.canLay0 d=true
 dep:PyData.depth d≤n
theorem Gd.all {n:Nat}:∀{ds:List PyData},(∀d∈ds,Gd n d)→PyData.eqvAll ds ds=true∧PyData.canLayAll0 ds=true∧PyData.depthAll ds≤n
 | [],_=>⟨by simp [PyData.eqvAll],by simp [PyData.canLayAll0],by simp [PyData.depthAll]⟩
 | d:: r,h=>by
  obtain⟨h1,h2,h3⟩:=Gd.all (ds:=r) fun x hx=>h x (List.mem_cons_of_mem _ hx)
  have g:=h d List.mem_cons_self
  have g3:=g.dep
  refine⟨by simp [PyData.eqvAll,g.eq,h1],by simp [PyData.canLayAll0,g.lay,h2],?_⟩
  simp only [PyData.depthAll]
  omega
theorem Gd.list {n:Nat} {ds:List PyData} (h:∀d∈ds,Gd n d):Gd (n+1) (.list ds):=by
 obtain⟨h1,h2,h3⟩:=Gd.all h
 exact⟨by simp [PyData.eqv,h1],by simp [PyData.canLay0,h2],by simp only [PyData.depth];omega⟩
theorem Gd.tuple {n:Nat} {ds:List PyData} (h:∀d∈ds,Gd n d):Gd (n+1) (.tuple ds):=by
 obtain⟨h1,h2,h3⟩:=Gd.all h
 exact⟨by simp [PyData.eqv,h1],by simp [PyData.canLay0,h2],by simp only [PyData.depth];omega⟩
theorem Gd.int (n:Nat) (i:Int):Gd n (.int i):=⟨by simp [PyData.eqv],by simp [PyData.canLay0],by simp [PyData.depth]⟩
theorem Gd.str (n:Nat) {x:Str} (h:PyData.strOk x=true):Gd n (.str x):=⟨by simp [PyData.eqv],by simp [PyData.canLay0,h],by simp [PyData.depth]⟩
theorem Gd.strs (n:Nat) {xs:List Str} (h:∀x∈xs,PyData.strOk x=true):∀d∈xs.map PyData.str,Gd n d:=fun d hd=>by
 obtain⟨x,hx,rfl⟩:=List.mem_map.mp hd
 exact .str n (h x hx)
theorem Gd.shaped {n:Nat} {d:PyData} (h:Gd n d) (hn:n≤64):SeqAt.shaped d=true:=by
 have:=h.dep
 unfold SeqAt.shaped
 rw [h.lay,decide_eq_true (show d.depth≤64 by omega)]
 rfl
theorem sy {z:Str} (h:nameB z=true):PyData.strOk z=true:=by
 have e:∀c∈z.cps.toList,c <0x110000:=fun c hc=>by
  unfold nameB at h
  split at h
  ·cases h
  ·rename_i c0 r e
   rw [e] at hc
   simp only [Bool.and_eq_true,List.all_eq_true,Bool.or_eq_true] at h
   have:=h.2.2 c hc
   unfold low fig at this
   simp only [Bool.and_eq_true,decide_eq_true_eq] at this
   omega
 unfold PyData.strOk
 rw [Array.all_eq_true']
 intro c hc
 exact decide_eq_true (e c (by simpa using hc))
theorem dts_str {H:Hp}:∀xs:List Str,Dts K H (xs.map V.str) (xs.map PyData.str)
 | []=>.nil
 | x:: r=>.cons (.str x) (dts_str r)
theorem Fit.inN {ls:List LaneD} {ps:List PD} (h:Fit ls ps) {p:PD} (hp:p∈ps):(∀x∈p.ins,PyData.strOk x=true)∧∀x∈p.outs,PyData.strOk x=true:=by
 have nm:∀x∈ls.map (·.name),PyData.strOk x=true:=fun x hx=>by
  obtain⟨l,hl,rfl⟩:=List.mem_map.mp hx
  exact sy (h.lnm l hl)
 exact⟨fun x hx=>nm x (h.whole.ins.mem_iff.mp (List.mem_flatMap.mpr ⟨p,hp,hx⟩)),fun x hx=>nm x (h.whole.outs.mem_iff.mp (List.mem_flatMap.mpr ⟨p,hp,hx⟩))⟩
theorem xx {H H':Hp} {p:Addr} {o:HO} (s:aW H H') (n:H p=none):aW H (upd H' p o):=fun b u e=>by rw [aM (aD e n)];exact s _ _ e
def oddNames (ps:List PD):List Str:=(ps.filter oddB).map (·.name)
theorem Gd.bl (n:Nat) (b:Bool):Gd n (.bool b):=⟨by simp [PyData.eqv],by simp [PyData.canLay0],by simp [PyData.depth]⟩
theorem Gd.non (n:Nat):Gd n .none:=⟨by simp [PyData.eqv],by simp [PyData.canLay0],by simp [PyData.depth]⟩
def zq (a:Arc):PyData:=.tuple [.str a.fr,.str a.to,.int a.tk,.str a.ln,.str a.wy]
theorem arc_dt {H:Hp} {q:Addr} {a:Arc} (h:H q=some (.tup (Bs a))):Dt K H (.ref q) (zq a):=.tuple (SqT.of h) (.cons (.str _) (.cons (.str _) (.cons (.int _) (.cons (.str _) (.cons (.str _) .nil)))))
theorem arcs_dts {H:Hp}:∀{ra:List AA},(∀q∈ra,H q.2=some (.tup (Bs q.1)))→Dts K H (ra.map fun q=>V.ref q.2) ((ra.map (·.1)).map zq)
 | [],_=>.nil
 | q:: r,h=>.cons (arc_dt (h q List.mem_cons_self)) (arcs_dts fun z hz=>h z (List.mem_cons_of_mem _ hz))
theorem ArcsR.dt {H:Hp} {L:Addr} {ra:List AA} (h:ArcsR H L ra):Dt K H (.ref L) (.list ((ra.map (·.1)).map zq)):=.list (SqL.of h.lst) (arcs_dts h.at_)
theorem Fit.ends {ls:List LaneD} {ps:List PD} (F:Fit ls ps) {l:LaneD} (hl:l∈ls):gA (·.outs) ps l.name∈ps.map (·.name)∧gA (·.ins) ps l.name∈ps.map (·.name):=by
 obtain⟨p,hp,lp⟩:=List.mem_flatMap.mp (F.whole.outs.mem_iff.mpr (List.mem_map.mpr ⟨l,hl,rfl⟩))
 obtain⟨p2,hp2,lp2⟩:=List.mem_flatMap.mp (F.whole.ins.mem_iff.mpr (List.mem_map.mpr ⟨l,hl,rfl⟩))
 rw [m7 (F.whole.outs.nodup_iff.mpr F.whole.nod) hp lp,m7 (F.whole.ins.nodup_iff.mpr F.whole.nod) hp2 lp2]
 exact⟨List.mem_map.mpr ⟨p,hp,rfl⟩,List.mem_map.mpr ⟨p2,hp2,rfl⟩⟩
theorem Fit.arcG {ls:List LaneD} {ps:List PD} (F:Fit ls ps):∀a∈cX ls ps,Gd 1 (zq a):=fun a ha=>by
 have nm:∀x∈ps.map (·.name),PyData.strOk x=true:=fun x hx=>by
  obtain⟨p,hp,rfl⟩:=List.mem_map.mp hx
  exact sy (F.pnm p hp)
 have key:PyData.strOk a.fr=true∧PyData.strOk a.to=true∧PyData.strOk a.ln=true∧PyData.strOk a.wy=true:=by
  unfold cX at ha
  rcases List.mem_append.mp ha with h | h
  ·obtain⟨l,hl,h⟩:=List.mem_flatMap.mp h
   obtain⟨e1,e2⟩:=F.ends hl
   unfold vh at h
   simp only [List.mem_cons,List.not_mem_nil,or_false] at h
   rcases h with h | h <;> rw [h]
   ·exact⟨nm _ e1,nm _ e2,sy (F.lnm l hl),by show PyData.strOk "along" =true;decide +kernel⟩
   ·exact⟨nm _ e2,nm _ e1,sy (F.lnm l hl),by show PyData.strOk "against" =true;decide +kernel⟩
  ·obtain⟨p,hp,h⟩:=List.mem_map.mp h
   rw [←h]
   exact⟨sy (F.pnm p hp),sy (F.pnm p hp),by show PyData.strOk "" =true;decide +kernel,by show PyData.strOk "again" =true;decide +kernel⟩
 unfold zq
 refine .tuple fun d hd=>?_
 simp only [List.mem_cons,List.not_mem_nil,or_false] at hd
 rcases hd with rfl | rfl | rfl | rfl | rfl
 ·exact .str _ key.1
 ·exact .str _ key.2.1
 ·exact .int _ _
 ·exact .str _ key.2.2.1
 ·exact .str _ key.2.2.2
def sp_is_whole (K:PySem.W.Frag):Sp:=fun vs H Q _=>∃x Tx b,vs=[x]∧tyN K H x Tx∧Tx∈qD∧decide (Tx= "int")=b∧Q (.bl b) H
theorem sc_is_whole:FnScope ["thing"] ["thing"] (az mK):=⟨rfl,rfl,rfl,by decide +kernel,rfl,by decide +kernel,by decide +kernel⟩
theorem zK (T:Txt w K mg t):FnOk P w K mg base CX0 1 t.xF t.vp ["thing"] (sp_is_whole K):=by
 have sc:=sc_is_whole
 refine T.xn.ok sc (fun vs H Q E h=>?_) (fun cdv A outer s H vs Q E hr h=>?_)
 ·obtain⟨x,Tx,b,rfl,_⟩:=h
  rfl
 ·obtain⟨x,Tx,b,rfl,ty,hm,rfl,k⟩:=h
  refine⟨_,(aB (aY (pe_and (aV lY (by rfl) T.dN dq (aa (pv 0) (aa (oV (by rfl) T.n_int bt_int) ak aj) aj)) (Bk (pe_not (aV lY (by rfl) T.dN dq (aa (pv 0) (aa (oV (by rfl) T.n_bool bt_bool) ak aj) aj))))))),?_⟩
  have hm':Tx= "int" ∨Tx= "bool" ∨(subT Tx "int" =false∧Tx≠ "int"):=by
   simp only [qD,List.mem_cons,List.not_mem_nil,or_false] at hm
   rcases hm with rfl | rfl | rfl | rfl | rfl | rfl | rfl
   ·exact .inr (.inr (by decide))
   ·exact .inr (.inl rfl)
   ·exact .inl rfl
   ·exact .inr (.inr (by decide))
   ·exact .inr (.inr (by decide))
   ·exact .inr (.inr (by decide))
   ·exact .inr (.inr (by decide))
  rcases hm' with rfl | rfl | ⟨h1,h2⟩
  ·exact⟨_,rfl,x, "int", "int",true,rfl,ty,by decide,by decide,true,rfl,tV ⟨_,rfl,x, "int", "bool",false,rfl,ty,by decide,by decide,_,rfl,k⟩⟩
  ·exact⟨_,rfl,x, "bool", "int",true,rfl,ty,by decide,by decide,true,rfl,tV ⟨_,rfl,x, "bool", "bool",true,rfl,ty,by decide,by decide,_,rfl,k⟩⟩
  ·rw [decide_eq_false h2] at k
   exact⟨_,rfl,x,Tx, "int",false,rfl,ty,by decide,h1,false,rfl,cQ k⟩
def sp_is_value (K:PySem.W.Frag):Sp:=fun vs H Q _=>∃x,vs=[x]∧((∃i:Int,x=.int i∧Q (.bl (decide (0≤i) && decide (i <1000000000))) H)∨∃Tx,tyN K H x Tx∧Tx∈qD∧Tx≠ "int" ∧Q (.bl false) H)
theorem sc_is_value:FnScope ["thing"] ["thing"] (az m5):=⟨rfl,rfl,rfl,by decide +kernel,rfl,by decide +kernel,by decide +kernel⟩
theorem zL (T:Txt w K mg t):FnOk P w K mg base CX0 2 t.xH t.ww ["thing"] (sp_is_value K):=by
 have sc:=sc_is_value
 refine T.xG.ok sc (fun vs H Q E h=>?_) (fun cdv A outer s H vs Q E hr h=>?_)
 ·obtain⟨x,rfl,_⟩:=h
  rfl
 ·obtain⟨x,rfl,h⟩:=h
  refine⟨_,(aB (aY (pe_and (aJ (zK T) (hr.mono (by decide)) (by rfl) T.BP T.xn.kp T.Bu .nil aO (aa (pv 0) ak aj)) (Bk (pe_chain uI rN aq (pv 0) (nG (by rfl) T.g_VALUES)))))),?_⟩
  rcases h with ⟨i,rfl,k⟩ | ⟨Tx,ty,hm,hne,k⟩
  ·refine⟨_,rfl,.int i, "int",true,rfl,rfl,by decide,by decide,true,rfl,tV ⟨_,rfl,_,_,rfl,rfl,_,rfl,oH (fun h=>?_) (fun h=>?_)⟩⟩
   ·have h':0≤i:=of_decide_eq_true h
    rw [decide_eq_true h',Bool.true_and] at k
    exact⟨_,_,rfl,rfl,k⟩
   ·have h':¬0≤i:=fun z=>h (decide_eq_true z)
    rw [decide_eq_false h',Bool.false_and] at k
    exact k
  ·exact⟨_,rfl,x,Tx,false,rfl,ty,hm,decide_eq_false hne,false,rfl,cQ k⟩
def sp_Part___init__ (K:PySem.W.Frag) (t:Adr):Sp:=fun vs H Q _=>∃(i:Nat) (p dx a1 a2 a3:Addr) (nm:V) (ns is os:List V),vs=[.ref p,nm,.ref a1,.ref a2,.ref a3]∧H p=some (.ins (cls t i) dx [])∧SqA K H a1 ns∧SqA K H a2 is∧SqA K H a3 os∧
 ∀H',But p H H'→PartAt K t H' p i nm ns is os→Q .non H'
theorem sc_Part___init__:FnScope ["self", "name", "numbers", "ins", "outs"] ["self", "name", "numbers", "ins", "outs"] (az fc):=⟨rfl,rfl,rfl,by decide +kernel,rfl,by decide +kernel,by decide +kernel⟩
theorem bV (T:Txt w K mg t):FnOk P w K mg base CX0 1 t.bR t.mO ["self", "name", "numbers", "ins", "outs"] (sp_Part___init__ K t):=by
 have sc:=sc_Part___init__
 refine T.F_Part___init__.ok sc (fun vs H Q E h=>?_) (fun cdv A outer s H vs Q E hr h=>?_)
 ·obtain⟨i,p,dx,a1,a2,a3,nm,ns,is,os,rfl,_⟩:=h
  rfl
 ·obtain⟨i,p,dx,a1,a2,a3,nm,ns,is,os,rfl,hp,q1,q2,q3,k⟩:=h
  refine⟨_,(au (uc (pv 0) (pv 1) rfl)
   (au (uc (pv 0) (eY wD (by rfl) T.wN rM (aa (pv 2) ak aj)) rfl)
   (au (uc (pv 0) (eY wD (by rfl) T.wN rM (aa (pv 3) ak aj)) rfl)
   (aB (uc (pv 0) (eY wD (by rfl) T.wN rM (aa (pv 4) ak aj)) rfl))))),?_⟩
  refine⟨_,rfl,_,rfl,p,cls t i,dx,[],rfl,hp,uf T i,z9 T i,by show 0 <1000;decide,?_⟩
  have b1:But p H (upd H p (.ins (cls t i) dx (bh "name" nm []))):=But.write
  have e1:(upd H p (.ins (cls t i) dx (bh "name" nm []))) p=some (.ins (cls t i) dx (bh "name" nm [])):=aA
  generalize upd H p (.ins (cls t i) dx (bh "name" nm []))=H1 at b1 e1 ⊢
  have r2:=b1.seqA hp q2
  have r3:=b1.seqA hp q3
  refine⟨_,rfl,a1,ns,rfl,b1.seqA hp q1,fun H2 u2 s2 t2=>⟨_,rfl,p,cls t i,dx,_,rfl,s2 _ _ e1,uf T i,na_numbers T i,Nat.lt_of_le_of_lt (wQ (Nat.zero_le 0)) (by decide),?_⟩⟩
  have e2:=s2 _ _ e1
  have b2:But p H2 (upd H2 p (.ins (cls t i) dx (bh "numbers" (.ref u2) (bh "name" nm [])))):=But.write
  have e3:(upd H2 p (.ins (cls t i) dx (bh "numbers" (.ref u2) (bh "name" nm [])))) p=some (.ins (cls t i) dx (bh "numbers" (.ref u2) (bh "name" nm []))):=aA
  generalize upd H2 p (.ins (cls t i) dx (bh "numbers" (.ref u2) (bh "name" nm [])))=H3 at b2 e3 ⊢
  have r2':=b2.seqA e2 (s2.seqA r2)
  have r3':=b2.seqA e2 (s2.seqA r3)
  have t2':=b2.seqT e2 t2
  refine⟨_,rfl,a2,is,rfl,r2',fun H4 u4 s4 t4=>⟨_,rfl,p,cls t i,dx,_,rfl,s4 _ _ e3,uf T i,na_ins T i,Nat.lt_of_le_of_lt (wQ (wQ (Nat.zero_le 0))) (by decide),?_⟩⟩
  have e4:=s4 _ _ e3
  have b4:But p H4 (upd H4 p (.ins (cls t i) dx (bh "ins" (.ref u4) (bh "numbers" (.ref u2) (bh "name" nm []))))):=But.write
  have e5:(upd H4 p (.ins (cls t i) dx (bh "ins" (.ref u4) (bh "numbers" (.ref u2) (bh "name" nm []))))) p=some (.ins (cls t i) dx (bh "ins" (.ref u4) (bh "numbers" (.ref u2) (bh "name" nm [])))):=aA
  generalize upd H4 p (.ins (cls t i) dx (bh "ins" (.ref u4) (bh "numbers" (.ref u2) (bh "name" nm []))))=H5 at b4 e5 ⊢
  have r3'':=b4.seqA e4 (s4.seqA r3')
  have t2'':=b4.seqT e4 (s4.seqT t2')
  have t4':=b4.seqT e4 t4
  refine⟨_,rfl,a3,os,rfl,r3'',fun H6 u6 s6 t6=>⟨_,rfl,p,cls t i,dx,_,rfl,s6 _ _ e5,uf T i,na_outs T i,Nat.lt_of_le_of_lt (wQ (wQ (wQ (Nat.zero_le 0)))) (by decide),?_⟩⟩
  have e6:=s6 _ _ e5
  refine k _ (b1.trans ((But.of_same s2).trans (b2.trans ((But.of_same s4).trans (b4.trans ((But.of_same s6).trans But.write)))))) ⟨dx,u2,u4,u6,aA,?_,?_,?_⟩
  ·exact But.write.seqT e6 (s6.seqT t2'')
  ·exact But.write.seqT e6 (s6.seqT t4')
  ·exact But.write.seqT e6 t6
theorem sc_Give_kind:FnScope ["self"] ["self"] (az lQ):=⟨rfl,rfl,rfl,by decide +kernel,rfl,by decide +kernel,by decide +kernel⟩
theorem ok_Give_kind (T:Txt w K mg t):FnOk P w K mg base CX0 1 t.vD t.tW ["self"] (iQ 0):=by
 have sc:=sc_Give_kind
 refine T.F_Give_kind.ok sc (fun vs H Q E h=>?_) (fun cdv A outer s H vs Q E hr h=>?_)
 ·obtain⟨x,rfl,_⟩:=h
  rfl
 ·obtain⟨x,rfl,k⟩:=h
  refine⟨_,(aB (aY bM)),?_⟩
  exact k
theorem sc_Take_kind:FnScope ["self"] ["self"] (az lA):=⟨rfl,rfl,rfl,by decide +kernel,rfl,by decide +kernel,by decide +kernel⟩
theorem ok_Take_kind (T:Txt w K mg t):FnOk P w K mg base CX0 1 t.vK t.sr ["self"] (iQ 1):=by
 have sc:=sc_Take_kind
 refine T.F_Take_kind.ok sc (fun vs H Q E h=>?_) (fun cdv A outer s H vs Q E hr h=>?_)
 ·obtain⟨x,rfl,_⟩:=h
  rfl
 ·obtain⟨x,rfl,k⟩:=h
  refine⟨_,(aB (aY bM)),?_⟩
  exact k
theorem sc_Pass_kind:FnScope ["self"] ["self"] (az lu):=⟨rfl,rfl,rfl,by decide +kernel,rfl,by decide +kernel,by decide +kernel⟩
theorem ok_Pass_kind (T:Txt w K mg t):FnOk P w K mg base CX0 1 t.vI t.um ["self"] (iQ 2):=by
 have sc:=sc_Pass_kind
 refine T.F_Pass_kind.ok sc (fun vs H Q E h=>?_) (fun cdv A outer s H vs Q E hr h=>?_)
 ·obtain⟨x,rfl,_⟩:=h
  rfl
 ·obtain⟨x,rfl,k⟩:=h
  refine⟨_,(aB (aY bM)),?_⟩
  exact k
theorem sc_Copy_kind:FnScope ["self"] ["self"] (az lJ):=⟨rfl,rfl,rfl,by decide +kernel,rfl,by decide +kernel,by decide +kernel⟩
theorem ok_Copy_kind (T:Txt w K mg t):FnOk P w K mg base CX0 1 t.wA t.uD ["self"] (iQ 3):=by
 have sc:=sc_Copy_kind
 refine T.F_Copy_kind.ok sc (fun vs H Q E h=>?_) (fun cdv A outer s H vs Q E hr h=>?_)
 ·obtain⟨x,rfl,_⟩:=h
  rfl
 ·obtain⟨x,rfl,k⟩:=h
  refine⟨_,(aB (aY bM)),?_⟩
  exact k
theorem sc_Turn_kind:FnScope ["self"] ["self"] (az lD):=⟨rfl,rfl,rfl,by decide +kernel,rfl,by decide +kernel,by decide +kernel⟩
theorem ok_Turn_kind (T:Txt w K mg t):FnOk P w K mg base CX0 1 t.vV t.sY ["self"] (iQ 4):=by
 have sc:=sc_Turn_kind
 refine T.F_Turn_kind.ok sc (fun vs H Q E h=>?_) (fun cdv A outer s H vs Q E hr h=>?_)
 ·obtain⟨x,rfl,_⟩:=h
  rfl
 ·obtain⟨x,rfl,k⟩:=h
  refine⟨_,(aB (aY bM)),?_⟩
  exact k
theorem sc_Heap_kind:FnScope ["self"] ["self"] (az lR):=⟨rfl,rfl,rfl,by decide +kernel,rfl,by decide +kernel,by decide +kernel⟩
theorem ok_Heap_kind (T:Txt w K mg t):FnOk P w K mg base CX0 1 t.uY t.sE ["self"] (iQ 5):=by
 have sc:=sc_Heap_kind
 refine T.F_Heap_kind.ok sc (fun vs H Q E h=>?_) (fun cdv A outer s H vs Q E hr h=>?_)
 ·obtain⟨x,rfl,_⟩:=h
  rfl
 ·obtain⟨x,rfl,k⟩:=h
  refine⟨_,(aB (aY bM)),?_⟩
  exact k
theorem sc_Add_kind:FnScope ["self"] ["self"] (az mZ):=⟨rfl,rfl,rfl,by decide +kernel,rfl,by decide +kernel,by decide +kernel⟩
theorem ok_Add_kind (T:Txt w K mg t):FnOk P w K mg base CX0 1 t.xP t.uT ["self"] (iQ 6):=by
 have sc:=sc_Add_kind
 refine T.F_Add_kind.ok sc (fun vs H Q E h=>?_) (fun cdv A outer s H vs Q E hr h=>?_)
 ·obtain⟨x,rfl,_⟩:=h
  rfl
 ·obtain⟨x,rfl,k⟩:=h
  refine⟨_,(aB (aY bM)),?_⟩
  exact k
theorem sc_Less_kind:FnScope ["self"] ["self"] (az lH):=⟨rfl,rfl,rfl,by decide +kernel,rfl,by decide +kernel,by decide +kernel⟩
theorem ok_Less_kind (T:Txt w K mg t):FnOk P w K mg base CX0 1 t.vM t.su ["self"] (iQ 7):=by
 have sc:=sc_Less_kind
 refine T.F_Less_kind.ok sc (fun vs H Q E h=>?_) (fun cdv A outer s H vs Q E hr h=>?_)
 ·obtain⟨x,rfl,_⟩:=h
  rfl
 ·obtain⟨x,rfl,k⟩:=h
  refine⟨_,(aB (aY bM)),?_⟩
  exact k
theorem sc_Order_kind:FnScope ["self"] ["self"] (az iK):=⟨rfl,rfl,rfl,by decide +kernel,rfl,by decide +kernel,by decide +kernel⟩
theorem ok_Order_kind (T:Txt w K mg t):FnOk P w K mg base CX0 1 t.sX t.qN ["self"] (iQ 8):=by
 have sc:=sc_Order_kind
 refine T.F_Order_kind.ok sc (fun vs H Q E h=>?_) (fun cdv A outer s H vs Q E hr h=>?_)
 ·obtain⟨x,rfl,_⟩:=h
  rfl
 ·obtain⟨x,rfl,k⟩:=h
  refine⟨_,(aB (aY bM)),?_⟩
  exact k
theorem sc_Choose_kind:FnScope ["self"] ["self"] (az gQ):=⟨rfl,rfl,rfl,by decide +kernel,rfl,by decide +kernel,by decide +kernel⟩
theorem ok_Choose_kind (T:Txt w K mg t):FnOk P w K mg base CX0 1 t.q9 t.pB ["self"] (iQ 9):=by
 have sc:=sc_Choose_kind
 refine T.F_Choose_kind.ok sc (fun vs H Q E h=>?_) (fun cdv A outer s H vs Q E hr h=>?_)
 ·obtain⟨x,rfl,_⟩:=h
  rfl
 ·obtain⟨x,rfl,k⟩:=h
  refine⟨_,(aB (aY bM)),?_⟩
  exact k
theorem sc_Split_kind:FnScope ["self"] ["self"] (az iJ):=⟨rfl,rfl,rfl,by decide +kernel,rfl,by decide +kernel,by decide +kernel⟩
theorem ok_Split_kind (T:Txt w K mg t):FnOk P w K mg base CX0 1 t.ut t.rn ["self"] (iQ 10):=by
 have sc:=sc_Split_kind
 refine T.F_Split_kind.ok sc (fun vs H Q E h=>?_) (fun cdv A outer s H vs Q E hr h=>?_)
 ·obtain⟨x,rfl,_⟩:=h
  rfl
 ·obtain⟨x,rfl,k⟩:=h
  refine⟨_,(aB (aY bM)),?_⟩
  exact k
def sp_is_kind:Sp:=fun vs H Q _=>∃z:Str,vs=[.str z]∧Q (.bl (rowOf ROWS z).isSome) H
theorem sc_is_kind:FnScope ["word"] ["word"] (az oZ):=⟨rfl,rfl,rfl,by decide +kernel,rfl,by decide +kernel,by decide +kernel⟩
theorem Bp (T:Txt w K mg t):FnOk P w K mg base CX0 1 t.zp t.xQ ["word"] (sp_is_kind):=by
 have sc:=sc_is_kind
 refine T.za.ok sc (fun vs H Q E h=>?_) (fun cdv A outer s H vs Q E hr h=>?_)
 ·obtain⟨z,rfl,_⟩:=h
  rfl
 ·obtain⟨z,rfl,k⟩:=h
  refine⟨_,(aB (aY (pe_cmp (pc_inK (pv 0) (pe_glob (v:=.ref _) (by rfl) T.mt_COUNTS rfl)) (by with_unfolding_all rfl)))),?_⟩
  exact⟨_,rfl,t.nQ,ROWS,z,rfl,T.t_COUNTS,rfl,k⟩
def sp_need_fit (K:PySem.W.Frag):Sp:=fun vs H Q _=>∃(i:Nat) (nm:V) (a1 a2 a3:Addr) (ns is os:List V),vs=[.str (fL i),nm,.ref a1,.ref a2,.ref a3]∧SqA K H a1 ns∧SqA K H a2 is∧SqA K H a3 os∧
 ns.length=cN i∧is.length=cI i∧os.length=cO i∧(∀v∈ns,Val v)∧∀H',aW H H'→Q .non H'
theorem sc_need_fit:FnScope ["kind", "name", "numbers", "ins", "outs", "counts"] ["kind", "name", "numbers", "ins", "outs"] (az lg):=⟨rfl,rfl,rfl,by decide +kernel,rfl,by decide +kernel,by decide +kernel⟩
theorem ok_need_fit (T:Txt w K mg t):FnOk P w K mg base CX0 3 t.xJ t.vJ ["kind", "name", "numbers", "ins", "outs"] (sp_need_fit K):=by
 have sc:=sc_need_fit
 refine T.BJ.ok sc (fun vs H Q E h=>?_) (fun cdv A outer s H vs Q E hr h=>?_)
 ·obtain⟨i,nm,a1,a2,a3,ns,is,os,rfl,_⟩:=h
  rfl
 ·obtain⟨i,nm,a1,a2,a3,ns,is,os,rfl,h1,h2,h3,l1,l2,l3,hv,k⟩:=h
  refine⟨_,(au (bT (dZ (dM (aJ (Bp T) (hr.mono (by decide)) (by rfl) T.m_is_kind T.za.kp T.b_is_kind .nil aO (aa (pv 0) ak aj))))
    (aB eE)
    bD)
   (au (aZ (i:=5) sc.nd rfl (Or.inl rfl) (pe_getK (pe_glob (v:=.ref _) (by rfl) T.mt_COUNTS rfl) (pv 0) (fun _ _=>rfl)))
   (au (bT (PW.pt (mH (bf zM (aV bN (by rfl) T.du cC (aa (pv 2) ak aj)) (aQ bJ (pv 5) aq (fun _ _=>rfl)) (bL _)) (mz (dZ (dM (aV (Br rfl) (by rfl) T.n_all bt_all (aa (iR [] ["kind", "name", "numbers", "ins", "outs", "counts"] (az lg) rfl (pi_or (dg (pv 2)) (pi_tup (pv 2))) (fun _ _ _ _ _=>mD) (fun _ _ _ _ _=>(aJ (zL T) (hr.mono (by decide)) (by rfl) T.BR T.xG.kp T.Bc .nil aO (aa (pv 0) ak aj)))) ak gP)))))))
    (aB eE)
    bD)
   (aB (bT (PW.pt (mH (bf zM (aV bN (by rfl) T.du cC (aa (pv 3) ak aj)) (aQ bJ (pv 5) aq (fun _ _=>rfl)) (bL _)) (mz (bf zM (aV bN (by rfl) T.du cC (aa (pv 4) ak aj)) (aQ bJ (pv 5) aq (fun _ _=>rfl)) (bL _)))))
    (aB eE)
    bD))))),?_⟩
  have hl:sizeLine=16777216:=sizeLine_eq
  have hN:=cN_le i
  have hI:=cI_le i
  have hO:=cO_le i
  refine⟨_,rfl,fL i,rfl,true,by rw [row_of];rfl,cQ ?_⟩
  refine⟨_,rfl,t.nQ,ROWS,fL i,_,rfl,T.t_COUNTS,rfl,row_of i,fun ad had=>?_⟩
  refine⟨_,rfl,.ref a1,ns.length,rfl,h1.len,_,rfl,ad,_,0,_,rfl,rfl,had,aK (j:=0) rfl,rfl,_,rfl,?_⟩
  rw [show(!decide (V.int ((ns.length:Nat):Int)=V.int ((cN i:Nat):Int)))=false by rw [l1];simp]
  refine cQ ?_
  refine comp_A (a:=a1) (xs:=ns) ?_ h1 (fun j ys=>ys=(List.replicate j true).map V.bl) (by omega) rfl (fun j ys e=>by rw [e];simp) (fun j x ys hx e=>?_) (fun ys e D hD=>?_)
  ·exact fun R r=>⟨_,rfl,r⟩
  ·subst e
   obtain⟨n,rfl,n0,n1⟩:=hv x (List.mem_of_getElem? hx)
   refine yes ⟨_,rfl,.int n,rfl,.inl ⟨n,rfl,rfl,?_⟩⟩
   rw [decide_eq_true n0,decide_eq_true n1,List.replicate_succ']
   simp
  ·subst e
   refine⟨D,_,rfl,SqL.of aA,_,rfl,?_⟩
   rw [show((List.replicate ns.length true).all id)=true by simp]
   refine cQ ?_
   have s1:aW H (upd H D (.lst ((List.replicate ns.length true).map V.bl))):=aH hD
   refine⟨_,rfl,.ref a2,is.length,rfl,(s1.seqA h2).len,_,rfl,ad,_,1,_,rfl,rfl,s1.seqT had,aK (j:=1) rfl,rfl,_,rfl,?_⟩
   rw [show(!decide (V.int ((is.length:Nat):Int)=V.int ((cI i:Nat):Int)))=false by rw [l2];simp]
   refine cQ ?_
   refine⟨_,rfl,.ref a3,os.length,rfl,(s1.seqA h3).len,_,rfl,ad,_,2,_,rfl,rfl,s1.seqT had,aK (j:=2) rfl,rfl,_,rfl,?_⟩
   rw [show(!decide (V.int ((os.length:Nat):Int)=V.int ((cO i:Nat):Int)))=false by rw [l3];simp]
   exact cQ (k _ s1)
def sp_made_of (K:PySem.W.Frag) (t:Adr):Sp:=fun vs H Q _=>∃(i:Nat) (nm:V) (a1 a2 a3:Addr) (ns is os:List V),vs=[.str (fL i),nm,.ref a1,.ref a2,.ref a3]∧i≤10∧SqA K H a1 ns∧SqA K H a2 is∧SqA K H a3 os∧
 ∀H' p,aW H H'→H p=none→PartAt K t H' p i nm ns is os→Q (.ref p) H'
theorem sc_made_of:FnScope ["kind", "name", "numbers", "ins", "outs"] ["kind", "name", "numbers", "ins", "outs"] (az oY):=⟨rfl,rfl,rfl,by decide +kernel,rfl,by decide +kernel,by decide +kernel⟩
theorem ok_made_of (T:Txt w K mg t):FnOk P w K mg base CX0 3 t.yQ t.xW ["kind", "name", "numbers", "ins", "outs"] (sp_made_of K t):=by
 have sc:=sc_made_of
 refine T.F_made_of.ok sc (fun vs H Q E h=>?_) (fun cdv A outer s H vs Q E hr h=>?_)
 ·obtain⟨i,nm,a1,a2,a3,ns,is,os,rfl,_⟩:=h
  rfl
 ·obtain⟨i,nm,a1,a2,a3,ns,is,os,rfl,hi,h1,h2,h3,k⟩:=h
  refine⟨_,(au (bT (bf iG (pv 0) bM (bL _))
    (aB (aY (kJ T.M_Give (bV T) (hr.mono (by decide)) (by rfl) T.mc_Give T.bY .nil aO (aa (pv 1) (aa (pv 2) (aa (pv 3) (aa (pv 4) ak aj) aj) aj) aj))))
    bD)
   (au (bT (bf iG (pv 0) bM (bL _))
    (aB (aY (kJ T.M_Take (bV T) (hr.mono (by decide)) (by rfl) T.mc_Take T.bY .nil aO (aa (pv 1) (aa (pv 2) (aa (pv 3) (aa (pv 4) ak aj) aj) aj) aj))))
    bD)
   (au (bT (bf iG (pv 0) bM (bL _))
    (aB (aY (kJ T.M_Pass (bV T) (hr.mono (by decide)) (by rfl) T.mc_Pass T.bY .nil aO (aa (pv 1) (aa (pv 2) (aa (pv 3) (aa (pv 4) ak aj) aj) aj) aj))))
    bD)
   (au (bT (bf iG (pv 0) bM (bL _))
    (aB (aY (kJ T.M_Copy (bV T) (hr.mono (by decide)) (by rfl) T.mc_Copy T.bY .nil aO (aa (pv 1) (aa (pv 2) (aa (pv 3) (aa (pv 4) ak aj) aj) aj) aj))))
    bD)
   (au (bT (bf iG (pv 0) bM (bL _))
    (aB (aY (kJ T.M_Turn (bV T) (hr.mono (by decide)) (by rfl) T.mc_Turn T.bY .nil aO (aa (pv 1) (aa (pv 2) (aa (pv 3) (aa (pv 4) ak aj) aj) aj) aj))))
    bD)
   (au (bT (bf iG (pv 0) bM (bL _))
    (aB (aY (kJ T.M_Heap (bV T) (hr.mono (by decide)) (by rfl) T.mc_Heap T.bY .nil aO (aa (pv 1) (aa (pv 2) (aa (pv 3) (aa (pv 4) ak aj) aj) aj) aj))))
    bD)
   (au (bT (bf iG (pv 0) bM (bL _))
    (aB (aY (kJ T.M_Add (bV T) (hr.mono (by decide)) (by rfl) T.mc_Add T.bY .nil aO (aa (pv 1) (aa (pv 2) (aa (pv 3) (aa (pv 4) ak aj) aj) aj) aj))))
    bD)
   (au (bT (bf iG (pv 0) bM (bL _))
    (aB (aY (kJ T.M_Less (bV T) (hr.mono (by decide)) (by rfl) T.mc_Less T.bY .nil aO (aa (pv 1) (aa (pv 2) (aa (pv 3) (aa (pv 4) ak aj) aj) aj) aj))))
    bD)
   (au (bT (bf iG (pv 0) bM (bL _))
    (aB (aY (kJ T.M_Order (bV T) (hr.mono (by decide)) (by rfl) T.mc_Order T.bY .nil aO (aa (pv 1) (aa (pv 2) (aa (pv 3) (aa (pv 4) ak aj) aj) aj) aj))))
    bD)
   (au (bT (bf iG (pv 0) bM (bL _))
    (aB (aY (kJ T.M_Choose (bV T) (hr.mono (by decide)) (by rfl) T.mc_Choose T.bY .nil aO (aa (pv 1) (aa (pv 2) (aa (pv 3) (aa (pv 4) ak aj) aj) aj) aj))))
    bD)
   (aB (aY (kJ T.M_Split (bV T) (hr.mono (by decide)) (by rfl) T.mc_Split T.bY .nil aO (aa (pv 1) (aa (pv 2) (aa (pv 3) (aa (pv 4) ak aj) aj) aj) aj)))))))))))))),?_⟩
  match i,hi with
  | 0,_=>
   refine⟨_,rfl,rfl,_,rfl,uK rfl ?_⟩
   refine⟨_,rfl,_,rfl,_,rfl,_,rfl,fun x dx nx ndx nex=>?_⟩
   have s0:aW H (upd (upd H dx (.own x)) x (.ins t.dI dx [])):=fun b o e=>by rw [aM (aD e nx),aM (aD e ndx)];exact e
   exact⟨0,x,dx,a1,a2,a3,nm,ns,is,os,rfl,aA,s0.seqA h1,s0.seqA h2,s0.seqA h3,fun H' b P=>⟨rfl,k H' x (fun c o e=>b c o (aD e nx) (s0 c o e)) nx P⟩⟩
  | 1,_=>
   refine⟨_,rfl,rfl,_,rfl,cY (by decide +kernel) ?_⟩
   refine⟨_,rfl,rfl,_,rfl,uK rfl ?_⟩
   refine⟨_,rfl,_,rfl,_,rfl,_,rfl,fun x dx nx ndx nex=>?_⟩
   have s0:aW H (upd (upd H dx (.own x)) x (.ins t.dH dx [])):=fun b o e=>by rw [aM (aD e nx),aM (aD e ndx)];exact e
   exact⟨1,x,dx,a1,a2,a3,nm,ns,is,os,rfl,aA,s0.seqA h1,s0.seqA h2,s0.seqA h3,fun H' b P=>⟨rfl,k H' x (fun c o e=>b c o (aD e nx) (s0 c o e)) nx P⟩⟩
  | 2,_=>
   refine⟨_,rfl,rfl,_,rfl,cY (by decide +kernel) ?_⟩
   refine⟨_,rfl,rfl,_,rfl,cY (by decide +kernel) ?_⟩
   refine⟨_,rfl,rfl,_,rfl,uK rfl ?_⟩
   refine⟨_,rfl,_,rfl,_,rfl,_,rfl,fun x dx nx ndx nex=>?_⟩
   have s0:aW H (upd (upd H dx (.own x)) x (.ins t.dD dx [])):=fun b o e=>by rw [aM (aD e nx),aM (aD e ndx)];exact e
   exact⟨2,x,dx,a1,a2,a3,nm,ns,is,os,rfl,aA,s0.seqA h1,s0.seqA h2,s0.seqA h3,fun H' b P=>⟨rfl,k H' x (fun c o e=>b c o (aD e nx) (s0 c o e)) nx P⟩⟩
  | 3,_=>
   refine⟨_,rfl,rfl,_,rfl,cY (by decide +kernel) ?_⟩
   refine⟨_,rfl,rfl,_,rfl,cY (by decide +kernel) ?_⟩
   refine⟨_,rfl,rfl,_,rfl,cY (by decide +kernel) ?_⟩
   refine⟨_,rfl,rfl,_,rfl,uK rfl ?_⟩
   refine⟨_,rfl,_,rfl,_,rfl,_,rfl,fun x dx nx ndx nex=>?_⟩
   have s0:aW H (upd (upd H dx (.own x)) x (.ins t.dB dx [])):=fun b o e=>by rw [aM (aD e nx),aM (aD e ndx)];exact e
   exact⟨3,x,dx,a1,a2,a3,nm,ns,is,os,rfl,aA,s0.seqA h1,s0.seqA h2,s0.seqA h3,fun H' b P=>⟨rfl,k H' x (fun c o e=>b c o (aD e nx) (s0 c o e)) nx P⟩⟩
  | 4,_=>
   refine⟨_,rfl,rfl,_,rfl,cY (by decide +kernel) ?_⟩
   refine⟨_,rfl,rfl,_,rfl,cY (by decide +kernel) ?_⟩
   refine⟨_,rfl,rfl,_,rfl,cY (by decide +kernel) ?_⟩
   refine⟨_,rfl,rfl,_,rfl,cY (by decide +kernel) ?_⟩
   refine⟨_,rfl,rfl,_,rfl,uK rfl ?_⟩
   refine⟨_,rfl,_,rfl,_,rfl,_,rfl,fun x dx nx ndx nex=>?_⟩
   have s0:aW H (upd (upd H dx (.own x)) x (.ins t.dF dx [])):=fun b o e=>by rw [aM (aD e nx),aM (aD e ndx)];exact e
   exact⟨4,x,dx,a1,a2,a3,nm,ns,is,os,rfl,aA,s0.seqA h1,s0.seqA h2,s0.seqA h3,fun H' b P=>⟨rfl,k H' x (fun c o e=>b c o (aD e nx) (s0 c o e)) nx P⟩⟩
  | 5,_=>
   refine⟨_,rfl,rfl,_,rfl,cY (by decide +kernel) ?_⟩
   refine⟨_,rfl,rfl,_,rfl,cY (by decide +kernel) ?_⟩
   refine⟨_,rfl,rfl,_,rfl,cY (by decide +kernel) ?_⟩
   refine⟨_,rfl,rfl,_,rfl,cY (by decide +kernel) ?_⟩
   refine⟨_,rfl,rfl,_,rfl,cY (by decide +kernel) ?_⟩
   refine⟨_,rfl,rfl,_,rfl,uK rfl ?_⟩
   refine⟨_,rfl,_,rfl,_,rfl,_,rfl,fun x dx nx ndx nex=>?_⟩
   have s0:aW H (upd (upd H dx (.own x)) x (.ins t.dG dx [])):=fun b o e=>by rw [aM (aD e nx),aM (aD e ndx)];exact e
   exact⟨5,x,dx,a1,a2,a3,nm,ns,is,os,rfl,aA,s0.seqA h1,s0.seqA h2,s0.seqA h3,fun H' b P=>⟨rfl,k H' x (fun c o e=>b c o (aD e nx) (s0 c o e)) nx P⟩⟩
  | 6,_=>
   refine⟨_,rfl,rfl,_,rfl,cY (by decide +kernel) ?_⟩
   refine⟨_,rfl,rfl,_,rfl,cY (by decide +kernel) ?_⟩
   refine⟨_,rfl,rfl,_,rfl,cY (by decide +kernel) ?_⟩
   refine⟨_,rfl,rfl,_,rfl,cY (by decide +kernel) ?_⟩
   refine⟨_,rfl,rfl,_,rfl,cY (by decide +kernel) ?_⟩
   refine⟨_,rfl,rfl,_,rfl,cY (by decide +kernel) ?_⟩
   refine⟨_,rfl,rfl,_,rfl,uK rfl ?_⟩
   refine⟨_,rfl,_,rfl,_,rfl,_,rfl,fun x dx nx ndx nex=>?_⟩
   have s0:aW H (upd (upd H dx (.own x)) x (.ins t.gw dx [])):=fun b o e=>by rw [aM (aD e nx),aM (aD e ndx)];exact e
   exact⟨6,x,dx,a1,a2,a3,nm,ns,is,os,rfl,aA,s0.seqA h1,s0.seqA h2,s0.seqA h3,fun H' b P=>⟨rfl,k H' x (fun c o e=>b c o (aD e nx) (s0 c o e)) nx P⟩⟩
  | 7,_=>
   refine⟨_,rfl,rfl,_,rfl,cY (by decide +kernel) ?_⟩
   refine⟨_,rfl,rfl,_,rfl,cY (by decide +kernel) ?_⟩
   refine⟨_,rfl,rfl,_,rfl,cY (by decide +kernel) ?_⟩
   refine⟨_,rfl,rfl,_,rfl,cY (by decide +kernel) ?_⟩
   refine⟨_,rfl,rfl,_,rfl,cY (by decide +kernel) ?_⟩
   refine⟨_,rfl,rfl,_,rfl,cY (by decide +kernel) ?_⟩
   refine⟨_,rfl,rfl,_,rfl,cY (by decide +kernel) ?_⟩
   refine⟨_,rfl,rfl,_,rfl,uK rfl ?_⟩
   refine⟨_,rfl,_,rfl,_,rfl,_,rfl,fun x dx nx ndx nex=>?_⟩
   have s0:aW H (upd (upd H dx (.own x)) x (.ins t.dJ dx [])):=fun b o e=>by rw [aM (aD e nx),aM (aD e ndx)];exact e
   exact⟨7,x,dx,a1,a2,a3,nm,ns,is,os,rfl,aA,s0.seqA h1,s0.seqA h2,s0.seqA h3,fun H' b P=>⟨rfl,k H' x (fun c o e=>b c o (aD e nx) (s0 c o e)) nx P⟩⟩
  | 8,_=>
   refine⟨_,rfl,rfl,_,rfl,cY (by decide +kernel) ?_⟩
   refine⟨_,rfl,rfl,_,rfl,cY (by decide +kernel) ?_⟩
   refine⟨_,rfl,rfl,_,rfl,cY (by decide +kernel) ?_⟩
   refine⟨_,rfl,rfl,_,rfl,cY (by decide +kernel) ?_⟩
   refine⟨_,rfl,rfl,_,rfl,cY (by decide +kernel) ?_⟩
   refine⟨_,rfl,rfl,_,rfl,cY (by decide +kernel) ?_⟩
   refine⟨_,rfl,rfl,_,rfl,cY (by decide +kernel) ?_⟩
   refine⟨_,rfl,rfl,_,rfl,cY (by decide +kernel) ?_⟩
   refine⟨_,rfl,rfl,_,rfl,uK rfl ?_⟩
   refine⟨_,rfl,_,rfl,_,rfl,_,rfl,fun x dx nx ndx nex=>?_⟩
   have s0:aW H (upd (upd H dx (.own x)) x (.ins t.cL dx [])):=fun b o e=>by rw [aM (aD e nx),aM (aD e ndx)];exact e
   exact⟨8,x,dx,a1,a2,a3,nm,ns,is,os,rfl,aA,s0.seqA h1,s0.seqA h2,s0.seqA h3,fun H' b P=>⟨rfl,k H' x (fun c o e=>b c o (aD e nx) (s0 c o e)) nx P⟩⟩
  | 9,_=>
   refine⟨_,rfl,rfl,_,rfl,cY (by decide +kernel) ?_⟩
   refine⟨_,rfl,rfl,_,rfl,cY (by decide +kernel) ?_⟩
   refine⟨_,rfl,rfl,_,rfl,cY (by decide +kernel) ?_⟩
   refine⟨_,rfl,rfl,_,rfl,cY (by decide +kernel) ?_⟩
   refine⟨_,rfl,rfl,_,rfl,cY (by decide +kernel) ?_⟩
   refine⟨_,rfl,rfl,_,rfl,cY (by decide +kernel) ?_⟩
   refine⟨_,rfl,rfl,_,rfl,cY (by decide +kernel) ?_⟩
   refine⟨_,rfl,rfl,_,rfl,cY (by decide +kernel) ?_⟩
   refine⟨_,rfl,rfl,_,rfl,cY (by decide +kernel) ?_⟩
   refine⟨_,rfl,rfl,_,rfl,uK rfl ?_⟩
   refine⟨_,rfl,_,rfl,_,rfl,_,rfl,fun x dx nx ndx nex=>?_⟩
   have s0:aW H (upd (upd H dx (.own x)) x (.ins t.bZ dx [])):=fun b o e=>by rw [aM (aD e nx),aM (aD e ndx)];exact e
   exact⟨9,x,dx,a1,a2,a3,nm,ns,is,os,rfl,aA,s0.seqA h1,s0.seqA h2,s0.seqA h3,fun H' b P=>⟨rfl,k H' x (fun c o e=>b c o (aD e nx) (s0 c o e)) nx P⟩⟩
  | 10,_=>
   refine⟨_,rfl,rfl,_,rfl,cY (by decide +kernel) ?_⟩
   refine⟨_,rfl,rfl,_,rfl,cY (by decide +kernel) ?_⟩
   refine⟨_,rfl,rfl,_,rfl,cY (by decide +kernel) ?_⟩
   refine⟨_,rfl,rfl,_,rfl,cY (by decide +kernel) ?_⟩
   refine⟨_,rfl,rfl,_,rfl,cY (by decide +kernel) ?_⟩
   refine⟨_,rfl,rfl,_,rfl,cY (by decide +kernel) ?_⟩
   refine⟨_,rfl,rfl,_,rfl,cY (by decide +kernel) ?_⟩
   refine⟨_,rfl,rfl,_,rfl,cY (by decide +kernel) ?_⟩
   refine⟨_,rfl,rfl,_,rfl,cY (by decide +kernel) ?_⟩
   refine⟨_,rfl,rfl,_,rfl,cY (by decide +kernel) ?_⟩
   refine⟨_,rfl,_,rfl,_,rfl,_,rfl,fun x dx nx ndx nex=>?_⟩
   have s0:aW H (upd (upd H dx (.own x)) x (.ins t.cM dx [])):=fun b o e=>by rw [aM (aD e nx),aM (aD e ndx)];exact e
   exact⟨10,x,dx,a1,a2,a3,nm,ns,is,os,rfl,aA,s0.seqA h1,s0.seqA h2,s0.seqA h3,fun H' b P=>⟨rfl,k H' x (fun c o e=>b c o (aD e nx) (s0 c o e)) nx P⟩⟩
  | (n+11),h=>exact absurd h (by omega)
def sp_part_made (K:PySem.W.Frag) (t:Adr):Sp:=fun vs H Q _=>∃(i:Nat) (nm:V) (a1 a2 a3:Addr) (ns is os:List V),vs=[.str (fL i),nm,.ref a1,.ref a2,.ref a3]∧i≤10∧SqA K H a1 ns∧SqA K H a2 is∧SqA K H a3 os∧
 ns.length=cN i∧is.length=cI i∧os.length=cO i∧(∀v∈ns,Val v)∧∀H' p,aW H H'→H p=none→PartAt K t H' p i nm ns is os→Q (.ref p) H'
theorem sc_part_made:FnScope ["kind", "name", "numbers", "ins", "outs"] ["kind", "name", "numbers", "ins", "outs"] (az lG):=⟨rfl,rfl,rfl,by decide +kernel,rfl,by decide +kernel,by decide +kernel⟩
theorem ok_part_made (T:Txt w K mg t):FnOk P w K mg base CX0 4 t.vB t.sI ["kind", "name", "numbers", "ins", "outs"] (sp_part_made K t):=by
 have sc:=sc_part_made
 refine T.zz.ok sc (fun vs H Q E h=>?_) (fun cdv A outer s H vs Q E hr h=>?_)
 ·obtain⟨i,nm,a1,a2,a3,ns,is,os,rfl,_⟩:=h
  rfl
 ·obtain⟨i,nm,a1,a2,a3,ns,is,os,rfl,hi,h1,h2,h3,l1,l2,l3,hv,k⟩:=h
  refine⟨_,(au (bH (aJ (ok_need_fit T) (hr.mono (by decide)) (by rfl) T.m_need_fit T.BJ.kp T.b_need_fit .nil aO (aa (pv 0) (aa (pv 1) (aa (pv 2) (aa (pv 3) (aa (pv 4) ak aj) aj) aj) aj) aj)))
   (aB (aY (aJ (ok_made_of T) (hr.mono (by decide)) (by rfl) T.m_made_of T.F_made_of.kp T.b_made_of .nil aO (aa (pv 0) (aa (pv 1) (aa (pv 2) (aa (pv 3) (aa (pv 4) ak aj) aj) aj) aj) aj))))),?_⟩
  refine⟨_,rfl,_,rfl,_,rfl,_,rfl,_,rfl,i,nm,a1,a2,a3,ns,is,os,rfl,h1,h2,h3,l1,l2,l3,hv,fun H1 s1=>?_⟩
  exact⟨_,rfl,_,rfl,_,rfl,_,rfl,_,rfl,i,nm,a1,a2,a3,ns,is,os,rfl,hi,s1.seqA h1,s1.seqA h2,s1.seqA h3,fun H2 p s2 np P=>k H2 p (s1.trans s2) (s1.free np) P⟩
def sp__law_mix:Sp:=fun vs H Q _=>∃a b:Int,vs=[.int a,.int b]∧Q (.int (cg a b)) H
theorem sc__law_mix:FnScope ["_law_cell_here", "_law_k", "_law_number"] ["_law_cell_here", "_law_k"] (az mW):=⟨rfl,rfl,rfl,by decide +kernel,rfl,by decide +kernel,by decide +kernel⟩
theorem bc (T:Txt w K mg t):FnOk P w K mg base CX0 1 t.xU t.vq ["_law_cell_here", "_law_k"] (sp__law_mix):=by
 have sc:=sc__law_mix
 refine T.bz.ok sc (fun vs H Q E h=>?_) (fun cdv A outer s H vs Q E hr h=>?_)
 ·obtain⟨a,b,rfl,_⟩:=h
  rfl
 ·obtain⟨a,b,rfl,k⟩:=h
  refine⟨_,(au (aZ (i:=2) sc.nd rfl (Or.inl rfl) (bw cB (bw dm (bw dm (bw mF (bw cB (pv 0) aq) aq) (bw mF aq (pv 1))) aq) aq))
   (au (aZ (i:=2) sc.nd rfl (Or.inl rfl) (bw cB (bw mF (pv 2) (pv 2)) aq))
   (aB (aY (bw cB (bw mF (bw dm (pv 2) (bw mF aq (pv 1))) (pv 2)) aq))))),?_⟩
  refine⟨_,rfl,_,_,rfl,rfl,by show(0:Int) <2147483647;decide,_,_,rfl,rfl,mulOk_smallR,_,rfl,_,_,rfl,rfl,qC,_,_,rfl,rfl,_,_,rfl,rfl,_,_,rfl,rfl,by show(0:Int) <2147483647;decide,?_⟩
  unfold cg at k
  have y0:0≤(a % 2147483647 * 48271+7919 * b+11) % 2147483647:=Int.emod_nonneg _ (by decide)
  have y1:(a % 2147483647 * 48271+7919 * b+11) % 2147483647 <2147483647:=Int.emod_lt_of_pos _ (by decide)
  refine⟨_,rfl,_,rfl,_,_,rfl,rfl,.of_right (intBits_le_64 (Int.lt_of_lt_of_le (show -(2 ^ 64) <(0:Int) by decide) y0) (Int.lt_trans y1 (by decide))),_,_,rfl,rfl,by show(0:Int) <2147483629;decide,?_⟩
  have z0:0≤((a % 2147483647 * 48271+7919 * b+11) % 2147483647) * ((a % 2147483647 * 48271+7919 * b+11) % 2147483647) % 2147483629:=Int.emod_nonneg _ (by decide)
  have z1:((a % 2147483647 * 48271+7919 * b+11) % 2147483647) * ((a % 2147483647 * 48271+7919 * b+11) % 2147483647) % 2147483629 <2147483629:=Int.emod_lt_of_pos _ (by decide)
  exact⟨_,rfl,_,rfl,_,_,rfl,rfl,qC,_,_,rfl,rfl,_,rfl,_,_,rfl,rfl,.of_right (intBits_le_64 (Int.lt_of_lt_of_le (show -(2 ^ 64) <(0:Int) by decide) z0) (Int.lt_trans z1 (by decide))),_,_,rfl,rfl,by show(0:Int) <2147483587;decide,k⟩
def sp__law_cell (K:PySem.W.Frag):Sp:=fun vs H Q _=>∃(a:Addr) (ns:List Int) (j:Nat),vs=[.ref a,.int (j:Nat)]∧SqL K H a (ns.map V.int)∧Q (.int (oJ ns j)) H
theorem sc__law_cell:FnScope ["_law_script", "_law_k"] ["_law_script", "_law_k"] (az lB):=⟨rfl,rfl,rfl,by decide +kernel,rfl,by decide +kernel,by decide +kernel⟩
theorem uv (T:Txt w K mg t):FnOk P w K mg base CX0 1 t.vO t.tU ["_law_script", "_law_k"] (sp__law_cell K):=by
 have sc:=sc__law_cell
 refine T.qm.ok sc (fun vs H Q E h=>?_) (fun cdv A outer s H vs Q E hr h=>?_)
 ·obtain⟨a,ns,j,rfl,_⟩:=h
  rfl
 ·obtain⟨a,ns,j,rfl,hS,k⟩:=h
  refine⟨_,(au (bT (bf rN (pv 1) (aV bN (by rfl) T.du cC (aa (pv 0) ak aj)) (bL _))
    (aB (aY (aQ bA (pv 0) (pv 1) (fun _ _=>rfl))))
    bD)
   (aB (aY (bw dm (bw mF aq (pv 1)) aq)))),?_⟩
  unfold oJ at k
  refine⟨_,rfl,_,rfl,.ref a,ns.length,rfl,.inl ⟨_,hS,by simp⟩,_,_,rfl,rfl,_,rfl,oH (fun h=>?_) (fun h=>?_)⟩
  ·have h':j <ns.length:=by have:=of_decide_eq_true h;omega
   rw [List.getElem?_eq_getElem h'] at k
   exact⟨_,rfl,_,rfl,a,_,j,_,rfl,rfl,hS,aK (by rw [List.getElem?_map,List.getElem?_eq_getElem h'];rfl),k⟩
  ·have h':¬j <ns.length:=fun z=>h (decide_eq_true (by omega))
   rw [List.getElem?_eq_none (by omega)] at k
   exact⟨_,rfl,_,_,rfl,rfl,qC,_,_,rfl,rfl,k⟩
def sp__law_value:Sp:=fun vs H Q _=>∃a b:Int,vs=[.int a,.int b]∧Q (.int (rF a b)) H
theorem sc__law_value:FnScope ["_law_cell_here", "_law_k", "_law_number", "_law_way"] ["_law_cell_here", "_law_k"] (az iY):=⟨rfl,rfl,rfl,by decide +kernel,rfl,by decide +kernel,by decide +kernel⟩
theorem kE (T:Txt w K mg t):FnOk P w K mg base CX0 2 t.tZ t.qT ["_law_cell_here", "_law_k"] (sp__law_value):=by
 have sc:=sc__law_value
 refine T.iV.ok sc (fun vs H Q E h=>?_) (fun cdv A outer s H vs Q E hr h=>?_)
 ·obtain⟨a,b,rfl,_⟩:=h
  rfl
 ·obtain⟨a,b,rfl,k⟩:=h
  refine⟨_,(au (aZ (i:=2) sc.nd rfl (Or.inl rfl) (aJ (bc T) (hr.mono (by decide)) (by rfl) T.bC T.bz.kp T.bB .nil aO (aa (pv 0) (aa (pv 1) ak aj) aj)))
   (au (aZ (i:=3) sc.nd rfl (Or.inl rfl) (bw cB (bw Bt (pv 2) aq) aq))
   (au (bT (bf iG (pv 3) aq (bL _))
    (aB (aY (bw cB (pv 2) aq)))
    bD)
   (au (bT (bf iG (pv 3) aq (bL _))
    (aB (aY (bw cB (pv 2) (bw op_pow aq aq))))
    bD)
   (aB (aY (bw xR (bw xR (bw op_pow aq aq) aq) (bw cB (pv 2) aq)))))))),?_⟩
  refine⟨_,rfl,_,rfl,a,b,rfl,?_⟩
  unfold rF at k
  have n0:=zP a b
  generalize cg a b=n at n0 k ⊢
  refine⟨_,rfl,_,_,rfl,rfl,divOk (by decide) (by decide),_,_,rfl,rfl,by show(0:Int) <3;decide,?_⟩
  refine⟨_,rfl,rfl,_,rfl,oH (fun h=>?_) (fun h=>?_)⟩
  ·have h':n / 7 % 3=0:=by simpa using of_decide_eq_true h
   rw [if_pos h'] at k
   exact⟨_,rfl,_,_,rfl,rfl,by show(0:Int) <5;decide,k⟩
  have h':¬n / 7 % 3=0:=fun z=>h (decide_eq_true (by show V.int (n / 7 % 3)=V.int 0;rw [z]))
  rw [if_neg h'] at k
  refine⟨_,rfl,rfl,_,rfl,oH (fun h2=>?_) (fun h2=>?_)⟩
  ·have h2':n / 7 % 3=1:=by simpa using of_decide_eq_true h2
   rw [if_pos h2'] at k
   exact⟨_,rfl,_,_,rfl,rfl,⟨by decide,by decide,by decide⟩,_,_,rfl,rfl,by show(0:Int) <10 ^ 9;decide,k⟩
  have h2':¬n / 7 % 3=1:=fun z=>h2 (decide_eq_true (by show V.int (n / 7 % 3)=V.int 1;rw [z]))
  rw [if_neg h2'] at k
  exact⟨_,_,rfl,rfl,⟨by decide,by decide,by decide⟩,_,_,rfl,rfl,_,rfl,_,_,rfl,rfl,by show(0:Int) <3;decide,_,_,rfl,rfl,k⟩
theorem str_ext {x y:Str} (h:x.cps.toList=y.cps.toList):x=y:=PyProof.Rows.ext_toList h
theorem log_small {n:Int} (h0:0≤n) (h1:n <2000):n.natAbs.log2 <1920:=by
 by_cases z:n.natAbs=0
 ·rw [z]
  decide
 ·have:n.natAbs.log2 <11:=(Nat.log2_lt z).mpr (by omega)
  omega
theorem join_ones (cs:List Nat):(Txt.join Str.empty (cs.map fun c=>(⟨#[c]⟩:Str))).cps.toList=cs:=by
 unfold Txt.join
 rw [StrLaws.glued_eq_join,Bj]
 induction cs with
 | nil=>rfl
 | cons c r ih=>simpa using ih
theorem cut_to {x:Str} {n:Nat} (h:n≤x.length):(Txt.slice x none (some (n:Int))).cps.toList=x.cps.toList.take n:=by
 have e:=beq_iff_eq.mp (PyProof.Rows.slice_closes_toL (x:=x) (j:=(n:Int)) (by omega) (by omega))
 rw [e]
 simp
theorem cut_from {x:Str} {n:Nat} (h:n≤x.length):(Txt.slice x (some (n:Int)) none).cps.toList=x.cps.toList.drop n:=by
 have e:=PyProof.Rows.slice_from_eq (x:=x) (i:=(n:Int)) (b:=(x.length:Int)) (by omega) (by omega) rfl
 rw [e]
 show List.take ((x.length:Int) - n).toNat (List.drop ((n:Int)).toNat x.cps.toList)=_
 rw [Int.toNat_natCast,List.take_of_length_le (by rw [List.length_drop,oW];omega)]
def sp__law_word:Sp:=fun vs H Q _=>∃(a:Int) (b:Nat),vs=[.int a,.int (b:Nat)]∧b≤25∧∀H':Hp,aW H H'→Q (.str (cG a b)) H'
theorem sc__law_word:FnScope ["_law_cell_here", "_law_k", "_law_letters", "_law_many", "_law_base", "_law_at"] ["_law_cell_here", "_law_k"] (az ir):=⟨rfl,rfl,rfl,by decide +kernel,rfl,by decide +kernel,by decide +kernel⟩
theorem oN (T:Txt w K mg t):FnOk P w K mg base CX0 2 t.uR t.tH ["_law_cell_here", "_law_k"] (sp__law_word):=by
 have sc:=sc__law_word
 refine T.nC.ok sc (fun vs H Q E h=>?_) (fun cdv A outer s H vs Q E hr h=>?_)
 ·obtain⟨a,b,rfl,_⟩:=h
  rfl
 ·obtain⟨a,b,rfl,b1,k⟩:=h
  refine⟨_,(au (aZ (i:=2) sc.nd rfl (Or.inr rfl) bM)
   (au (bT (bf iG (bw cB (aJ (bc T) (hr.mono (by decide)) (by rfl) T.bC T.bz.kp T.bB .nil aO (aa (pv 0) (aa aq ak ao) aj)) aq) aq (bL _))
    (aB (aY (bw yc (aQ ix_str (pv 2) (bw cB (aJ (bc T) (hr.mono (by decide)) (by rfl) T.bC T.bz.kp T.bB .nil aO (aa (pv 0) (aa aq ak ao) aj)) aq) (fun _ _=>rfl)) (eY call_str_int (by rfl) T.n_str bt_str (aa (bw dm (bw cB (aJ (bc T) (hr.mono (by decide)) (by rfl) T.bC T.bz.kp T.bB .nil aO (aa (pv 0) (aa aq ak ao) aj)) aq) (bw mF aq (pv 1))) ak bW)))))
    bD)
   (au (aZ (i:=3) sc.nd rfl (Or.inl rfl) (bw cB (aJ (bc T) (hr.mono (by decide)) (by rfl) T.bC T.bz.kp T.bB .nil aO (aa (pv 0) (aa aq ak ao) aj)) aq))
   (au (aZ (i:=4) sc.nd rfl (Or.inl rfl) (mJ PySem.F.plainAttrs_str PySem.F.slot_str_join PySem.F.type_str_join mt_join bM (aa (iR [0,2] ["_law_cell_here", "_law_k", "_law_letters", "_law_many", "_law_base", "_law_at"] (az ir) rfl (gU rfl T.lV (aa (pv 3) ak aj)) (fun _ _ _ _ _=>mD) (fun _ _ _ _ _=>(aQ ix_str (pv 2) (bw cB (aJ (bc T) (hr.mono (by decide)) (by rfl) T.bC T.bz.kp T.bB .nil aO (aa (pv 1) (aa (bw dm aq (pv 0)) ak bW) aj)) aq) (fun _ _=>rfl)))) ak gP)))
   (au (aZ (i:=5) sc.nd rfl (Or.inl rfl) (bw cB (aJ (bc T) (hr.mono (by decide)) (by rfl) T.bC T.bz.kp T.bB .nil aO (aa (pv 0) (aa aq ak ao) aj)) (bw dm (pv 3) aq)))
   (aB (aY (bw yc (bw yc (pQ sl_str (pv 4) wL (qp (pv 5))) (aQ ix_str (pv 2) (bw cB (bw dm (aJ (bc T) (hr.mono (by decide)) (by rfl) T.bC T.bz.kp T.bB .nil aO (aa (pv 0) (aa aq ak ao) aj)) (pv 1)) aq) (fun _ _=>rfl))) (pQ sl_str (pv 4) (qp (pv 5)) wL))))))))),?_⟩
  have hl:sizeLine=16777216:=sizeLine_eq
  have hF:(cG a b).cps.toList=zy a b:=Bh a b
  unfold zy at hF
  refine⟨_,rfl,_,_,rfl,⟨_,_,rfl,rfl,by show(0:Int) <3;decide,rfl,_,rfl,oH (fun hw=>?_) (fun hw=>?_)⟩⟩
  ·have hw':cg a 52 % 3=0:=by simpa using of_decide_eq_true hw
   rw [if_pos hw'] at hF
   refine⟨_,rfl,_,rfl,_,_,rfl,?_⟩
   refine⟨_,_,rfl,rfl,by show(0:Int) <26;decide,LT,_,_,rfl,rfl,by rw [lt_len];omega,lt_at _,?_⟩
   refine⟨_,rfl,_,_,rfl,⟨_,_,rfl,rfl,by show(0:Int) <1000;decide,_,rfl,_,_,rfl,rfl,qC,_,_,rfl,rfl,?_⟩⟩
   have q0:=Int.emod_nonneg (cg a 54) (show(1000:Int)≠0 by decide)
   have q1:=Int.emod_lt_of_pos (cg a 54) (show(0:Int) <1000 by decide)
   obtain⟨m,hm⟩:∃m:Nat,cg a 54 % 1000+37 * (b:Int)=(m:Int):=⟨(cg a 54 % 1000+37 * (b:Int)).toNat,by omega⟩
   obtain⟨_,g2,_⟩:=wB (n:=m) (by omega)
   have g3:(toString (m:Int):Str).length≤4:=by rw [←oW];exact g2
   have e:(⟨#[ltc (cg a 53)]⟩:Str) ++ (toString (m:Int):Str)=cG a b:=str_ext (by
    rw [hF,Str.cps_append,hm,Int.toNat_natCast]
    simp only [Array.toList_append]
    rfl)
   have k':=k H (aW.refl _)
   rw [←e] at k'
   dsimp only
   rw [hm]
   exact⟨_,rfl,log_small (by omega) (by omega),_,_,rfl,rfl,by show 1+_≤sizeLine;omega,k'⟩
  have hw':¬cg a 52 % 3=0:=fun z=>hw (decide_eq_true (by show V.int (cg a 52 % 3)=V.int 0;rw [z]))
  rw [if_neg hw'] at hF
  refine⟨_,rfl,_,_,rfl,⟨_,_,rfl,rfl,by show(0:Int) <7;decide,?_⟩⟩
  have z0:=Int.emod_nonneg (cg a 50) (show(7:Int)≠0 by decide)
  have z1:=Int.emod_lt_of_pos (cg a 50) (show(0:Int) <7 by decide)
  refine⟨rfl,_,rfl,cg a 50 % 7,rfl,by omega,by omega,?_⟩
  refine o9 (fun i ys H'=>H'=H∧ys=((List.range i).map fun j=>ltc (cg a (60+(j:Nat)))).map fun c=>V.str ⟨#[c]⟩) (by omega) ⟨rfl,rfl⟩ (fun i ys H' ⟨_,e⟩=>by rw [e,lM,lM,List.length_range];omega) ?_ ?_
  ·rintro i ys H' hi ⟨rfl,rfl⟩
   refine yes ?_
   refine⟨_,rfl,_,rfl,_,rfl,_,_,rfl,rfl,_,_,rfl,?_⟩
   refine⟨_,_,rfl,rfl,by show(0:Int) <26;decide,LT,_,_,rfl,rfl,by rw [lt_len];omega,lt_at _,rfl,?_⟩
   rw [List.range_succ,List.map_append,List.map_append]
   simp
  rintro ys H' ⟨rfl,rfl⟩ D hD
  have eb:((List.range (cg a 50 % 7).toNat).map fun j=>ltc (cg a (60+(j:Nat))))=gj a:=rfl
  rw [eb]
  have s1:aW H' (upd H' D (.lst ((gj a).map fun c=>V.str ⟨#[c]⟩))):=aH hD
  have bl:=(Ba a).1
  have es:((gj a).map fun c=>V.str ⟨#[c]⟩)=((gj a).map fun c=>(⟨#[c]⟩:Str)).map V.str:=by rw [List.map_map];rfl
  refine⟨Str.empty,D,(gj a).map fun c=>(⟨#[c]⟩:Str),rfl,rfl,SqL.of (by rw [←es];exact aA),?_,?_⟩
  ·have:=sum_le (n:=1) ((gj a).map fun c=>(⟨#[c]⟩:Str)) fun w h=>by
    obtain⟨c,_,rfl⟩:=List.mem_map.mp h
    exact Nat.le_refl 1
   have he:Str.empty.length=0:=rfl
   rw [he]
   rw [lM] at this
   omega
  have ej:=join_ones (gj a)
  generalize upd H' D (.lst ((gj a).map fun c=>V.str ⟨#[c]⟩))=H1 at s1 ⊢
  generalize Txt.join Str.empty ((gj a).map fun c=>(⟨#[c]⟩:Str))=x0 at ej ⊢
  have hx0:x0.length=(gj a).length:=by rw [←oW,ej]
  refine⟨_,rfl,_,_,rfl,⟨_,rfl,_,_,rfl,rfl,_,_,rfl,rfl,by show(0:Int) <cg a 50 % 7+1;omega,?_⟩⟩
  have hsp:=spot_le a
  obtain⟨n,hn,hn2⟩:∃n:Nat,cg a 51 % (cg a 50 % 7+1)=(n:Int)∧n=qy a:=⟨qy a,(Int.toNat_of_nonneg (Int.emod_nonneg _ (by omega))).symm,rfl⟩
  rw [←hn2] at hsp hF
  dsimp only
  rw [hn]
  have s0:=Txt.slice_le x0 none (some (n:Int))
  have s2:=Txt.slice_le x0 (some (n:Int)) none
  refine⟨_,rfl,_,rfl,_,rfl,x0,rfl,by omega,_,rfl,_,rfl,_,_,rfl,⟨_,rfl,_,_,rfl,rfl,?_⟩⟩
  have h1:(⟨#[ltc (cg a 55+(b:Int))]⟩:Str).length=1:=rfl
  refine⟨_,_,rfl,rfl,by show(0:Int) <26;decide,LT,_,_,rfl,rfl,by rw [lt_len];omega,lt_at _,_,_,rfl,rfl,by rw [h1];omega,?_⟩
  refine⟨_,rfl,_,rfl,_,rfl,x0,rfl,by omega,_,_,rfl,rfl,by rw [Str.length_append,h1];omega,?_⟩
  have e:Txt.slice x0 none (some (n:Int)) ++ (⟨#[ltc (cg a 55+(b:Int))]⟩:Str) ++ Txt.slice x0 (some (n:Int)) none=cG a b:=str_ext (by
   rw [hF,Str.cps_append,Str.cps_append]
   simp only [Array.toList_append]
   rw [cut_to (by omega),cut_from (by omega),ej]
   simp)
  rw [e]
  exact k H1 s1
theorem pick5 (m:Int):∃c:Nat,atI [V.int 0,.int 0,.int 0,.int 1,.int 2] (m % 5)=some (.int (c:Nat))∧c≤2:=by
 have key:∀j,j <5→atI [V.int 0,.int 0,.int 0,.int 1,.int 2] ((j:Nat):Int)=some (.int (([0,0,0,1,2]:List Nat).getD j 0:Nat))∧([0,0,0,1,2]:List Nat).getD j 0≤2:=by decide +kernel
 obtain⟨j,e,hj⟩:=zf m (n:=5) (k:=5) (by decide) rfl
 rw [e]
 exact⟨_,key j hj⟩
theorem pick6 (m:Int):∃c:Nat,atI [V.int 0,.int 0,.int 1,.int 1,.int 2,.int 7] (m % 6)=some (.int (c:Nat))∧c≤7:=by
 have key:∀j,j <6→atI [V.int 0,.int 0,.int 1,.int 1,.int 2,.int 7] ((j:Nat):Int)=some (.int (([0,0,1,1,2,7]:List Nat).getD j 0:Nat))∧([0,0,1,1,2,7]:List Nat).getD j 0≤7:=by decide +kernel
 obtain⟨j,e,hj⟩:=zf m (n:=6) (k:=6) (by decide) rfl
 rw [e]
 exact⟨_,key j hj⟩
def sp__law_lane:Sp:=fun vs H Q _=>∃(d:Dw) (ls:List LaneD) (ps:List PD) (os:List Str) (c:Int) (b:Bool),vs=[.ref d.S,.int c,.bl b]∧DAt d H ls ps os∧ls.length≤24∧∀(l:LaneD) (H':Hp),l.name=cG d.c3 ls.length→aW (bj d.E H) (bj d.E H')→DAt d H' (ls ++ [l]) ps os→Q (.str l.name) H'
theorem sc__law_lane:FnScope ["_law_state", "_law_cell_here", "_law_back", "_law_many", "_law_first", "_law_room", "_law_name"] ["_law_state", "_law_cell_here", "_law_back"] (az iu):=⟨rfl,rfl,rfl,by decide +kernel,rfl,by decide +kernel,by decide +kernel⟩
theorem lX (T:Txt w K mg t):FnOk P w K mg base CX0 3 t.v8 t.sW ["_law_state", "_law_cell_here", "_law_back"] (sp__law_lane):=by
 have sc:=sc__law_lane
 refine T.lz.ok sc (fun vs H Q E h=>?_) (fun cdv A outer s H vs Q E hr h=>?_)
 ·obtain⟨d,ls,ps,os,c,b,rfl,_⟩:=h
  rfl
 ·obtain⟨d,ls,ps,os,c,b,rfl,D,hn,k⟩:=h
  refine⟨_,(au (aZ (i:=3) sc.nd rfl (Or.inl rfl) (aQ bA (bO (aa aq (aa aq (aa aq (aa aq (aa aq ak ao) ao) ao) ao) ao)) (bw cB (aJ (bc T) (hr.mono (by decide)) (by rfl) T.bC T.bz.kp T.bB .nil aO (aa (pv 1) (aa aq ak ao) aj)) aq) (fun _ _=>rfl)))
   (au (fj (bT (dM (pv 2))
    (aB (aZ (i:=3) sc.nd rfl (Or.inl rfl) (bw cB (aJ (bc T) (hr.mono (by decide)) (by rfl) T.bC T.bz.kp T.bB .nil aO (aa (pv 1) (aa aq ak ao) aj)) aq)))
    bD))
   (au (yg (i:=4) [1] ["_law_state", "_law_cell_here", "_law_back", "_law_many", "_law_first", "_law_room", "_law_name"] (az iu) rfl sc.nd rfl (gU rfl T.lV (aa (pv 3) ak aj)) (fun _ _ _ _ _=>mD) (fun _ _ _ _ _=>(aJ (kE T) (hr.mono (by decide)) (by rfl) T.mj T.iV.kp T.mG .nil aO (aa (pv 1) (aa (bw dm aq (pv 0)) ak bW) aj))))
   (au (aZ (i:=5) sc.nd rfl (Or.inl rfl) (bw dm (aV (call_max2 rfl) (by rfl) T.n_max bt_max (aa aq (aa (pv 3) ak aj) ao)) (aQ bA (bO (aa aq (aa aq (aa aq (aa aq (aa aq (aa aq ak ao) ao) ao) ao) ao) ao)) (bw cB (aJ (bc T) (hr.mono (by decide)) (by rfl) T.bC T.bz.kp T.bB .nil aO (aa (pv 1) (aa aq ak ao) aj)) aq) (fun _ _=>rfl))))
   (au (aZ (i:=6) sc.nd rfl (Or.inl rfl) (aJ (oN T) (hr.mono (by decide)) (by rfl) T.qd T.nC.kp T.qF .nil aO (aa (aQ bA (pv 0) aq (fun _ _=>rfl)) (aa (aV bN (by rfl) T.du cC (aa (aQ bA (pv 0) aq (fun _ _=>rfl)) ak aF)) ak aX) aF)))
   (au (bH (mJ PySem.F.plainAttrs_list PySem.F.slot_list_append PySem.F.type_list_append gK (aQ bA (pv 0) aq (fun _ _=>rfl)) (aa (ie (aa (pv 6) (aa (pv 5) (aa (pv 4) ak aj) aj) aj)) ak iB)))
   (aB (aY (pv 6))))))))),?_⟩
  have hl:sizeLine=16777216:=sizeLine_eq
  refine⟨by show 5≤sizeLine;exact szl,fun l0 n0=>?_⟩
  have s0:=aH (o:=.lst [.int 0,.int 0,.int 0,.int 1,.int 2]) n0
  obtain⟨c0,e0,h0⟩:=pick5 (cg c 1)
  refine⟨_,rfl,_,_,rfl,_,_,rfl,rfl,by show(0:Int) <5;decide,l0,_,_,_,rfl,rfl,SqL.of aA,e0,?_⟩
  generalize upd H l0 (.lst [.int 0,.int 0,.int 0,.int 1,.int 2])=H0 at s0 ⊢
  refine⟨fun σ H1=>∃m:Nat,m≤3∧H1=H0∧σ=[some (.ref d.S),some (.int c),some (.bl b),some (.int (m:Nat)),none,none,none],?_,?_⟩
  ·cases b
   ·exact⟨_,rfl,false,rfl,cQ ⟨c0,by omega,rfl,rfl⟩⟩
   ·refine⟨_,rfl,true,rfl,tV ⟨_,rfl,_,_,rfl,_,_,rfl,rfl,by show(0:Int) <4;decide,?_⟩⟩
    have h1:=Int.emod_nonneg (cg c 1) (show(4:Int)≠0 by decide)
    have h2:=Int.emod_lt_of_pos (cg c 1) (show(0:Int) <4 by decide)
    refine⟨(cg c 1 % 4).toNat,by omega,rfl,?_⟩
    rw [Int.toNat_of_nonneg h1]
    rfl
  rintro σ H1 ⟨m,hm,rfl,rfl⟩
  refine⟨_,rfl,(m:Int),rfl,by omega,by omega,?_⟩
  rw [Int.toNat_natCast]
  refine o9 (fun i ys H'=>H'=H1∧∃ws:List Int,ys=ws.map V.int∧ws.length=i∧∀v∈ws,0≤v∧v <1000000000) (by omega) ⟨rfl,[],rfl,rfl,by simp⟩ (fun i ys H' ⟨_,ws,e,e2,_⟩=>by rw [e,lM];omega) ?_ ?_
  ·rintro i ys H' hi ⟨rfl,ws,rfl,hw,hB⟩
   refine yes ⟨_,rfl,_,rfl,_,_,rfl,rfl,c,10+(0+(i:Int)),rfl,rfl,ws ++ [rF c (10+(0+(i:Int)))],by simp,by simp [hw],fun v hv=>?_⟩
   rcases List.mem_append.mp hv with hv | hv
   ·exact hB v hv
   ·rw [List.mem_singleton] at hv
    subst hv
    exact rW _ _
  rintro ys H' ⟨rfl,ws,rfl,hw,hB⟩ F nF
  have t1:=aH (o:=.lst (ws.map V.int)) nF
  have sF:=s0.trans t1
  have eF:upd H' F (.lst (ws.map V.int)) F=some (.lst (ws.map V.int)):=aA
  have oF:F∉d.E:=D.out (s0.free nF)
  generalize upd H' F (.lst (ws.map V.int))=H2 at t1 sF eF ⊢
  refine⟨_,rfl,_,_,rfl,by show 6≤sizeLine;exact szl,fun l1 n1=>?_⟩
  have t2:=aH (o:=.lst [.int 0,.int 0,.int 1,.int 1,.int 2,.int 7]) n1
  obtain⟨c1,e1,h1⟩:=pick6 (cg c 2)
  refine⟨_,rfl,_,_,rfl,_,_,rfl,rfl,by show(0:Int) <6;decide,l1,_,_,_,rfl,rfl,SqL.of aA,e1,_,_,rfl,rfl,?_⟩
  have s2:=sF.trans t2
  have eF2:=t2 _ _ eF
  generalize upd H2 l1 (.lst [.int 0,.int 0,.int 1,.int 1,.int 2,.int 7])=H3 at t2 s2 eF2 ⊢
  have D3:=D.keep s2
  obtain⟨xs,eL,aL⟩:=D3.lanes
  have xl:=aL.length
  refine⟨_,rfl,d.S,_,3,_,rfl,rfl,D3.seqS,aK (j:=3) rfl,?_⟩
  refine⟨_,rfl,d.S,_,0,_,rfl,rfl,D3.seqS,aK (j:=0) rfl,.ref d.L,ls.length,rfl,.inl ⟨_,SqL.of eL,xl.symm⟩,?_⟩
  refine⟨d.c3,ls.length,rfl,by omega,fun H4 s4=>?_⟩
  have D4:=D3.keep s4
  have eL4:=s4 _ _ eL
  have eF4:=s4 _ _ eF2
  have s04:=s2.trans s4
  refine⟨_,rfl,d.S,_,0,_,rfl,rfl,D4.seqS,aK (j:=0) rfl,?_⟩
  refine⟨.inl ⟨rfl,_,SqL.of eL4⟩,_,rfl,_,rfl,_,rfl,by show 3≤sizeLine;exact szl,fun q nq=>?_⟩
  have t5:=aH (o:=.tup [.str (cG d.c3 ls.length),.int ((if (m:Int) >1 then(m:Int) else 1)+(c1:Int)),.ref F]) nq
  have s5:=s04.trans t5
  have D5:=D4.keep t5
  have oq:q∉d.E:=D4.out nq
  have eq:upd H4 q (.tup [.str (cG d.c3 ls.length),.int ((if (m:Int) >1 then(m:Int) else 1)+(c1:Int)),.ref F]) q=some (.tup [.str (cG d.c3 ls.length),.int ((if (m:Int) >1 then(m:Int) else 1)+(c1:Int)),.ref F]):=aA
  have eL5:=t5 _ _ eL4
  have eF5:=t5 _ _ eF4
  refine⟨d.L,xs,_,rfl,rfl,eL5,by omega,_,rfl,?_⟩
  refine k ⟨cG d.c3 ls.length,(if (m:Int) >1 then(m:Int) else 1)+(c1:Int),ws⟩ _ rfl ?_ (D5.lane ⟨q,F,rfl,dw eq oq,dw eF5 oF⟩ ⟨by dsimp only;split <;> omega,by dsimp only;split <;> omega,by dsimp only;split <;> omega,hB⟩ rfl eL5)
  rw [cj (by simp)]
  exact D.cut s5
theorem pop_at:∀{os:List Str} {j:Nat} (h:j <os.length),os.Perm (os[j]:: os.eraseIdx j)
 | [],_,h=>absurd h (by simp)
 | a:: l,0,_=>.refl _
 | a:: l,j+1,h=>by
  have h':j <l.length:=by simpa using h
  show(a:: l).Perm (l[j]:: a:: l.eraseIdx j)
  exact((pop_at (os:=l) (j:=j) (by simpa using h)).cons a).trans (.swap _ _ _)
theorem erase_map {α β:Type} {f:α→β}:∀(l:List α) (j:Nat),(l.map f).eraseIdx j=(l.eraseIdx j).map f
 | [],_=>rfl
 | a:: l,0=>rfl
 | a:: l,j+1=>by
  show f a:: (l.map f).eraseIdx j=f a:: (l.eraseIdx j).map f
  rw [erase_map l j]
theorem ix_nat {j n:Nat} (h:j <n):seqIndex? (j:Int) n=some j:=by
 unfold seqIndex?
 have z:¬(j:Int) <0:=by omega
 simp [h,z]
def sp__law_pick:Sp:=fun vs H Q _=>∃(d:Dw) (ls:List LaneD) (ps:List PD) (os:List Str) (n:Int),vs=[.ref d.S,.int n]∧DAt d H ls ps os∧os≠[]∧os.length≤100∧∀(x:Str) (os':List Str) (H':Hp),os.Perm (x:: os')→aW (bj d.E H) (bj d.E H')→DAt d H' ls ps os'→Q (.str x) H'
theorem sc__law_pick:FnScope ["_law_state", "_law_number"] ["_law_state", "_law_number"] (az lE):=⟨rfl,rfl,rfl,by decide +kernel,rfl,by decide +kernel,by decide +kernel⟩
theorem tM (T:Txt w K mg t):FnOk P w K mg base CX0 1 t.vo t.uA ["_law_state", "_law_number"] (sp__law_pick):=by
 have sc:=sc__law_pick
 refine T.qz.ok sc (fun vs H Q E h=>?_) (fun cdv A outer s H vs Q E hr h=>?_)
 ·obtain⟨d,ls,ps,os,n,rfl,_⟩:=h
  rfl
 ·obtain⟨d,ls,ps,os,n,rfl,D,hne,hs,k⟩:=h
  refine⟨_,(aB (aY (mJ PySem.F.plainAttrs_list PySem.F.slot_list_pop PySem.F.type_list_pop Av (aQ bA (pv 0) aq (fun _ _=>rfl)) (aa (bw cB (pv 1) (aV bN (by rfl) T.du cC (aa (aQ bA (pv 0) aq (fun _ _=>rfl)) ak aF))) ak bW)))),?_⟩
  have hpos:0 <os.length:=List.length_pos_iff.mpr hne
  refine⟨_,rfl,d.S,_,2,_,rfl,rfl,D.seqS,aK (j:=2) rfl,.inl ⟨rfl,_,SqL.of D.opens⟩,?_⟩
  refine⟨_,rfl,_,rfl,d.S,_,2,_,rfl,rfl,D.seqS,aK (j:=2) rfl,.ref d.O,os.length,rfl,.inl ⟨_,SqL.of D.opens,by simp⟩,n,(os.length:Int),rfl,rfl,by omega,?_⟩
  have h0:=Int.emod_nonneg n (show(os.length:Int)≠0 by omega)
  have h1:=Int.emod_lt_of_pos n (show(0:Int) <(os.length:Int) by omega)
  obtain⟨j,hj⟩:∃j:Nat,n % (os.length:Int)=(j:Int):=⟨(n % (os.length:Int)).toNat,by omega⟩
  have hj':j <os.length:=by omega
  refine⟨d.O,_,(j:Int),j,.str os[j],rfl,by show [V.int (n % (os.length:Int))]=_;rw [hj],D.opens,by omega,by omega,by rw [lM];exact ix_nat hj',by rw [List.getElem?_map,List.getElem?_eq_getElem hj'];rfl,?_⟩
  rw [erase_map]
  exact k os[j] (os.eraseIdx j) _ (pop_at hj') (by rw [cj (by simp)];exact aW.refl _) D.open
def sp__law_part:Sp:=fun vs H Q _=>∃(d:Dw) (ls:List LaneD) (ps:List PD) (os:List Str) (c:Int) (i:Nat) (a1 a2:Addr) (nums:List Int) (ins:List Str) (many:Nat),vs=[.ref d.S,.int c,.str (fL i),.ref a1,.ref a2,.int (many:Nat)]∧DAt d H ls ps os∧bj d.E H a1=some (.lst (nums.map V.int))∧bj d.E H a2=some (.lst (ins.map V.str))∧i <11∧nums.length=cN i∧(∀v∈nums,0≤v∧v <1000000000)∧ins.length=cI i∧many=cO i∧ls.length≤22∧ps.length≤25∧os.length≤100∧∀(newl:List LaneD) (H':Hp),newl.length=many→aW (bj d.E H) (bj d.E H')→DAt d H' (ls ++ newl) (ps ++ [⟨i,cG d.c4 ps.length,nums,ins,newl.map (·.name)⟩]) (os ++ newl.map (·.name))→Q .non H'
theorem sc__law_part:FnScope ["_law_state", "_law_cell_here", "_law_kind", "_law_numbers_here", "_law_ins", "_law_many", "_law_outs"] ["_law_state", "_law_cell_here", "_law_kind", "_law_numbers_here", "_law_ins", "_law_many"] (az iz):=⟨rfl,rfl,rfl,by decide +kernel,rfl,by decide +kernel,by decide +kernel⟩
theorem cD (T:Txt w K mg t):FnOk P w K mg base CX0 4 t.vU t.tK ["_law_state", "_law_cell_here", "_law_kind", "_law_numbers_here", "_law_ins", "_law_many"] (sp__law_part):=by
 have sc:=sc__law_part
 refine T.cH.ok sc (fun vs H Q E h=>?_) (fun cdv A outer s H vs Q E hr h=>?_)
 ·obtain⟨d,ls,ps,os,c,i,a1,a2,nums,ins,many,rfl,_⟩:=h
  rfl
 ·obtain⟨d,ls,ps,os,c,i,a1,a2,nums,ins,many,rfl,D,e1,e2,hi,hN,hB,hI,hO,hls,hps,hos,k⟩:=h
  refine⟨_,(au (yg (i:=6) [0,1] ["_law_state", "_law_cell_here", "_law_kind", "_law_numbers_here", "_law_ins", "_law_many", "_law_outs"] (az iz) rfl sc.nd rfl (gU rfl T.lV (aa (pv 5) ak aj)) (fun _ _ _ _ _=>mD) (fun _ _ _ _ _=>(aJ (lX T) (hr.mono (by decide)) (by rfl) T.m9 T.lz.kp T.nj .nil aO (aa (pv 1) (aa (aJ (bc T) (hr.mono (by decide)) (by rfl) T.bC T.bz.kp T.bB .nil aO (aa (pv 2) (aa (bw dm aq (pv 0)) ak bW) aj)) (aa fB ak ao) aX) aj))))
   (au (bH (mJ PySem.F.plainAttrs_list PySem.F.slot_list_append PySem.F.type_list_append gK (aQ bA (pv 0) aq (fun _ _=>rfl)) (aa (ie (aa (pv 2) (aa (aJ (oN T) (hr.mono (by decide)) (by rfl) T.qd T.nC.kp T.qF .nil aO (aa (aQ bA (pv 0) aq (fun _ _=>rfl)) (aa (aV bN (by rfl) T.du cC (aa (aQ bA (pv 0) aq (fun _ _=>rfl)) ak aF)) ak aX) aF)) (aa (pv 3) (aa (pv 4) (aa (pv 6) ak aj) aj) aj) aX) aj)) ak iB)))
   (aB (bH (mJ PySem.F.plainAttrs_list PySem.F.slot_list_extend PySem.F.type_list_extend yP (aQ bA (pv 0) aq (fun _ _=>rfl)) (aa (pv 6) ak aj)))))),?_⟩
  have hl:sizeLine=16777216:=sizeLine_eq
  have hm2:many≤2:=by rw [hO];exact cO_le i
  refine⟨_,rfl,(many:Int),rfl,by omega,by omega,?_⟩
  rw [Int.toNat_natCast]
  refine o9 (fun i ys H'=>∃newl:List LaneD,newl.length=i∧ys=newl.map (fun l=>V.str l.name)∧aW (bj d.E H) (bj d.E H')∧DAt d H' (ls ++ newl) ps os) (by omega) ⟨[],rfl,rfl,aW.refl _,by rw [List.append_nil];exact D⟩ (fun i ys H' ⟨newl,e,e2,_⟩=>by rw [e2,lM];omega) ?_ ?_
  ·rintro j ys H' hj ⟨newl,hn,rfl,s,D'⟩
   refine yes ⟨_,rfl,_,rfl,_,rfl,_,_,rfl,rfl,c,20+(0+(j:Int)),rfl,?_⟩
   refine⟨d,ls ++ newl,ps,os,_,false,rfl,D',by rw [lP];omega,fun l H1 _ s1 D1=>?_⟩
   exact⟨newl ++ [l],by simp [hn],by simp,s.trans s1,by rw [←List.append_assoc];exact D1⟩
  rintro ys H1 ⟨newl,hn,rfl,s1,D1⟩ F nF
  have t1:=aH (o:=.lst (newl.map fun l=>V.str l.name)) nF
  have eF:upd H1 F (.lst (newl.map fun l=>V.str l.name)) F=some (.lst ((newl.map (·.name)).map V.str)):=by rw [List.map_map];exact aA
  have oF:=D1.out nF
  have D2:=D1.keep t1
  have s2:=s1.trans (D1.cut t1)
  generalize upd H1 F (.lst (newl.map fun l=>V.str l.name))=H2 at t1 eF D2 s2 ⊢
  obtain⟨xs,eP,aP⟩:=D2.parts
  have xl:=aP.length
  refine⟨_,rfl,d.S,_,1,_,rfl,rfl,D2.seqS,aK (j:=1) rfl,.inl ⟨rfl,_,SqL.of eP⟩,?_⟩
  refine⟨_,rfl,_,rfl,d.S,_,4,_,rfl,rfl,D2.seqS,aK (j:=4) rfl,?_⟩
  refine⟨_,rfl,d.S,_,1,_,rfl,rfl,D2.seqS,aK (j:=1) rfl,.ref d.P,ps.length,rfl,.inl ⟨_,SqL.of eP,xl.symm⟩,?_⟩
  refine⟨d.c4,ps.length,rfl,by omega,fun H3 s3=>?_⟩
  have D3:=D2.keep s3
  have t3:=s2.trans (D2.cut s3)
  have eP3:=s3 _ _ eP
  have eF3:=s3 _ _ eF
  refine⟨_,rfl,_,rfl,_,rfl,by show 5≤sizeLine;exact szl,fun q nq=>?_⟩
  have s4:=aH (o:=.tup [.str (fL i),.str (cG d.c4 ps.length),.ref a1,.ref a2,.ref F]) nq
  have D4:=D3.keep s4
  have t4:=t3.trans (D3.cut s4)
  have eP4:=s4 _ _ eP3
  have eF4:=s4 _ _ eF3
  have oq:=D3.out nq
  have eq:upd H3 q (.tup [.str (fL i),.str (cG d.c4 ps.length),.ref a1,.ref a2,.ref F]) q=some (.tup [.str (fL i),.str (cG d.c4 ps.length),.ref a1,.ref a2,.ref F]):=aA
  refine⟨d.P,xs,_,rfl,rfl,eP4,by omega,?_⟩
  generalize upd H3 q (.tup [.str (fL i),.str (cG d.c4 ps.length),.ref a1,.ref a2,.ref F])=H4 at s4 D4 t4 eP4 eF4 eq ⊢
  have D5:=D4.part (p:=⟨i,cG d.c4 ps.length,nums,ins,newl.map (·.name)⟩) ⟨q,a1,a2,F,rfl,dw eq oq,t4 _ _ e1,t4 _ _ e2,dw eF4 oF⟩ ⟨hi,hN,hI,by show(newl.map _).length=_;rw [lM,hn];exact hO,hB⟩ rfl eP4
  have hcu:bj d.E (upd H4 d.P (.lst (xs ++ [.ref q])))=bj d.E H4:=cj (by simp)
  have eF5:upd H4 d.P (.lst (xs ++ [.ref q])) F=some (.lst ((newl.map (·.name)).map V.str)):=by rw [aM (fun z=>oF (by rw [z];simp))];exact eF4
  generalize upd H4 d.P (.lst (xs ++ [.ref q]))=H5 at D5 hcu eF5 ⊢
  refine⟨_,rfl,d.S,_,2,_,rfl,rfl,D5.seqS,aK (j:=2) rfl,.inl ⟨rfl,_,SqL.of D5.opens⟩,?_⟩
  refine⟨_,rfl,d.O,F,_,_,rfl,rfl,D5.opens,eF5,by rw [lM,lM,lM];omega,?_⟩
  rw [←List.map_append]
  exact k newl _ hn (by rw [cj (by simp),hcu];exact t4) D5.open
theorem pick2 (m:Int):∃i:Nat,atI [V.str "add",V.str "less"] (m % 2)=some (.str (fL i))∧(i=6∨i=7):=by
 have h0:=Int.emod_nonneg m (show(2:Int)≠0 by decide)
 have h1:=Int.emod_lt_of_pos m (show(0:Int) <2 by decide)
 have:m % 2=0∨m % 2=1:=by omega
 rcases this with e | e <;> rw [e]
 ·exact⟨6,rfl,.inl rfl⟩
 ·exact⟨7,rfl,.inr rfl⟩
theorem perm2 {one other:Str} {os os1:List Str} (h:os.Perm (other:: os1)):(one:: os).Perm ([one,other] ++ os1):=h.cons one
def sp__law_two:Sp:=fun vs H Q _=>∃(d:Dw) (ls:List LaneD) (ps:List PD) (os:List Str) (c:Int) (one:Str) (back:List Str),vs=[.ref d.S,.int c,.str one,.bl false]∧DAt d H ls ps os∧Drawn.WF (vN ls ps (one:: os) back)∧os≠[]∧os.length≤3∧ls.length≤20∧ps.length≤22∧∀ls' ps' os' H',Nxt d H H' ls ps back ls' ps' os'→Q .non H'
theorem sc__law_two:FnScope ["_law_state", "_law_cell_here", "_law_one", "_law_odd", "_law_other", "_law_way", "_law_third"] ["_law_state", "_law_cell_here", "_law_one", "_law_odd"] (az mL):=⟨rfl,rfl,rfl,by decide +kernel,rfl,by decide +kernel,by decide +kernel⟩
theorem ok__law_two (T:Txt w K mg t):FnOk P w K mg base CX0 5 t.xX t.vH ["_law_state", "_law_cell_here", "_law_one", "_law_odd"] (sp__law_two):=by
 have sc:=sc__law_two
 refine T.BW.ok sc (fun vs H Q E h=>?_) (fun cdv A outer s H vs Q E hr h=>?_)
 ·obtain⟨d,ls,ps,os,c,one,back,rfl,_⟩:=h
  rfl
 ·obtain⟨d,ls,ps,os,c,one,back,rfl,D,w,hne,ho,hls,hps,k⟩:=h
  refine⟨_,(au (aZ (i:=4) sc.nd rfl (Or.inl rfl) (aJ (tM T) (hr.mono (by decide)) (by rfl) T.vL T.qz.kp T.vC .nil aO (aa (pv 0) (aa (aJ (bc T) (hr.mono (by decide)) (by rfl) T.bC T.bz.kp T.bB .nil aO (aa (pv 1) (aa aq ak ao) aj)) ak aX) aj)))
   (au (aZ (i:=5) sc.nd rfl (Or.inl rfl) (bw cB (aJ (bc T) (hr.mono (by decide)) (by rfl) T.bC T.bz.kp T.bB .nil aO (aa (pv 1) (aa aq ak ao) aj)) aq))
   (aB (fj (bT (PW.pt (uy (dM (pv 3)) (uy (bf rN (pv 5) aq (bL _)) (qw (bf op_gt (aV bN (by rfl) T.du cC (aa (aQ bA (pv 0) aq (fun _ _=>rfl)) ak aF)) aq (bL _))))))
    (au (aZ (i:=6) sc.nd rfl (Or.inl rfl) (aJ (tM T) (hr.mono (by decide)) (by rfl) T.vL T.qz.kp T.vC .nil aO (aa (pv 0) (aa (aJ (bc T) (hr.mono (by decide)) (by rfl) T.bC T.bz.kp T.bB .nil aO (aa (pv 1) (aa aq ak ao) aj)) ak aX) aj)))
    (aB (bH (aJ (cD T) (hr.mono (by decide)) (by rfl) T.cV T.cH.kp T.cU .nil aO (aa (pv 0) (aa (pv 1) (aa bM (aa (bO ak) (aa (bO (aa (pv 2) (aa (pv 4) (aa (pv 6) ak aj) aj) aj)) (aa aq ak ao) bF) bF) ao) aj) aj)))))
    (aB (fj (bT (PW.pt (uy (dM (pv 3)) (qw (bf rN (pv 5) aq (bL _)))))
     (aB (bH (aJ (cD T) (hr.mono (by decide)) (by rfl) T.cV T.cH.kp T.cU .nil aO (aa (pv 0) (aa (pv 1) (aa bM (aa (bO ak) (aa (bO (aa (pv 2) (aa (pv 4) ak aj) aj)) (aa aq ak ao) bF) bF) ao) aj) aj))))
     (aB (fj (bT (bf iG (bw cB (pv 5) aq) aq (bL _))
      (aB (bH (aJ (cD T) (hr.mono (by decide)) (by rfl) T.cV T.cH.kp T.cU .nil aO (aa (pv 0) (aa (pv 1) (aa bM (aa (bO ak) (aa (bO (aa (pv 2) (aa (pv 4) ak aj) aj)) (aa aq ak ao) bF) bF) ao) aj) aj))))
      (aB (bH (aJ (cD T) (hr.mono (by decide)) (by rfl) T.cV T.cH.kp T.cU .nil aO (aa (pv 0) (aa (pv 1) (aa (aQ bA (bO (aa bM (aa bM ak ao) ao)) (bw cB (pv 5) aq) (fun _ _=>rfl)) (aa (bO ak) (aa (bO (aa (pv 2) (aa (pv 4) ak aj) aj)) (aa aq ak ao) bF) bF) aF) aj) aj))))))))))))))),?_⟩
  have hl:sizeLine=16777216:=sizeLine_eq
  refine⟨_,rfl,_,rfl,_,_,rfl,d,ls,ps,os,_,rfl,D,hne,by omega,fun other os1 H1 p1 s1 D1=>?_⟩
  have l1:=p1.length_eq
  rw [List.length_cons] at l1
  refine⟨_,rfl,_,_,rfl,_,_,rfl,rfl,by show(0:Int) <6;decide,?_⟩
  refine⟨fun _ H'=>Q .non H',?_,fun _ _ h=>h⟩
  have fin:∀{i:Nat} {nm:Str} {newl:List LaneD} {ins os2:List Str} {H':Hp},aW (bj d.E H) (bj d.E H')→DAt d H' (ls ++ newl) (ps ++ [⟨i,nm,[],ins,newl.map (·.name)⟩]) (os2 ++ newl.map (·.name))→(one:: os).Perm (ins ++ os2)→newl.length≠0→newl.length≤2→os2.length+newl.length≤4→i <9→Q .non H':=fun s DD hp h1 h2 h4 h9=>
   k _ _ _ _ ⟨s,DD,rK w rfl DD hp h1 (by rw [lP];omega),by rw [lP,lM];omega,by rw [lP,lM];omega,by rw [lP];omega,by rw [lP,List.length_singleton];omega,fun c=>c.app h9⟩
  refine⟨_,rfl,false,rfl,cQ (cQ ?_)⟩
  refine⟨fun _ H'=>Q .non H',?_,fun _ _ h=>h⟩
  refine⟨_,rfl,false,rfl,cQ (cQ ?_)⟩
  refine⟨fun _ H'=>Q .non H',?_,fun _ _ h=>h⟩
  refine⟨_,rfl,_,_,rfl,rfl,by show(0:Int) <3;decide,rfl,_,rfl,oH (fun _=>?_) (fun _=>?_)⟩
  ·refine⟨_,rfl,_,rfl,by show 0≤sizeLine;exact szl,fun a1 n1=>⟨_,rfl,_,rfl,by show 2≤sizeLine;exact szl,fun a2 n2=>?_⟩⟩
   obtain⟨D9,z1,z2,z3⟩:=D1.two n1 n2 (y:=.lst [.str one,.str other])
   refine⟨d,_,_,os1,_,8,a1,a2,[],[one,other],2,rfl,D9,z1,z2,by omega,rfl,by simp,rfl,rfl,by omega,by omega,by omega,fun newl H8 hn s8 D8=>?_⟩
   exact fin (s1.trans (z3.trans s8)) D8 (perm2 p1) (by omega) (by omega) (by omega) (by omega)
  ·refine⟨_,rfl,_,rfl,by show 2≤sizeLine;exact szl,fun a0 n0=>?_⟩
   have s0:=aH (o:=.lst [.str "add",.str "less"]) n0
   have D0:=D1.keep s0
   have c0:=D1.cut s0
   refine⟨_,rfl,_,_,rfl,rfl,by show(0:Int) <2;decide,?_⟩
   obtain⟨i,ei,hi⟩:=pick2 (cg c 6 % 6)
   refine⟨a0,_,_,_,rfl,rfl,SqL.of aA,ei,?_⟩
   generalize upd H1 a0 (.lst [.str "add",.str "less"])=H0 at s0 D0 c0 ⊢
   have hN:([]:List Int).length=cN i:=by rcases hi with rfl | rfl <;> rfl
   have hI:[one,other].length=cI i:=by rcases hi with rfl | rfl <;> rfl
   have hO:1=cO i:=by rcases hi with rfl | rfl <;> rfl
   refine⟨by show 0≤sizeLine;exact szl,fun a1 n1=>⟨_,rfl,_,rfl,by show 2≤sizeLine;exact szl,fun a2 n2=>?_⟩⟩
   obtain⟨D9,z1,z2,z3⟩:=D0.two n1 n2 (y:=.lst [.str one,.str other])
   refine⟨d,_,_,os1,_,i,a1,a2,[],[one,other],1,rfl,D9,z1,z2,by omega,hN,by simp,hI,hO,by omega,by omega,by omega,fun newl H8 hn s8 D8=>?_⟩
   exact fin (s1.trans (c0.trans (z3.trans s8))) D8 (perm2 p1) (by omega) (by omega) (by omega) (by omega)
def sp__law_loop:Sp:=fun vs H Q _=>∃(d:Dw) (ls:List LaneD) (ps:List PD) (os:List Str) (c:Int) (one:Str) (back:List Str),vs=[.ref d.S,.int c,.str one]∧DAt d H ls ps os∧Drawn.WF (vN ls ps (one:: os) back)∧os.length≤3∧ls.length≤20∧ps.length≤22∧∀ls' ps' os' H',Nxt d H H' ls ps back ls' ps' os'→Q .non H'
theorem sc__law_loop:FnScope ["_law_state", "_law_cell_here", "_law_one", "_law_own", "_law_fresh"] ["_law_state", "_law_cell_here", "_law_one"] (az lK):=⟨rfl,rfl,rfl,by decide +kernel,rfl,by decide +kernel,by decide +kernel⟩
theorem ok__law_loop (T:Txt w K mg t):FnOk P w K mg base CX0 4 t.uM t.uo ["_law_state", "_law_cell_here", "_law_one"] (sp__law_loop):=by
 have sc:=sc__law_loop
 refine T.zB.ok sc (fun vs H Q E h=>?_) (fun cdv A outer s H vs Q E hr h=>?_)
 ·obtain⟨d,ls,ps,os,c,one,back,rfl,_⟩:=h
  rfl
 ·obtain⟨d,ls,ps,os,c,one,back,rfl,D,w,ho,hls,hps,k⟩:=h
  refine⟨_,(au (aZ (i:=3) sc.nd rfl (Or.inl rfl) (aJ (lX T) (hr.mono (by decide)) (by rfl) T.m9 T.lz.kp T.nj .nil aO (aa (pv 0) (aa (aJ (bc T) (hr.mono (by decide)) (by rfl) T.bC T.bz.kp T.bB .nil aO (aa (pv 1) (aa aq ak ao) aj)) (aa fB ak ao) aX) aj)))
   (au (aZ (i:=4) sc.nd rfl (Or.inl rfl) (aJ (lX T) (hr.mono (by decide)) (by rfl) T.m9 T.lz.kp T.nj .nil aO (aa (pv 0) (aa (aJ (bc T) (hr.mono (by decide)) (by rfl) T.bC T.bz.kp T.bB .nil aO (aa (pv 1) (aa aq ak ao) aj)) (aa fB ak ao) aX) aj)))
   (au (bH (mJ PySem.F.plainAttrs_list PySem.F.slot_list_append PySem.F.type_list_append gK (aQ bA (pv 0) aq (fun _ _=>rfl)) (aa (ie (aa bM (aa (aJ (oN T) (hr.mono (by decide)) (by rfl) T.qd T.nC.kp T.qF .nil aO (aa (aQ bA (pv 0) aq (fun _ _=>rfl)) (aa (aV bN (by rfl) T.du cC (aa (aQ bA (pv 0) aq (fun _ _=>rfl)) ak aF)) ak aX) aF)) (aa (bO ak) (aa (bO (aa (pv 2) (aa (pv 3) ak aj) aj)) (aa (bO (aa (pv 3) (aa (pv 4) ak aj) aj)) ak bF) bF) bF) aX) ao)) ak iB)))
   (aB (bH (mJ PySem.F.plainAttrs_list PySem.F.slot_list_append PySem.F.type_list_append gK (aQ bA (pv 0) aq (fun _ _=>rfl)) (aa (pv 4) ak aj))))))),?_⟩
  have hl:sizeLine=16777216:=sizeLine_eq
  refine⟨_,rfl,_,rfl,_,_,rfl,d,ls,ps,os,_,true,rfl,D,by omega,fun l1 H1 e1 s1 D1=>?_⟩
  refine⟨_,rfl,_,rfl,_,_,rfl,d,ls ++ [l1],ps,os,_,false,rfl,D1,by rw [lP,List.length_singleton];omega,fun l2 H2 e2 s2 D2=>?_⟩
  have s12:=s1.trans s2
  obtain⟨xs,eP,aP⟩:=D2.parts
  have xl:=aP.length
  refine⟨_,rfl,d.S,_,1,_,rfl,rfl,D2.seqS,aK (j:=1) rfl,.inl ⟨rfl,_,SqL.of eP⟩,?_⟩
  refine⟨_,rfl,d.S,_,4,_,rfl,rfl,D2.seqS,aK (j:=4) rfl,?_⟩
  refine⟨_,rfl,d.S,_,1,_,rfl,rfl,D2.seqS,aK (j:=1) rfl,.ref d.P,ps.length,rfl,.inl ⟨_,SqL.of eP,xl.symm⟩,?_⟩
  refine⟨d.c4,ps.length,rfl,by omega,fun H3 s3=>?_⟩
  have D3:=D2.keep s3
  have c3:=s12.trans (D2.cut s3)
  have eP3:=s3 _ _ eP
  refine⟨by show 0≤sizeLine;exact szl,fun a1 n1=>⟨_,rfl,_,rfl,by show 2≤sizeLine;exact szl,fun a2 n2=>⟨_,rfl,_,rfl,by show 2≤sizeLine;exact szl,fun a3 n3=>⟨by show 5≤sizeLine;exact szl,fun q nq=>?_⟩⟩⟩⟩
  obtain⟨D4,z1,z2,z3⟩:=D3.two n1 n2 (y:=.lst [.str one,.str l1.name])
  have t4:aW H3 (upd (upd H3 a1 (.lst [])) a2 (.lst [.str one,.str l1.name])):=(aH n1).trans (aH n2)
  have eP4:=t4 _ _ eP3
  generalize upd (upd H3 a1 (.lst [])) a2 (.lst [.str one,.str l1.name])=H4 at D4 z1 z2 z3 t4 eP4 n3 nq ⊢
  obtain⟨D5,y1,y2,y3⟩:=D4.two n3 nq (y:=.tup [.str "order",.str (cG d.c4 ps.length),.ref a1,.ref a2,.ref a3])
  have t5:aW H4 (upd (upd H4 a3 (.lst [.str l1.name,.str l2.name])) q (.tup [.str "order",.str (cG d.c4 ps.length),.ref a1,.ref a2,.ref a3])):=(aH n3).trans (aH nq)
  have eP5:=t5 _ _ eP4
  generalize upd (upd H4 a3 (.lst [.str l1.name,.str l2.name])) q (.tup [.str "order",.str (cG d.c4 ps.length),.ref a1,.ref a2,.ref a3])=H5 at D5 y1 y2 y3 t5 eP5 ⊢
  have c5:=c3.trans (z3.trans y3)
  refine⟨d.P,xs,_,rfl,rfl,eP5,by omega,?_⟩
  have D6:=D5.part (p:=⟨8,cG d.c4 ps.length,[],[one,l1.name],[l1.name,l2.name]⟩) ⟨q,a1,a2,a3,rfl,y2,y3 _ _ z1,y3 _ _ z2,y1⟩ ⟨by show 8 <11;omega,rfl,rfl,rfl,by simp⟩ rfl eP5
  have c6:bj d.E (upd H5 d.P (.lst (xs ++ [.ref q])))=bj d.E H5:=cj (by simp)
  generalize upd H5 d.P (.lst (xs ++ [.ref q]))=H6 at D6 c6 ⊢
  refine⟨_,rfl,d.S,_,2,_,rfl,rfl,D6.seqS,aK (j:=2) rfl,.inl ⟨rfl,_,SqL.of D6.opens⟩,_,rfl,d.O,_,_,rfl,rfl,D6.opens,by rw [lM];omega,?_⟩
  have D7:=D6.open (os':=os ++ [l2.name])
  rw [List.map_append] at D7
  have nd:=D7.nod (by rw [lP,lP,List.length_singleton,List.length_singleton];omega)
  have wl:=w.loop (p:=⟨8,cG d.c4 ps.length,[],[one,l1.name],[l1.name,l2.name]⟩) (rest:=os) (one:=one) (own:=l1.name) (fresh:=l2.name) rfl rfl (.refl _) (by simpa using nd)
  refine k _ _ _ _ ⟨by rw [cj (by simp),c6];exact c5,D7,by simpa [vN] using wl,by rw [lP,List.length_singleton];omega,by rw [lP,List.length_singleton];omega,by simp,by simp,fun c=>c.app (by show 8 <9;omega)⟩
def sp__law_step:Sp:=fun vs H Q _=>∃(d:Dw) (ls:List LaneD) (ps:List PD) (os:List Str) (c:Int) (back:List Str),vs=[.ref d.S,.int c,.bl false]∧DAt d H ls ps os∧Drawn.WF (vN ls ps os back)∧os≠[]∧os.length≤4∧ls.length≤20∧ps.length≤22∧∀ls' ps' os' H',Nxt d H H' ls ps back ls' ps' os'→Q .non H'
theorem sc__law_step:FnScope ["_law_state", "_law_cell_here", "_law_odd", "_law_way", "_law_one"] ["_law_state", "_law_cell_here", "_law_odd"] (az lL):=⟨rfl,rfl,rfl,by decide +kernel,rfl,by decide +kernel,by decide +kernel⟩
theorem ok__law_step (T:Txt w K mg t):FnOk P w K mg base CX0 6 t.wg t.tO ["_law_state", "_law_cell_here", "_law_odd"] (sp__law_step):=by
 have sc:=sc__law_step
 refine T.zG.ok sc (fun vs H Q E h=>?_) (fun cdv A outer s H vs Q E hr h=>?_)
 ·obtain⟨d,ls,ps,os,c,back,rfl,_⟩:=h
  rfl
 ·obtain⟨d,ls,ps,os,c,back,rfl,D,w,hne,ho,hls,hps,k⟩:=h
  refine⟨_,(au (aZ (i:=3) sc.nd rfl (Or.inl rfl) (bw cB (aJ (bc T) (hr.mono (by decide)) (by rfl) T.bC T.bz.kp T.bB .nil aO (aa (pv 1) (aa aq ak ao) aj)) aq))
   (au (aZ (i:=4) sc.nd rfl (Or.inl rfl) (aJ (tM T) (hr.mono (by decide)) (by rfl) T.vL T.qz.kp T.vC .nil aO (aa (pv 0) (aa (aJ (bc T) (hr.mono (by decide)) (by rfl) T.bC T.bz.kp T.bB .nil aO (aa (pv 1) (aa aq ak ao) aj)) ak aX) aj)))
   (aB (fj (bT (PW.pt (uy (bf rN (pv 3) aq (bL _)) (qw (bf rN (aV bN (by rfl) T.du cC (aa (aQ bA (pv 0) aq (fun _ _=>rfl)) ak aF)) aq (bL _)))))
    (aB (bH (aJ (cD T) (hr.mono (by decide)) (by rfl) T.cV T.cH.kp T.cU .nil aO (aa (pv 0) (aa (pv 1) (aa bM (aa (bO ak) (aa (bO (aa (pv 4) ak aj)) (aa aq ak ao) bF) bF) ao) aj) aj))))
    (aB (fj (bT (bf iG (pv 3) aq (bL _))
     (au (bH (aJ (cD T) (hr.mono (by decide)) (by rfl) T.cV T.cH.kp T.cU .nil aO (aa (pv 0) (aa (pv 1) (aa bM (aa (bO ak) (aa (bO (aa (pv 4) ak aj)) (aa aq ak ao) bF) bF) ao) aj) aj)))
     (aB (bH (aJ (cD T) (hr.mono (by decide)) (by rfl) T.cV T.cH.kp T.cU .nil aO (aa (pv 0) (aa (pv 1) (aa bM (aa (bO ak) (aa (bO (aa (BX PySem.F.plainAttrs_list PySem.F.slot_list_pop PySem.F.type_list_pop mt_pop (aQ bA (pv 0) aq (fun _ _=>rfl))) ak aX)) (aa aq ak ao) bF) bF) ao) aj) aj)))))
     (aB (fj (bT (PW.pt (uy (bf rN (pv 3) aq (bL _)) (qw (bf op_gt (aV bN (by rfl) T.du cC (aa (aQ bA (pv 0) aq (fun _ _=>rfl)) ak aF)) aq (bL _)))))
      (aB (bH (aJ (ok__law_two T) (hr.mono (by decide)) (by rfl) T.m__law_two T.BW.kp T.b__law_two .nil aO (aa (pv 0) (aa (pv 1) (aa (pv 4) (aa (pv 2) ak aj) aj) aj) aj))))
      (aB (fj (bT (bf rN (pv 3) aq (bL _))
       (aB (bH (aJ (cD T) (hr.mono (by decide)) (by rfl) T.cV T.cH.kp T.cU .nil aO (aa (pv 0) (aa (pv 1) (aa bM (aa (bO (aa (aJ (kE T) (hr.mono (by decide)) (by rfl) T.mj T.iV.kp T.mG .nil aO (aa (pv 1) (aa aq ak ao) aj)) (aa (aJ (kE T) (hr.mono (by decide)) (by rfl) T.mj T.iV.kp T.mG .nil aO (aa (pv 1) (aa aq ak ao) aj)) ak aX) aX)) (aa (bO (aa (pv 4) ak aj)) (aa aq ak ao) bF) bF) ao) aj) aj))))
       (aB (fj (bT (bf iG (pv 3) aq (bL _))
        (aB (bH (aJ (cD T) (hr.mono (by decide)) (by rfl) T.cV T.cH.kp T.cU .nil aO (aa (pv 0) (aa (pv 1) (aa bM (aa (bO (aa (aJ (kE T) (hr.mono (by decide)) (by rfl) T.mj T.iV.kp T.mG .nil aO (aa (pv 1) (aa aq ak ao) aj)) ak aX)) (aa (bO (aa (pv 4) ak aj)) (aa aq ak ao) bF) bF) ao) aj) aj))))
        (aB (fj (bT (bf iG (bw cB (aJ (bc T) (hr.mono (by decide)) (by rfl) T.bC T.bz.kp T.bB .nil aO (aa (pv 1) (aa aq ak ao) aj)) aq) aq (bL _))
         (aB (bH (aJ (ok__law_loop T) (hr.mono (by decide)) (by rfl) T.m__law_loop T.zB.kp T.b__law_loop .nil aO (aa (pv 0) (aa (pv 1) (aa (pv 4) ak aj) aj) aj))))
         (aB (bH (aJ (cD T) (hr.mono (by decide)) (by rfl) T.cV T.cH.kp T.cU .nil aO (aa (pv 0) (aa (pv 1) (aa bM (aa (bO ak) (aa (bO (aa (pv 4) ak aj)) (aa aq ak ao) bF) bF) ao) aj) aj)))))))))))))))))))))))),?_⟩
  have hl:sizeLine=16777216:=sizeLine_eq
  refine⟨_,rfl,_,_,rfl,_,_,rfl,rfl,by show(0:Int) <9;decide,?_⟩
  refine⟨_,rfl,_,rfl,_,_,rfl,d,ls,ps,os,_,rfl,D,hne,by omega,fun one os1 H1 p1 s1 D1=>?_⟩
  have w1:Drawn.WF (vN ls ps (one:: os1) back):=WFperm w p1
  have lo:=p1.length_eq
  rw [List.length_cons] at lo
  have fin:∀{i:Nat} {nm:Str} {nums:List Int} {newl:List LaneD} {ins os2:List Str} {H':Hp},aW (bj d.E H) (bj d.E H')→DAt d H' (ls ++ newl) (ps ++ [⟨i,nm,nums,ins,newl.map (·.name)⟩]) (os2 ++ newl.map (·.name))→(one:: os1).Perm (ins ++ os2)→newl.length≠0→newl.length≤2→os2.length+newl.length≤4→i <9→Q .non H':=fun s DD hp h1 h2 h4 h9=>
   k _ _ _ _ ⟨s,DD,rK w1 rfl DD hp h1 (by rw [lP];omega),by rw [lP,lM];omega,by rw [lP,lM];omega,by rw [lP];omega,by rw [lP,List.length_singleton];omega,fun c=>c.app h9⟩
  refine⟨fun _ H'=>Q .non H',?_,fun _ _ h=>h⟩
  refine⟨_,rfl,_,_,rfl,rfl,_,rfl,Ag ?_ (fun h2 b=>?_) (fun b=>b)⟩
  ·refine⟨fun _ H'=>Q .non H',?_,fun _ _ h=>h⟩
   refine⟨_,rfl,rfl,_,rfl,oH (fun _=>?_) (fun _=>?_)⟩
   ·refine⟨_,rfl,_,rfl,by show 0≤sizeLine;exact szl,fun a1 n1=>⟨_,rfl,by show 1≤sizeLine;exact szl,fun a2 n2=>?_⟩⟩
    obtain⟨D9,z1,z2,z3⟩:=D1.two n1 n2 (y:=.lst [.str one])
    refine⟨d,_,_,os1,_,3,a1,a2,[],[one],2,rfl,D9,z1,z2,by omega,rfl,by simp,rfl,rfl,by omega,by omega,by omega,fun newl H8 hn s8 D8=>?_⟩
    obtain⟨l1,l2,rfl⟩:∃l1 l2,newl=[l1,l2]:=by
     match newl,hn with
     | [x,y],_=>exact⟨x,y,rfl⟩
    have w8:=rK w1 rfl D8 (.refl _) (by simp) (by simp;omega)
    have s18:=s1.trans (z3.trans s8)
    clear D9 z1 z2 z3 n1 n2 s8
    refine⟨_,rfl,_,rfl,by show 0≤sizeLine;exact szl,fun a3 n3=>?_⟩
    have s3:=aH (o:=.lst []) n3
    have D3:=D8.keep s3
    have c3:=s18.trans (D8.cut s3)
    have o3:=D8.out n3
    have e3:upd H8 a3 (.lst []) a3=some (.lst ([]:List V)):=aA
    generalize upd H8 a3 (.lst [])=H3 at s3 D3 c3 e3 ⊢
    have eo:((os1 ++ [l1,l2].map (·.name)).map V.str)=((os1 ++ [l1.name]).map V.str) ++ [.str l2.name]:=by simp
    have hop:=D3.opens
    rw [eo] at hop
    refine⟨_,rfl,d.S,_,2,_,rfl,rfl,D3.seqS,aK (j:=2) rfl,.inl ⟨rfl,_,SqL.of D3.opens⟩,d.O,_,.str l2.name,rfl,rfl,hop,by rw [lP,List.length_singleton,Nat.add_sub_cancel];exact List.getElem?_concat_length,?_⟩
    rw [List.dropLast_concat]
    have D4:=D3.open (os':=os1 ++ [l1.name])
    have c4:bj d.E (upd H3 d.O (.lst ((os1 ++ [l1.name]).map V.str)))=bj d.E H3:=cj (by simp)
    have e4:=dw e3 o3
    generalize upd H3 d.O (.lst ((os1 ++ [l1.name]).map V.str))=H4 at D4 c4 ⊢
    refine⟨by show 1≤sizeLine;exact szl,fun a4 n4=>?_⟩
    have s5:=aH (o:=.lst [.str l2.name]) n4
    have D5:=D4.keep s5
    have c5:=D4.cut s5
    rw [c4] at c5
    have e5:=dw (E:=d.E) (H:=upd H4 a4 (.lst [.str l2.name])) aA (D4.out n4)
    refine⟨d,ls ++ [l1,l2],_,os1 ++ [l1.name],_,1,a3,a4,[],[l2.name],0,rfl,D5,c5 _ _ e4,e5,by omega,rfl,by simp,rfl,rfl,by simp;omega,by simp;omega,by simp;omega,fun newl2 H9 hn2 s9 D9=>?_⟩
    have hz:newl2=[]:=List.length_eq_zero_iff.mp hn2
    subst hz
    have wt:=w8.take (p:=⟨1,cG d.c4 (ps ++ [(⟨3,cG d.c4 ps.length,[],[one],[l1,l2].map (·.name)⟩:PD)]).length,[],[l2.name],[]⟩) (rest:=os1 ++ [l1.name]) (y:=l2.name) (x:=l1.name) rfl rfl (by
      show(os1 ++ [l1.name,l2.name]).Perm (l2.name:: (os1 ++ [l1.name]))
      rw [show os1 ++ [l1.name,l2.name]=(os1 ++ [l1.name]) ++ [l2.name] by simp]
      exact List.perm_append_comm) (by simp) (Drawn.Conn.part (p:=⟨3,cG d.c4 ps.length,[],[one],[l1,l2].map (·.name)⟩) (by simp) (by simp) (by simp))
    rw [List.map_nil,List.append_nil,List.append_nil] at D9
    exact k _ _ _ _ ⟨c3.trans (c5.trans s9),D9,wt,by simp,by simp;omega,by simp,by simp,fun c=>(c.app (by show 3 <9;omega)).app (by show 1 <9;omega)⟩
   ·refine⟨fun _ H'=>Q .non H',?_,fun _ _ h=>h⟩
    refine⟨_,rfl,_,_,rfl,rfl,_,rfl,Ag ?_ (fun h2 b=>?_) (fun b=>b)⟩
    ·refine⟨fun _ H'=>Q .non H',?_,fun _ _ h=>h⟩
     refine⟨_,rfl,_,_,rfl,rfl,_,rfl,oH (fun _=>?_) (fun _=>?_)⟩
     ·refine⟨_,rfl,_,rfl,_,rfl,c,8,rfl,_,rfl,c,9,rfl,by show 2≤sizeLine;exact szl,fun a1 n1=>⟨_,rfl,by show 1≤sizeLine;exact szl,fun a2 n2=>?_⟩⟩
      obtain⟨D9,z1,z2,z3⟩:=D1.two n1 n2 (y:=.lst [.str one])
      refine⟨d,_,_,os1,_,4,a1,a2,[rF c 8,rF c 9],[one],1,rfl,D9,z1,z2,by omega,rfl,?_,rfl,rfl,by omega,by omega,by omega,fun newl H8 hn s8 D8=>?_⟩
      ·intro v hv
       rcases List.mem_cons.mp hv with rfl | hv
       ·exact rW _ _
       ·rw [List.mem_singleton] at hv
        subst hv
        exact rW _ _
      exact fin (s1.trans (z3.trans s8)) D8 (.refl _) (by omega) (by omega) (by omega) (by omega)
     ·refine⟨fun _ H'=>Q .non H',?_,fun _ _ h=>h⟩
      refine⟨_,rfl,rfl,_,rfl,oH (fun _=>?_) (fun _=>?_)⟩
      ·refine⟨_,rfl,_,rfl,_,rfl,c,8,rfl,by show 1≤sizeLine;exact szl,fun a1 n1=>⟨_,rfl,by show 1≤sizeLine;exact szl,fun a2 n2=>?_⟩⟩
       obtain⟨D9,z1,z2,z3⟩:=D1.two n1 n2 (y:=.lst [.str one])
       refine⟨d,_,_,os1,_,5,a1,a2,[rF c 8],[one],1,rfl,D9,z1,z2,by omega,rfl,?_,rfl,rfl,by omega,by omega,by omega,fun newl H8 hn s8 D8=>?_⟩
       ·intro v hv
        rw [List.mem_singleton] at hv
        subst hv
        exact rW _ _
       exact fin (s1.trans (z3.trans s8)) D8 (.refl _) (by omega) (by omega) (by omega) (by omega)
      ·refine⟨fun _ H'=>Q .non H',?_,fun _ _ h=>h⟩
       refine⟨_,rfl,_,_,rfl,_,_,rfl,rfl,by show(0:Int) <2;decide,rfl,_,rfl,oH (fun _=>?_) (fun _=>?_)⟩
       ·exact⟨_,rfl,_,rfl,_,rfl,d,ls,ps,os1,c,one,back,rfl,D1,w1,by omega,hls,hps,fun ls' ps' os' H' X=>k ls' ps' os' H' ⟨s1.trans X.cut,X.at',X.wf,X.o1,X.o4,X.l2,X.p2,X.cm⟩⟩
       ·refine⟨_,rfl,_,rfl,by show 0≤sizeLine;exact szl,fun a1 n1=>⟨_,rfl,by show 1≤sizeLine;exact szl,fun a2 n2=>?_⟩⟩
        obtain⟨D9,z1,z2,z3⟩:=D1.two n1 n2 (y:=.lst [.str one])
        refine⟨d,_,_,os1,_,2,a1,a2,[],[one],1,rfl,D9,z1,z2,by omega,rfl,by simp,rfl,rfl,by omega,by omega,by omega,fun newl H8 hn s8 D8=>?_⟩
        exact fin (s1.trans (z3.trans s8)) D8 (.refl _) (by omega) (by omega) (by omega) (by omega)
    ·refine⟨_,rfl,d.S,_,2,_,rfl,rfl,D1.seqS,aK (j:=2) rfl,.ref d.O,os1.length,rfl,.inl ⟨_,SqL.of D1.opens,by simp⟩,_,_,rfl,rfl,_,rfl,oH (fun h3=>?_) (fun _=>b)⟩
     have hne1:os1≠[]:=fun z=>by rw [z] at h3;exact absurd (of_decide_eq_true h3) (by decide)
     exact⟨_,rfl,_,rfl,_,rfl,_,rfl,d,ls,ps,os1,c,one,back,rfl,D1,w1,hne1,by omega,hls,hps,fun ls' ps' os' H' X=>k ls' ps' os' H' ⟨s1.trans X.cut,X.at',X.wf,X.o1,X.o4,X.l2,X.p2,X.cm⟩⟩
  ·refine⟨_,rfl,d.S,_,2,_,rfl,rfl,D1.seqS,aK (j:=2) rfl,.ref d.O,os1.length,rfl,.inl ⟨_,SqL.of D1.opens,by simp⟩,_,_,rfl,rfl,_,rfl,oH (fun h3=>?_) (fun _=>b)⟩
   have h3:os1.length <3:=by have:=of_decide_eq_true h3;omega
   refine⟨_,rfl,_,rfl,by show 0≤sizeLine;exact szl,fun a1 n1=>⟨_,rfl,by show 1≤sizeLine;exact szl,fun a2 n2=>?_⟩⟩
   obtain⟨D9,z1,z2,z3⟩:=D1.two n1 n2 (y:=.lst [.str one])
   refine⟨d,_,_,os1,_,3,a1,a2,[],[one],2,rfl,D9,z1,z2,by omega,rfl,by simp,rfl,rfl,by omega,by omega,by omega,fun newl H8 hn s8 D8=>?_⟩
   exact fin (s1.trans (z3.trans s8)) D8 (.refl _) (by omega) (by omega) (by omega) (by omega)
def sp__law_closed:Sp:=fun vs H Q _=>∃(d:Dw) (ls:List LaneD) (ps:List PD) (os:List Str) (c:Int) (B:Addr) (back:List Str),vs=[.ref d.S,.int c,.ref B]∧DAt d H ls ps os∧Drawn.WF (vN ls ps os back)∧bj d.E H B=some (.lst (back.map V.str))∧os≠[]∧os.length≤4∧back.length≤2∧ls.length≤12∧ps.length≤10∧Calm ps∧∀ls' ps' H',aW (bj d.E H) (bj d.E H')→DAt d H' ls' ps' []→Whole (ls'.map (·.name)) ps'→ls'.length≤17→ls.length≤ls'.length→ps'.length≤16→1≤ps'.length→Calm ps'→Q .non H'
theorem sc__law_closed:FnScope ["_law_state", "_law_cell_here", "_law_back", "_law_one", "_law_other", "_law_kind", "_law_lane_here", "_law_fresh"] ["_law_state", "_law_cell_here", "_law_back"] (az gM):=⟨rfl,rfl,rfl,by decide +kernel,rfl,by decide +kernel,by decide +kernel⟩
theorem ok__law_closed (T:Txt w K mg t):FnOk P w K mg base CX0 5 t.qG t.pG ["_law_state", "_law_cell_here", "_law_back"] (sp__law_closed):=by
 have sc:=sc__law_closed
 refine T.xf.ok sc (fun vs H Q E h=>?_) (fun cdv A outer s H vs Q E hr h=>?_)
 ·obtain⟨d,ls,ps,os,c,B,back,rfl,_⟩:=h
  rfl
 ·obtain⟨d,ls,ps,os,c,B,back,rfl,D,w,eB,hne,ho,hb,hls,hps,hC,k⟩:=h
  refine⟨_,(au (rR PassesOwn.never (bf op_gt (aV bN (by rfl) T.du cC (aa (aQ bA (pv 0) aq (fun _ _=>rfl)) ak aF)) aq (bL _))
    (au (aZ (i:=3) sc.nd rfl (Or.inl rfl) (mJ PySem.F.plainAttrs_list PySem.F.slot_list_pop PySem.F.type_list_pop Av (aQ bA (pv 0) aq (fun _ _=>rfl)) (aa aq ak ao)))
    (au (aZ (i:=4) sc.nd rfl (Or.inl rfl) (mJ PySem.F.plainAttrs_list PySem.F.slot_list_pop PySem.F.type_list_pop Av (aQ bA (pv 0) aq (fun _ _=>rfl)) (aa aq ak ao)))
    (au (aZ (i:=5) sc.nd rfl (Or.inl rfl) (aQ bA (bO (aa bM (aa bM (aa bM ak ao) ao) ao)) (bw cB (aJ (bc T) (hr.mono (by decide)) (by rfl) T.bC T.bz.kp T.bB .nil aO (aa (pv 1) (aa (aV bN (by rfl) T.du cC (aa (aQ bA (pv 0) aq (fun _ _=>rfl)) ak aF)) ak aX) aj)) aq) (fun _ _=>rfl)))
    (aB (bH (aJ (cD T) (hr.mono (by decide)) (by rfl) T.cV T.cH.kp T.cU .nil aO (aa (pv 0) (aa (aJ (bc T) (hr.mono (by decide)) (by rfl) T.bC T.bz.kp T.bB .nil aO (aa (pv 1) (aa (bw dm aq (aV bN (by rfl) T.du cC (aa (aQ bA (pv 0) aq (fun _ _=>rfl)) ak aF))) ak bW) aj)) (aa (pv 5) (aa (bO ak) (aa (bO (aa (pv 3) (aa (pv 4) ak aj) aj)) (aa aq ak ao) bF) bF) aj) aX) aj))))))))
   (au (d9 PassesOwn.never rfl (dg (pv 2)) (bU (i:=6) sc.nd rfl (Or.inl rfl))
    (au (aZ (i:=3) sc.nd rfl (Or.inl rfl) (BX PySem.F.plainAttrs_list PySem.F.slot_list_pop PySem.F.type_list_pop mt_pop (aQ bA (pv 0) aq (fun _ _=>rfl))))
    (au (aZ (i:=7) sc.nd rfl (Or.inl rfl) (aJ (lX T) (hr.mono (by decide)) (by rfl) T.m9 T.lz.kp T.nj .nil aO (aa (pv 0) (aa (aJ (bc T) (hr.mono (by decide)) (by rfl) T.bC T.bz.kp T.bB .nil aO (aa (pv 1) (aa (bw dm aq (aV bN (by rfl) T.du cC (aa (aQ bA (pv 0) aq (fun _ _=>rfl)) ak aF))) ak bW) aj)) (aa fB ak ao) aX) aj)))
    (au (bH (mJ PySem.F.plainAttrs_list PySem.F.slot_list_append PySem.F.type_list_append gK (aQ bA (pv 0) aq (fun _ _=>rfl)) (aa (ie (aa bM (aa (aJ (oN T) (hr.mono (by decide)) (by rfl) T.qd T.nC.kp T.qF .nil aO (aa (aQ bA (pv 0) aq (fun _ _=>rfl)) (aa (aV bN (by rfl) T.du cC (aa (aQ bA (pv 0) aq (fun _ _=>rfl)) ak aF)) ak aX) aF)) (aa (bO ak) (aa (bO (aa (pv 3) ak aj)) (aa (bO (aa (pv 6) (aa (pv 7) ak aj) aj)) ak bF) bF) bF) aX) ao)) ak iB)))
    (aB (bH (mJ PySem.F.plainAttrs_list PySem.F.slot_list_append PySem.F.type_list_append gK (aQ bA (pv 0) aq (fun _ _=>rfl)) (aa (pv 7) ak aj))))))))
   (aB (bH (aJ (cD T) (hr.mono (by decide)) (by rfl) T.cV T.cH.kp T.cU .nil aO (aa (pv 0) (aa (pv 1) (aa bM (aa (bO ak) (aa (bO (aa (BX PySem.F.plainAttrs_list PySem.F.slot_list_pop PySem.F.type_list_pop mt_pop (aQ bA (pv 0) aq (fun _ _=>rfl))) ak aX)) (aa aq ak ao) bF) bF) ao) aj) aj)))))),?_⟩
  have hl:sizeLine=16777216:=sizeLine_eq
  have hpos:0 <os.length:=List.length_pos_iff.mpr hne
  refine hide fun u hu=>?_
  refine rO (fun σ H1=>∃(ls1:List LaneD) (ps1:List PD) (os1:List Str) (v3 v4 v5:Option V),σ=[some (.ref d.S),some (.int c),some (.ref B),v3,v4,v5,none,none]∧aW (bj d.E H) (bj d.E H1)∧DAt d H1 ls1 ps1 os1∧Drawn.WF (vN ls1 ps1 os1 back)∧1≤os1.length∧os1.length≤4∧ls.length≤ls1.length∧ls1.length+os1.length≤16∧ps1.length+os1.length≤14∧Calm ps1)
   (fun _ H1=>lenAt H1 d.O) ⟨ls,ps,os,none,none,none,rfl,aW.refl _,D,w,by omega,ho,Nat.le_refl _,by omega,by omega,hC⟩ ?_ ?_
  ·rintro σ H1 ⟨ls1,ps1,os1,v3,v4,v5,rfl,s1,D1,w1,o1,o4,hl1,hl2,hp2,hC1⟩
   refine⟨_,rfl,d.S,_,2,_,rfl,rfl,D1.seqS,aK (j:=2) rfl,.ref d.O,os1.length,rfl,.inl ⟨_,SqL.of D1.opens,by simp⟩,_,_,rfl,rfl,_,rfl,oH (fun h3=>?_) (fun h3=>?_)⟩
   ·have h3:1 <os1.length:=by have:=of_decide_eq_true h3;omega
    obtain⟨one,other,os2,rfl⟩:∃one other os2,os1=one:: other:: os2:=by
     match os1,h3 with
     | x:: y:: r,_=>exact⟨x,y,r,rfl⟩
    rw [List.length_cons,List.length_cons] at h3 o1 o4 hl2 hp2
    have lm:=yz D1.opens
    refine hideW fun De hD u hu=>?_
    refine⟨_,rfl,d.S,_,2,_,rfl,rfl,D1.seqS,aK (j:=2) rfl,.inl ⟨rfl,_,SqL.of D1.opens⟩,d.O,_,0,0,.str one,rfl,rfl,D1.opens,by decide,by decide,ix_nat (by simp),rfl,?_⟩
    have D2:=D1.open (os':=other:: os2)
    have c2:bj d.E (upd H1 d.O (.lst ((other:: os2).map V.str)))=bj d.E H1:=cj (by simp)
    refine bx (v:=u) hu fun u hu=>?_
    change zc _ _ _ _ (upd H1 d.O (.lst ((other:: os2).map V.str)))
    generalize upd H1 d.O (.lst ((other:: os2).map V.str))=H2 at D2 c2 ⊢
    refine⟨_,rfl,d.S,_,2,_,rfl,rfl,D2.seqS,aK (j:=2) rfl,.inl ⟨rfl,_,SqL.of D2.opens⟩,d.O,_,0,0,.str other,rfl,rfl,D2.opens,by decide,by decide,ix_nat (by simp),rfl,?_⟩
    have D3:=D2.open (os':=os2)
    have c3:bj d.E (upd H2 d.O (.lst (os2.map V.str)))=bj d.E H2:=cj (by simp)
    refine bx (v:=u) hu fun u hu=>?_
    change zc _ _ _ _ (upd H2 d.O (.lst (os2.map V.str)))
    generalize upd H2 d.O (.lst (os2.map V.str))=H3 at D3 c3 ⊢
    have s3:aW (bj d.E H) (bj d.E H3):=by rw [c3,c2];exact s1
    refine⟨by show 3≤sizeLine;exact szl,fun a0 n0=>?_⟩
    have s0:=aH (o:=.lst [.str "add",.str "less",.str "add"]) n0
    have D0:=D3.keep s0
    have c0:=s3.trans (D3.cut s0)
    refine⟨_,rfl,_,rfl,d.S,_,2,_,rfl,rfl,D0.seqS,aK (j:=2) rfl,.ref d.O,os2.length,rfl,.inl ⟨_,SqL.of D0.opens,by simp⟩,c,(os2.length:Int),rfl,_,_,rfl,rfl,by show(0:Int) <3;decide,?_⟩
    obtain⟨i,ei,hi⟩:=pick3 (cg c (os2.length:Int))
    refine⟨a0,_,_,_,rfl,rfl,SqL.of aA,ei,?_⟩
    generalize upd H3 a0 (.lst [.str "add",.str "less",.str "add"])=H0 at s0 D0 c0 ⊢
    obtain⟨xs,eP,aP⟩:=D0.parts
    have xl:=aP.length
    have hN:([]:List Int).length=cN i:=by rcases hi with rfl | rfl <;> rfl
    have hI:[one,other].length=cI i:=by rcases hi with rfl | rfl <;> rfl
    have hO:1=cO i:=by rcases hi with rfl | rfl <;> rfl
    subst hu
    refine⟨_,rfl,_,rfl,_,rfl,d.S,_,1,_,rfl,rfl,D0.seqS,aK (j:=1) rfl,.ref d.P,ps1.length,rfl,.inl ⟨_,SqL.of eP,xl.symm⟩,_,_,rfl,rfl,_,_,rfl,?_⟩
    refine⟨_,rfl,by show 0≤sizeLine;exact szl,fun a1 n1=>⟨_,rfl,_,rfl,by show 2≤sizeLine;exact szl,fun a2 n2=>?_⟩⟩
    obtain⟨D9,z1,z2,z3⟩:=D0.two n1 n2 (y:=.lst [.str one,.str other])
    refine⟨d,_,_,os2,_,i,a1,a2,[],[one,other],1,rfl,D9,z1,z2,by omega,hN,by simp,hI,hO,by omega,by omega,by omega,fun newl H8 hn s8 D8=>?_⟩
    have w8:=rK w1 rfl D8 (.refl _) (by omega) (by rw [lP];omega)
    subst hD
    refine⟨⟨_,_,_,_,_,_,rfl,c0.trans (z3.trans s8),D8,w8,?_,?_,?_,?_,?_,hC1.app (by show i <9;omega)⟩,?_⟩
    ·rw [lP,lM];omega
    ·rw [lP,lM];omega
    ·rw [lP];omega
    ·rw [lP,lP,lM];omega
    ·rw [lP,lP,lM,List.length_singleton];omega
    ·rw [yz D8.opens,lm,lM,lM,lP,lM,List.length_cons,List.length_cons]
     omega
   ·have h3:os1.length=1:=by
     have:¬(1:Int) <(os1.length:Int):=fun z=>h3 (decide_eq_true z)
     omega
    obtain⟨y,rfl⟩:=List.length_eq_one_iff.mp h3
    refine bx (v:=u) hu fun u hu=>?_
    refine⟨_,rfl,B,rfl,⟨_,SqL.of (bQ _ _ (s1 _ _ eB))⟩,?_⟩
    refine il (K:=K) (a:=B) (xs:=back.map V.str) (fun j σ H2=>∃(ls2:List LaneD) (ps2:List PD) (y:Str) (u3 u6 u7:Option V),σ=[some (.ref d.S),some (.int c),some (.ref B),u3,v4,v5,u6,u7]∧aW (bj d.E H) (bj d.E H2)∧DAt d H2 ls2 ps2 [y]∧Drawn.WF (vN ls2 ps2 [y] (back.drop j))∧ls.length≤ls2.length∧ls2.length≤15+j∧ps2.length≤13+j∧Calm ps2) ⟨ls1,ps1,y,v3,none,none,rfl,s1,D1,w1,hl1,by have z:=hl2;rw [List.length_singleton] at z;omega,by have z:=hp2;rw [List.length_singleton] at z;omega,hC1⟩ (fun j σ H2 _ ⟨ls2,ps2,y,u3,u6,u7,e,s2,h⟩=>SqL.of (bQ _ _ (s2 _ _ eB))) ?_ ?_
    ·rintro j x σ H2 hx ⟨ls2,ps2,y2,u3,u6,u7,rfl,s2,D2,w2,hl2',hl3,hp3,hC2⟩
     rw [List.getElem?_map] at hx
     obtain⟨bn,hbn,rfl⟩:=Option.map_eq_some_iff.mp hx
     have hj:j <back.length:=by
      rcases Nat.lt_or_ge j back.length with h | h
      ·exact h
      ·rw [List.getElem?_eq_none h] at hbn;cases hbn
     have hdr:back.drop j=bn:: back.drop (j+1):=by
      rw [List.drop_eq_getElem_cons hj]
      rw [List.getElem?_eq_getElem hj,Option.some.injEq] at hbn
      rw [hbn]
     refine hideG fun De hD u hu=>?_
     refine⟨_,rfl,d.S,_,2,_,rfl,rfl,D2.seqS,aK (j:=2) rfl,.inl ⟨rfl,_,SqL.of D2.opens⟩,d.O,_,.str y2,rfl,rfl,D2.opens,rfl,?_⟩
     have D3:=D2.open (os':=[])
     have c3:bj d.E (upd H2 d.O (.lst (([]:List Str).map V.str)))=bj d.E H2:=cj (by simp)
     refine bx (v:=u) hu fun u hu=>?_
     change zc _ _ _ _ (upd H2 d.O (.lst (([]:List Str).map V.str)))
     generalize upd H2 d.O (.lst (([]:List Str).map V.str))=H3 at D3 c3 ⊢
     obtain⟨xs,eP,aP⟩:=D3.parts
     have xl:=aP.length
     refine⟨_,rfl,_,rfl,_,rfl,d.S,_,1,_,rfl,rfl,D3.seqS,aK (j:=1) rfl,.ref d.P,ps2.length,rfl,.inl ⟨_,SqL.of eP,xl.symm⟩,_,_,rfl,rfl,_,_,rfl,d,ls2,ps2,[],_,false,rfl,D3,by omega,fun l H4 _ s4 D4=>?_⟩
     rw [c3] at s4
     have s24:=s2.trans s4
     obtain⟨xs4,eP4,aP4⟩:=D4.parts
     have xl4:=aP4.length
     refine bx (v:=u) hu fun u hu=>?_
     refine⟨_,rfl,d.S,_,1,_,rfl,rfl,D4.seqS,aK (j:=1) rfl,.inl ⟨rfl,_,SqL.of eP4⟩,?_⟩
     refine⟨_,rfl,d.S,_,4,_,rfl,rfl,D4.seqS,aK (j:=4) rfl,?_⟩
     refine⟨_,rfl,d.S,_,1,_,rfl,rfl,D4.seqS,aK (j:=1) rfl,.ref d.P,ps2.length,rfl,.inl ⟨_,SqL.of eP4,xl4.symm⟩,?_⟩
     refine⟨d.c4,ps2.length,rfl,by omega,fun H5 s5=>?_⟩
     have D5:=D4.keep s5
     have c5:=s24.trans (D4.cut s5)
     have eP5:=s5 _ _ eP4
     refine⟨by show 0≤sizeLine;exact szl,fun a1 n1=>⟨_,rfl,by show 1≤sizeLine;exact szl,fun a2 n2=>⟨_,rfl,_,rfl,by show 2≤sizeLine;exact szl,fun a3 n3=>⟨by show 5≤sizeLine;exact szl,fun q nq=>?_⟩⟩⟩⟩
     obtain⟨D6,z1,z2,z3⟩:=D5.two n1 n2 (y:=.lst [.str y2])
     have t6:aW H5 (upd (upd H5 a1 (.lst [])) a2 (.lst [.str y2])):=(aH n1).trans (aH n2)
     have eP6:=t6 _ _ eP5
     generalize upd (upd H5 a1 (.lst [])) a2 (.lst [.str y2])=H6 at D6 z1 z2 z3 t6 eP6 n3 nq ⊢
     obtain⟨D7,y1,y2',y3⟩:=D6.two n3 nq (y:=.tup [.str "copy",.str (cG d.c4 ps2.length),.ref a1,.ref a2,.ref a3])
     have t7:aW H6 (upd (upd H6 a3 (.lst [.str bn,.str l.name])) q (.tup [.str "copy",.str (cG d.c4 ps2.length),.ref a1,.ref a2,.ref a3])):=(aH n3).trans (aH nq)
     have eP7:=t7 _ _ eP6
     generalize upd (upd H6 a3 (.lst [.str bn,.str l.name])) q (.tup [.str "copy",.str (cG d.c4 ps2.length),.ref a1,.ref a2,.ref a3])=H7 at D7 y1 y2' y3 t7 eP7 ⊢
     have c7:=c5.trans (z3.trans y3)
     refine⟨d.P,xs4,_,rfl,rfl,eP7,by omega,?_⟩
     have D8:=D7.part (p:=⟨3,cG d.c4 ps2.length,[],[y2],[bn,l.name]⟩) ⟨q,a1,a2,a3,rfl,y2',y3 _ _ z1,y3 _ _ z2,y1⟩ ⟨by show 3 <11;omega,rfl,rfl,rfl,by simp⟩ rfl eP7
     have c8:bj d.E (upd H7 d.P (.lst (xs4 ++ [.ref q])))=bj d.E H7:=cj (by simp)
     generalize upd H7 d.P (.lst (xs4 ++ [.ref q]))=H8 at D8 c8 ⊢
     subst hu
     refine⟨_,rfl,d.S,_,2,_,rfl,rfl,D8.seqS,aK (j:=2) rfl,.inl ⟨rfl,_,SqL.of D8.opens⟩,_,rfl,d.O,_,_,rfl,rfl,D8.opens,by simp;omega,?_⟩
     have D9:=D8.open (os':=[l.name])
     have nd:=D9.nod (by rw [lP,List.length_singleton];omega)
     rw [hdr] at w2
     have wc:=w2.closeBack (p:=⟨3,cG d.c4 ps2.length,[],[y2],[bn,l.name]⟩) (rest:=back.drop (j+1)) (one:=y2) (b:=bn) (fresh:=l.name) rfl rfl (.refl _) rfl (by simpa using nd)
     subst hD
     exact⟨ls2 ++ [l],_,l.name,_,_,_,rfl,by rw [cj (by simp),c8];exact c7,D9,by simpa [vN] using wc,by rw [lP];omega,by rw [lP,List.length_singleton];omega,by rw [lP,List.length_singleton];omega,hC2.app (by show 3 <9;omega)⟩
    rintro σ H2 ⟨ls2,ps2,y2,u3,u6,u7,rfl,s2,D2,w2,hl2',hl3,hp3,hC2⟩
    rw [lM] at w2 hl3 hp3
    rw [List.drop_length] at w2
    subst hu
    refine⟨_,rfl,_,rfl,by show 0≤sizeLine;exact szl,fun a3 n3=>?_⟩
    have t3:=aH (o:=.lst []) n3
    have D3:=D2.keep t3
    have c3:=s2.trans (D2.cut t3)
    have o3:=D2.out n3
    have e3:=dw (aA (H:=H2) (a:=a3) (o:=.lst ([]:List V))) o3
    generalize upd H2 a3 (.lst [])=H3 at t3 D3 c3 e3 ⊢
    refine⟨_,rfl,d.S,_,2,_,rfl,rfl,D3.seqS,aK (j:=2) rfl,.inl ⟨rfl,_,SqL.of D3.opens⟩,d.O,_,.str y2,rfl,rfl,D3.opens,rfl,?_⟩
    have D4:=D3.open (os':=[])
    have c4:bj d.E (upd H3 d.O (.lst (([]:List Str).map V.str)))=bj d.E H3:=cj (by simp)
    rw [show([y2].map V.str).dropLast=([]:List Str).map V.str from rfl]
    refine⟨by show 1≤sizeLine;exact szl,fun a4 n4=>?_⟩
    generalize upd H3 d.O (.lst (([]:List Str).map V.str))=H4 at D4 c4 n4 ⊢
    have s5:=aH (o:=.lst [.str y2]) n4
    have D5:=D4.keep s5
    have c5:=D4.cut s5
    rw [c4] at c5
    have e5:=dw (E:=d.E) (H:=upd H4 a4 (.lst [.str y2])) aA (D4.out n4)
    refine⟨d,ls2,ps2,[],_,1,a3,a4,[],[y2],0,rfl,D5,c5 _ _ e3,e5,by omega,rfl,by simp,rfl,rfl,by omega,by omega,by simp,fun newl2 H9 hn2 s9 D9=>?_⟩
    have hz:newl2=[]:=List.length_eq_zero_iff.mp hn2
    subst hz
    rw [List.map_nil,List.append_nil,List.append_nil] at D9
    obtain⟨x1,x2,x3⟩:=w2.last (p:=⟨1,cG d.c4 ps2.length,[],[y2],[]⟩) (y:=y2) rfl rfl rfl rfl
    exact k ls2 _ H9 (c3.trans (c5.trans s9)) D9 ⟨w2.nod,x1,x2,y2,x3⟩ (by omega) hl2' (by rw [lP,List.length_singleton];omega) (by rw [lP,List.length_singleton];omega) (hC2.app (by show 1 <9;omega))
  ·intro σ H' Q' Q'' hm hq
   obtain⟨x1,x2,x3,x4,x5,x6,x7,x8,x9,x10,x11,x12,x13,x14,x15,x16,x17,x18,x19,x20,q⟩:=hq
   exact⟨x1,x2,x3,x4,x5,x6,x7,x8,x9,x10,x11,x12,x13,x14,x15,x16,x17,x18,x19,x20,hm _ _ q⟩
def sp__law_net (K:PySem.W.Frag):Sp:=fun vs H Q _=>∃(a:Addr) (ns:List Int) (start steps:Nat),vs=[.ref a,.int (start:Nat),.int (steps:Nat),.bl false]∧SqL K H a (ns.map V.int)∧steps≤4∧∀(T L P:Addr) (ls:List LaneD) (ps:List PD) (H':Hp),aW H H'→H L=none→H P=none→L≠P→H' T=some (.tup [.ref L,.ref P])→NetAt H' L P ls ps→NetD (oJ ns start) (oJ ns (start+1)) ls ps→Q (.ref T) H'
theorem sc__law_net:FnScope ["_law_script", "_law_start", "_law_steps", "_law_odd", "_law_one", "_law_other", "_law_state", "_law_k", "_law_back", "_law_at"] ["_law_script", "_law_start", "_law_steps", "_law_odd"] (az kZ):=⟨rfl,rfl,rfl,by decide +kernel,rfl,by decide +kernel,by decide +kernel⟩
theorem ok__law_net (T:Txt w K mg t):FnOk P w K mg base CX0 7 t.xY t.vZ ["_law_script", "_law_start", "_law_steps", "_law_odd"] (sp__law_net K):=by
 have sc:=sc__law_net
 refine T.Aj.ok sc (fun vs H Q E h=>?_) (fun cdv A outer s H vs Q E hr h=>?_)
 ·obtain⟨a,ns,start,steps,rfl,_⟩:=h
  rfl
 ·obtain⟨a,ns,start,steps,rfl,hS,hst,k⟩:=h
  refine⟨_,(au (aZ (i:=4) sc.nd rfl (Or.inl rfl) (aJ (uv T) (hr.mono (by decide)) (by rfl) T.uP T.qm.kp T.wj .nil aO (aa (pv 0) (aa (pv 1) ak aj) aj)))
   (au (aZ (i:=5) sc.nd rfl (Or.inr rfl) (aJ (uv T) (hr.mono (by decide)) (by rfl) T.uP T.qm.kp T.wj .nil aO (aa (pv 0) (aa (bw dm (pv 1) aq) ak bW) aj)))
   (au (aZ (i:=6) sc.nd rfl (Or.inr rfl) (bO (aa (bO ak) (aa (bO ak) (aa (bO ak) (aa (pv 4) (aa (pv 5) ak aj) aj) bF) bF) bF)))
   (au (d9 PassesOwn.never rfl (gU rfl T.lV (aa (bw dm aq (bw cB (aJ (bc T) (hr.mono (by decide)) (by rfl) T.bC T.bz.kp T.bB .nil aO (aa (pv 4) (aa aq ak ao) aj)) aq)) ak bW)) (bU (i:=7) sc.nd rfl (Or.inl rfl))
    (aB (bH (aJ (cD T) (hr.mono (by decide)) (by rfl) T.cV T.cH.kp T.cU .nil aO (aa (pv 6) (aa (aJ (bc T) (hr.mono (by decide)) (by rfl) T.bC T.bz.kp T.bB .nil aO (aa (pv 5) (aa (pv 7) ak aj) aj)) (aa bM (aa (bO ak) (aa (bO ak) (aa aq ak ao) bF) bF) ao) aX) aj)))))
   (au (yg (i:=8) [5,6] ["_law_script", "_law_start", "_law_steps", "_law_odd", "_law_one", "_law_other", "_law_state", "_law_k", "_law_back", "_law_at"] (az kZ) rfl sc.nd rfl (gU rfl T.lV (aa (bw cB (aJ (bc T) (hr.mono (by decide)) (by rfl) T.bC T.bz.kp T.bB .nil aO (aa (pv 4) (aa aq ak ao) aj)) aq) ak bW)) (fun _ _ _ _ _=>mD) (fun _ _ _ _ _=>(aJ (lX T) (hr.mono (by decide)) (by rfl) T.m9 T.lz.kp T.nj .nil aO (aa (pv 2) (aa (aJ (bc T) (hr.mono (by decide)) (by rfl) T.bC T.bz.kp T.bB .nil aO (aa (pv 1) (aa (bw dm aq (pv 0)) ak bW) aj)) (aa fB ak ao) aX) aj))))
   (au (bH (mJ PySem.F.plainAttrs_list PySem.F.slot_list_extend PySem.F.type_list_extend yP (aQ bA (pv 6) aq (fun _ _=>rfl)) (aa (pv 8) ak aj)))
   (au (d9 PassesOwn.never rfl (gU rfl T.lV (aa (pv 2) ak aj)) (bU (i:=7) sc.nd rfl (Or.inl rfl))
    (aB (bH (aJ (ok__law_step T) (hr.mono (by decide)) (by rfl) T.m__law_step T.zG.kp T.b__law_step .nil aO (aa (pv 6) (aa (aJ (uv T) (hr.mono (by decide)) (by rfl) T.uP T.qm.kp T.wj .nil aO (aa (pv 0) (aa (bw dm (bw dm (pv 1) aq) (pv 7)) ak bW) aj)) (aa (pv 3) ak aj) aX) aj)))))
   (au (bH (aJ (ok__law_closed T) (hr.mono (by decide)) (by rfl) T.m__law_closed T.xf.kp T.b__law_closed .nil aO (aa (pv 6) (aa (pv 5) (aa (pv 8) ak aj) aj) aj)))
   (au (aZ (i:=9) sc.nd rfl (Or.inl rfl) (bw cB (aJ (bc T) (hr.mono (by decide)) (by rfl) T.bC T.bz.kp T.bB .nil aO (aa (pv 4) (aa aq ak ao) aj)) (aV bN (by rfl) T.du cC (aa (aQ bA (pv 6) aq (fun _ _=>rfl)) ak aF))))
   (aB (aY (ie (aa (aQ bA (pv 6) aq (fun _ _=>rfl)) (aa (bw op_cat (pQ z8 (aQ bA (pv 6) aq (fun _ _=>rfl)) (qp (pv 9)) wL) (pQ z8 (aQ bA (pv 6) aq (fun _ _=>rfl)) wL (qp (pv 9)))) ak bW) aF))))))))))))),?_⟩
  have hl:sizeLine=16777216:=sizeLine_eq
  refine hide fun u hu=>?_
  refine⟨_,rfl,_,rfl,a,ns,start,rfl,hS,?_⟩
  refine bx (v:=u) hu fun u hu=>?_
  refine⟨_,rfl,_,rfl,_,_,rfl,rfl,a,ns,start+1,rfl,hS,?_⟩
  refine bx (v:=u) hu fun u hu=>?_
  refine⟨by show 0≤sizeLine;exact szl,fun L nL=>⟨by show 0≤sizeLine;exact szl,fun P' nP=>⟨by show 0≤sizeLine;exact szl,fun O nO=>⟨_,rfl,_,rfl,by show 5≤sizeLine;exact szl,fun S nS=>?_⟩⟩⟩⟩
  obtain⟨D1,s1,nP0⟩:=DAt.init (oJ ns start) (oJ ns (start+1)) nL nP nO nS
  have nLP:L≠P':=D1.ne.1
  refine bx (v:=u) hu fun u hu=>?_
  change zc _ _ _ [some (.ref a),some (.int (start:Nat)),some (.int (steps:Nat)),some (.bl false),some (.int (oJ ns start)),some (.int (oJ ns (start+1))),some (.ref S),none,none,none] (upd (upd (upd (upd H L (.lst [])) P' (.lst [])) O (.lst [])) S (.lst [.ref L,.ref P',.ref O,.int (oJ ns start),.int (oJ ns (start+1))]))
  generalize upd (upd (upd (upd H L (.lst [])) P' (.lst [])) O (.lst [])) S (.lst [.ref L,.ref P',.ref O,.int (oJ ns start),.int (oJ ns (start+1))])=H1 at D1 s1 ⊢
  obtain⟨d,hd⟩:∃d:Dw,d=⟨S,L,P',O,oJ ns start,oJ ns (start+1)⟩:=⟨_,rfl⟩
  rw [←hd] at D1
  have hE:[L,P',O]=d.E:=by rw [hd]
  have hSd:S=d.S:=by rw [hd]
  have hLd:L=d.L:=by rw [hd]
  have hc3:oJ ns start=d.c3:=by rw [hd]
  have hc4:oJ ns (start+1)=d.c4:=by rw [hd]
  rw [hE] at s1
  rw [hLd] at nL nLP
  rw [hc3,hc4] at k
  rw [hSd,hc3,hc4]
  clear hd hE nP nO nS
  have g0:=Int.emod_nonneg (cg d.c3 5) (show(2:Int)≠0 by decide)
  have g1:=Int.emod_lt_of_pos (cg d.c3 5) (show(0:Int) <2 by decide)
  refine⟨_,rfl,_,_,rfl,_,_,rfl,rfl,by show(0:Int) <2;decide,_,_,rfl,rfl,1+cg d.c3 5 % 2,rfl,by omega,by omega,?_⟩
  obtain⟨g,hg,hg1,hg2⟩:∃g:Nat,(1+cg d.c3 5 % 2).toNat=g∧1≤g∧g≤2:=⟨_,rfl,by omega,by omega⟩
  rw [hg]
  refine oX (fun j σ H2=>∃(ls:List LaneD) (ps:List PD) (os:List Str) (v7:Option V),σ=[some (.ref a),some (.int (start:Nat)),some (.int (steps:Nat)),some (.bl false),some (.int d.c3),some (.int d.c4),some (.ref d.S),v7,none,none]∧aW (bj d.E H1) (bj d.E H2)∧DAt d H2 ls ps os∧Drawn.WF (vN ls ps os [])∧ls.length=j∧ps.length=j∧os.length=j∧Calm ps) ⟨[],[],[],none,rfl,aW.refl _,D1,Drawn.WF.start,rfl,rfl,rfl,fun _ h=>by cases h⟩ ?_ ?_
  ·rintro j σ H2 hj ⟨ls,ps,os,v7,rfl,s2,D2,w2,h1,h2,h3,hC⟩
   refine hideD fun De hD=>?_
   refine⟨_,rfl,_,rfl,_,rfl,_,_,rfl,by show 0≤sizeLine;exact szl,fun a1 n1=>⟨by show 0≤sizeLine;exact szl,fun a2 n2=>?_⟩⟩
   obtain⟨D9,z1,z2,z3⟩:=D2.two n1 n2 (y:=.lst [])
   refine⟨d,ls,ps,os,_,0,a1,a2,[],[],1,rfl,D9,z1,z2,by omega,rfl,by simp,rfl,rfl,by omega,by omega,by omega,fun newl H8 hn s8 D8=>?_⟩
   have w8:=rK w2 rfl D8 (.refl _) (by omega) (by rw [lP];omega)
   subst hD
   exact⟨_,_,_,_,rfl,s2.trans (z3.trans s8),D8,w8,by rw [lP];omega,by rw [lP,List.length_singleton];omega,by rw [lP,lM];omega,hC.app (by show 0 <9;omega)⟩
  rintro σ H2 ⟨ls,ps,os,v7,rfl,s2,D2,w2,h1,h2,h3,hC⟩
  have b0:=Int.emod_nonneg (cg d.c3 6) (show(3:Int)≠0 by decide)
  have b1:=Int.emod_lt_of_pos (cg d.c3 6) (show(0:Int) <3 by decide)
  refine bx (v:=u) hu fun u hu=>?_
  refine⟨_,rfl,_,_,rfl,_,_,rfl,rfl,by show(0:Int) <3;decide,cg d.c3 6 % 3,rfl,by omega,by omega,?_⟩
  obtain⟨nb,hnb,hnb2⟩:∃nb:Nat,(cg d.c3 6 % 3).toNat=nb∧nb≤2:=⟨_,rfl,by omega⟩
  rw [hnb]
  refine o9 (fun j ys H3=>∃(ls3:List LaneD) (bl:List Str),ys=bl.map V.str∧bl.length=j∧aW (bj d.E H1) (bj d.E H3)∧DAt d H3 ls3 ps os∧Drawn.WF (vN ls3 ps (os ++ bl) bl)∧ls3.length=g+j) (by omega) ⟨ls,[],rfl,rfl,s2,D2,by rw [List.append_nil];exact w2,by omega⟩ (fun j ys H3 ⟨_,bl,e,e2,_⟩=>by rw [e,lM];omega) ?_ ?_
  ·rintro j ys H3 hj ⟨ls3,bl,rfl,hb,s3,D3,w3,h4⟩
   refine yes ⟨_,rfl,_,rfl,_,rfl,_,_,rfl,rfl,_,_,rfl,d,ls3,ps,os,_,true,rfl,D3,by omega,fun l H4 _ s4 D4=>?_⟩
   have nd:=D4.nod (by rw [lP,List.length_singleton];omega)
   have wb:=w3.backLane (b:=l.name) (by simpa using nd)
   exact⟨ls3 ++ [l],bl ++ [l.name],by simp,by simp [hb],s3.trans s4,D4,by simpa [vN] using wb,by rw [lP,List.length_singleton];omega⟩
  rintro ys H3 ⟨ls3,bl,rfl,hbl,s3,D3,w3,h4⟩ B nB
  have t4:=aH (o:=.lst (bl.map V.str)) nB
  have D4:=D3.keep t4
  have s4:=s3.trans (D3.cut t4)
  have eB:=dw (aA (H:=H3) (a:=B) (o:=.lst (bl.map V.str))) (D3.out nB)
  generalize upd H3 B (.lst (bl.map V.str))=H4 at t4 D4 s4 eB ⊢
  refine bx (v:=u) hu fun u hu=>?_
  refine⟨_,rfl,d.S,_,2,_,rfl,rfl,D4.seqS,aK (j:=2) rfl,.inl ⟨rfl,_,SqL.of D4.opens⟩,_,rfl,d.O,B,_,_,rfl,rfl,D4.opens,bQ _ _ eB,by rw [lM,lM];omega,?_⟩
  rw [←List.map_append]
  have D5:=D4.open (os':=os ++ bl)
  have c5:bj d.E (upd H4 d.O (.lst ((os ++ bl).map V.str)))=bj d.E H4:=cj (by simp)
  generalize upd H4 d.O (.lst ((os ++ bl).map V.str))=H5 at D5 c5 ⊢
  rw [←c5] at s4 eB
  refine bx (v:=u) hu fun u hu=>?_
  refine⟨_,rfl,(steps:Int),rfl,by omega,by omega,?_⟩
  rw [Int.toNat_natCast]
  refine oX (fun j σ H6=>∃(ls6:List LaneD) (ps6:List PD) (os6:List Str) (v7:Option V),σ=[some (.ref a),some (.int (start:Nat)),some (.int (steps:Nat)),some (.bl false),some (.int d.c3),some (.int d.c4),some (.ref d.S),v7,some (.ref B),none]∧aW (bj d.E H5) (bj d.E H6)∧DAt d H6 ls6 ps6 os6∧Drawn.WF (vN ls6 ps6 os6 bl)∧1≤ls6.length∧ls6.length≤4+2 * j∧ps6.length≤2+2 * j∧os6≠[]∧os6.length≤4∧Calm ps6) ⟨ls3,ps,os ++ bl,v7,rfl,aW.refl _,D5,w3,by omega,by omega,by omega,by intro z;have:=congrArg List.length z;rw [lP,List.length_nil] at this;omega,by rw [lP];omega,hC⟩ ?_ ?_
  ·rintro j σ H6 hj ⟨ls6,ps6,os6,u7,rfl,s6,D6,w6,l0,l6,p6,o0,o6,hC6⟩
   have hS6:SqL K H6 a (ns.map V.int):=bQ.seq ((s1.trans (s4.trans s6)).seq hS)
   refine hideD fun De hD=>?_
   refine⟨_,rfl,_,rfl,_,rfl,_,_,rfl,rfl,_,rfl,_,_,rfl,rfl,a,ns,start+2+(0+j),rfl,hS6,_,rfl,d,ls6,ps6,os6,_,bl,rfl,D6,w6,o0,o6,by omega,by omega,fun ls' ps' os' H' X=>?_⟩
   subst hD
   exact⟨ls',ps',os',_,rfl,s6.trans X.cut,X.at',X.wf,by have h1:=X.wf.ins.length_eq;have h2:=X.o1;rw [lP,lM] at h1;change _+os'.length=_ at h1;omega,by have:=X.l2;omega,by have:=X.p2;omega,by intro z;have:=X.o1;rw [z] at this;simp at this,X.o4,X.cm hC6⟩
  rintro σ H6 ⟨ls6,ps6,os6,u7,rfl,s6,D6,w6,l0,l6,p6,o0,o6,hC6⟩
  refine bx (v:=u) hu fun u hu=>?_
  refine⟨_,rfl,_,rfl,_,rfl,d,ls6,ps6,os6,_,B,bl,rfl,D6,w6,s6 _ _ eB,o0,o6,by omega,by omega,by omega,hC6,fun ls7 ps7 H7 s7 D7 W7 l17 l7 p16 p1 hC7=>?_⟩
  obtain⟨xsL,eL,aL⟩:=D7.lanes
  obtain⟨xsP,eP,aP⟩:=D7.parts
  have xl:=aP.length
  refine bx (v:=u) hu fun u hu=>?_
  refine⟨_,rfl,_,_,rfl,_,rfl,d.S,_,1,_,rfl,rfl,D7.seqS,aK (j:=1) rfl,.ref d.P,ps7.length,rfl,.inl ⟨_,SqL.of eP,xl.symm⟩,cg d.c3 7,(ps7.length:Int),rfl,rfl,by omega,?_⟩
  have r0:=Int.emod_nonneg (cg d.c3 7) (show(ps7.length:Int)≠0 by omega)
  obtain⟨r,hr'⟩:∃r:Nat,cg d.c3 7 % (ps7.length:Int)=(r:Int):=⟨_,(Int.toNat_of_nonneg r0).symm⟩
  dsimp only
  rw [hr']
  subst hu
  refine⟨_,rfl,d.S,_,0,_,rfl,rfl,D7.seqS,aK (j:=0) rfl,?_⟩
  refine⟨_,rfl,d.S,_,1,_,rfl,rfl,D7.seqS,aK (j:=1) rfl,?_⟩
  refine⟨_,rfl,_,rfl,d.P,_,rfl,SqL.of eP,fun q1 m1=>?_⟩
  rw [zg]
  have t1:=aH (o:=.lst (xsP.drop r)) m1
  have f1:upd H7 q1 (.lst (xsP.drop r)) q1=some (.lst (xsP.drop r)):=aA
  have D8:=D7.keep t1
  have eP8:=t1 _ _ eP
  have eL8:=t1 _ _ eL
  generalize upd H7 q1 (.lst (xsP.drop r))=H8 at t1 f1 D8 eP8 eL8 ⊢
  refine⟨_,rfl,d.S,_,1,_,rfl,rfl,D8.seqS,aK (j:=1) rfl,_,rfl,_,rfl,d.P,_,rfl,SqL.of eP8,fun q2 m2=>?_⟩
  rw [cutV_to]
  have t2:=aH (o:=.lst (xsP.take r)) m2
  have f2:upd H8 q2 (.lst (xsP.take r)) q2=some (.lst (xsP.take r)):=aA
  have f12:=t2 _ _ f1
  have eL9:=t2 _ _ eL8
  generalize upd H8 q2 (.lst (xsP.take r))=H9 at t2 f2 f12 eL9 ⊢
  refine⟨q1,q2,_,_,rfl,rfl,f12,f2,by rw [List.length_drop,List.length_take];omega,fun q3 m3=>?_⟩
  have t3:=aH (o:=.lst (xsP.drop r ++ xsP.take r)) m3
  have f3:upd H9 q3 (.lst (xsP.drop r ++ xsP.take r)) q3=some (.lst (xsP.drop r ++ xsP.take r)):=aA
  have eLA:=t3 _ _ eL9
  generalize upd H9 q3 (.lst (xsP.drop r ++ xsP.take r))=HA at t3 f3 eLA ⊢
  refine⟨by show 2≤sizeLine;exact szl,fun T' nT=>?_⟩
  have t4:=aH (o:=.tup [.ref d.L,.ref q3]) nT
  have sA:aW H7 (upd HA T' (.tup [.ref d.L,.ref q3])):=t1.trans (t2.trans (t3.trans t4))
  have s17:aW H (bj d.E H7):=s1.trans (s4.trans (s6.trans s7))
  have s07:aW H H7:=s17.trans bQ
  have free3:H q3=none:=s07.free (t1.free (t2.free m3))
  have cA:aW (bj d.E H7) (upd HA T' (.tup [.ref d.L,.ref q3])):=bQ.trans sA
  have nq:d.L≠q3:=aD eL9 m3
  have rp:=rot_perm ps7 r
  refine k T' d.L q3 ls7 (ps7.drop r ++ ps7.take r) _ (s07.trans sA) nL free3 nq aA ⟨⟨xsL,t4 _ _ eLA,aL.imp fun _ _ h=>h.same cA⟩,⟨_,t4 _ _ f3,((aP.drop r).app (aP.take r)).imp fun _ _ h=>h.same cA⟩⟩ ⟨D7.lok,fun p hp=>D7.pok p (rp.mem_iff.mpr hp),D7.ln,?_,W7.perm rp,by omega,l17,by rw [←rp.length_eq];exact p1,by rw [←rp.length_eq];exact p16,fun p hp=>hC7 p (rp.mem_iff.mpr hp)⟩
  rw [←rp.length_eq,←D7.pn]
  exact rp.map _
def sp_is_name (K:PySem.W.Frag):Sp:=fun vs H Q _=>∃x,vs=[x]∧((∃z:Str,x=.str z∧z.length≤100∧∀H',aW H H'→Q (.bl (nameB z)) H')∨∃Tx,tyN K H x Tx∧Tx∈qD∧Tx≠ "str" ∧Q (.bl false) H)
theorem sc_is_name:FnScope ["thing"] ["thing"] (az mY):=⟨rfl,rfl,rfl,by decide +kernel,rfl,by decide +kernel,by decide +kernel⟩
theorem ok_is_name (T:Txt w K mg t):FnOk P w K mg base CX0 1 t.zj t.xM ["thing"] (sp_is_name K):=by
 have sc:=sc_is_name
 refine T.F_is_name.ok sc (fun vs H Q E h=>?_) (fun cdv A outer s H vs Q E hr h=>?_)
 ·obtain⟨x,rfl,_⟩:=h
  rfl
 ·obtain⟨x,rfl,h⟩:=h
  refine⟨_,(au (bT (PW.pt (mH (dZ (dM (aV lY (by rfl) T.dN dq (aa (pv 0) (aa (oV (by rfl) T.n_str bt_str) ak aj) aj)))) (mz (dZ (yL uI uI aq (aV bN (by rfl) T.du cC (aa (pv 0) ak aj)) (nG (by rfl) T.g_LONGEST_NAME))))))
    (aB (aY fB))
    bD)
   (aB (aY (pe_and (wK yS (aQ ix_str (pv 0) aq (fun _ _=>rfl)) (nG (by rfl) T.g_LETTERS) (by with_unfolding_all rfl)) (Bk (aV (Br rfl) (by rfl) T.n_all bt_all (aa (iR [] ["thing"] (az mY) rfl (pi_str (pv 0)) (fun _ _ _ _ _=>mD) (fun _ _ _ _ _=>(pe_or (wK yS (pv 0) (nG (by rfl) T.g_LETTERS) (by with_unfolding_all rfl)) (Bk (wK yS (pv 0) (nG (by rfl) T.g_FIGURES) (by with_unfolding_all rfl)))))) ak gP))))))),?_⟩
  have hl:sizeLine=16777216:=sizeLine_eq
  rcases h with ⟨z,rfl,hz,k⟩ | ⟨Tx,ty,hm,hne,k⟩
  ·refine⟨_,rfl,.str z, "str", "str",true,rfl,rfl,by decide,by decide,_,rfl,cQ ?_⟩
   refine⟨_,rfl,.str z,z.length,rfl,⟨by omega,rfl⟩,_,_,rfl,rfl,_,rfl,?_⟩
   cases e:z.cps.toList with
   | nil=>
    have h0:z.length=0:=by rw [←oW,e];rfl
    rw [h0]
    refine cQ ⟨_,rfl,tV ?_⟩
    have:=k H (aW.refl _)
    unfold nameB at this
    rw [e] at this
    exact this
   | cons c r=>
    have hlen:z.length=r.length+1:=by rw [←oW,e];rfl
    refine uK (by omega) ⟨_,_,rfl,rfl,_,rfl,oH (fun h=>?_) (fun h=>?_)⟩
    ·have h8:¬(z.length:Int)≤8:=by simpa using h
     have:=k H (aW.refl _)
     unfold nameB at this
     rw [e] at this
     simp only [show ¬r.length≤7 by omega,decide_false,Bool.false_and] at this
     exact this
    ·have h8:(z.length:Int)≤8:=by simpa using h
     have hc0:atI z.cps.toList 0=some c:=by rw [e];exact aK (xs:=c:: r) (j:=0) rfl
     refine⟨_,rfl,z,_,c,rfl,rfl,by omega,hc0,_,_,rfl,rfl,_,rfl,?_⟩
     have kk:∀H',aW H H'→Q (.bl (low c && z.cps.toList.all fun d=>low d || fig d)) H':=fun H' s'=>by
      have:=k H' s'
      unfold nameB at this
      rw [e] at this ⊢
      simp only [show r.length≤7 by omega,decide_true,Bool.true_and] at this
      exact this
     rw [in_let]
     refine oH (fun hc=>?_) (fun hc=>?_)
     ·rw [hc,Bool.true_and] at kk
      refine⟨_,rfl,z,rfl,comp_str (fun i ys H'=>H'=H∧ys=((z.cps.toList.take i).map fun d=>low d || fig d).map V.bl) (by simp only [Str.length] at hz;omega) ⟨rfl,by simp⟩ (fun i ys H' ⟨_,e⟩=>by rw [e];simp only [lM,List.length_take];omega) ?_ ?_⟩
      ·rintro i d ys H' hd ⟨rfl,rfl⟩
       refine yes ⟨_,rfl,_,_,rfl,rfl,_,rfl,?_⟩
       have hd':z.cps.toList[i]?=some d:=by simpa using hd
       have next:∀b,b=(low d || fig d)→(((z.cps.toList.take i).map fun d=>low d || fig d).map V.bl) ++ [V.bl b]=((z.cps.toList.take (i+1)).map fun d=>low d || fig d).map V.bl:=fun b hb=>by
        rw [List.take_add_one,hd',hb]
        simp
       rw [in_let]
       refine oH (fun hl'=>?_) (fun hl'=>?_)
       ·exact⟨rfl,next true (by rw [hl'];rfl)⟩
       ·have hl2:low d=false:=by simpa using hl'
        refine⟨_,rfl,_,_,rfl,rfl,rfl,next _ ?_⟩
        rw [in_fig,hl2,Bool.false_or]
      ·rintro ys H' ⟨rfl,rfl⟩ D hD
       refine⟨D,(z.cps.toList.take z.cps.size).map fun d=>low d || fig d,rfl,SqL.of aA,?_⟩
       have hall:((z.cps.toList.take z.cps.size).map fun d=>low d || fig d).all id=z.cps.toList.all fun d=>low d || fig d:=by
        rw [List.take_of_length_le (by simp),List.all_map]
        rfl
       rw [hall]
       exact kk _ (aH hD)
     ·have hc':low c=false:=by simpa using hc
      rw [hc',Bool.false_and] at kk
      exact kk H (aW.refl _)
  ·have hb:subT Tx "str" =false:=by
    simp only [qD,List.mem_cons,List.not_mem_nil,or_false] at hm
    rcases hm with rfl | rfl | rfl | rfl | rfl | rfl | rfl <;> first | decide | exact absurd rfl hne
   exact⟨_,rfl,x,Tx, "str",false,rfl,ty,by decide,hb,_,rfl,tV (tV k)⟩
def sp_need_counts (K:PySem.W.Frag):Sp:=fun vs H Q _=>∃(a b:Addr) (xs ys:List V),vs=[.ref a,.ref b]∧SqL K H a xs∧SqL K H b ys∧1≤xs.length∧xs.length≤24∧1≤ys.length∧ys.length≤16∧Q .non H
theorem sc_need_counts:FnScope ["lanes", "parts"] ["lanes", "parts"] (az gJ):=⟨rfl,rfl,rfl,by decide +kernel,rfl,by decide +kernel,by decide +kernel⟩
theorem ok_need_counts (T:Txt w K mg t):FnOk P w K mg base CX0 1 t.qO t.pI ["lanes", "parts"] (sp_need_counts K):=by
 have sc:=sc_need_counts
 refine T.xm.ok sc (fun vs H Q E h=>?_) (fun cdv A outer s H vs Q E hr h=>?_)
 ·obtain⟨a,b,xs,ys,rfl,_⟩:=h
  rfl
 ·obtain⟨a,b,xs,ys,rfl,h1,h2,c1,c2,c3,c4,k⟩:=h
  refine⟨_,(au (bT (dZ (yL uI uI aq (aV bN (by rfl) T.du cC (aa (pv 0) ak aj)) (nG (by rfl) T.g_MOST_LANES)))
    (aB eE)
    bD)
   (aB (bT (dZ (yL uI uI aq (aV bN (by rfl) T.du cC (aa (pv 1) ak aj)) (nG (by rfl) T.g_MOST_PARTS)))
    (aB eE)
    bD))),?_⟩
  have hl:sizeLine=16777216:=sizeLine_eq
  refine⟨_,rfl,.ref a,xs.length,rfl,.inl ⟨_,h1,rfl⟩,_,_,rfl,rfl,_,rfl,uK (by omega) ⟨_,_,rfl,rfl,_,rfl,?_⟩⟩
  rw [show decide ((xs.length:Int)≤24)=true from decide_eq_true (by omega)]
  refine cQ ?_
  refine⟨_,rfl,.ref b,ys.length,rfl,.inl ⟨_,h2,rfl⟩,_,_,rfl,rfl,_,rfl,uK (by omega) ⟨_,_,rfl,rfl,_,rfl,?_⟩⟩
  rw [show decide ((ys.length:Int)≤16)=true from decide_eq_true (by omega)]
  exact cQ k
def sp_need_fresh (K:PySem.W.Frag):Sp:=fun vs H Q _=>∃(z:Str) (d:Addr) (kvs:List (Key×V)),vs=[.str z,.ref d]∧H d=some (.dK kvs)∧nameB z=true∧z.length≤100∧dY kvs (Sum.inr z)=none∧∀H',aW H H'→Q .non H'
theorem sc_need_fresh:FnScope ["name", "known"] ["name", "known"] (az iI):=⟨rfl,rfl,rfl,by decide +kernel,rfl,by decide +kernel,by decide +kernel⟩
theorem wY (T:Txt w K mg t):FnOk P w K mg base CX0 2 t.sJ t.qI ["name", "known"] (sp_need_fresh K):=by
 have sc:=sc_need_fresh
 refine T.tX.ok sc (fun vs H Q E h=>?_) (fun cdv A outer s H vs Q E hr h=>?_)
 ·obtain⟨z,d,kvs,rfl,_⟩:=h
  rfl
 ·obtain⟨z,d,kvs,rfl,hd,hz,hl,hv,k⟩:=h
  refine⟨_,(au (bT (dZ (dM (aJ (ok_is_name T) (hr.mono (by decide)) (by rfl) T.m_is_name T.F_is_name.kp T.b_is_name .nil aO (aa (pv 0) ak aj))))
    (aB eE)
    bD)
   (aB (bT (qR (xK hr.u1 (pv 0) (pv 1)))
    (aB eE)
    bD))),?_⟩
  refine⟨_,rfl,.str z,rfl,.inl ⟨z,rfl,hl,fun H1 s1=>?_⟩⟩
  rw [hz]
  refine⟨_,rfl,cQ ?_⟩
  refine⟨_,rfl,_,rfl,d,_,rfl,kh.k (k:=Sum.inr z) (s1 _ _ hd),?_⟩
  rw [hv]
  exact⟨_,rfl,cQ (k _ s1)⟩
def sp_need_lane (K:PySem.W.Frag):Sp:=fun vs H Q _=>∃(nm:V) (room:Int) (L:Addr) (ws:List Int),vs=[nm,.int room,.ref L]∧SqA K H L (ws.map V.int)∧ws.length≤1000∧(∀v∈ws,0≤v∧v <1000000000)∧1≤room∧(ws.length:Int)≤room∧room≤199∧∀H',aW H H'→Q .non H'
theorem sc_need_lane:FnScope ["name", "room", "first"] ["name", "room", "first"] (az iw):=⟨rfl,rfl,rfl,by decide +kernel,rfl,by decide +kernel,by decide +kernel⟩
theorem ok_need_lane (T:Txt w K mg t):FnOk P w K mg base CX0 3 t.uO t.sU ["name", "room", "first"] (sp_need_lane K):=by
 have sc:=sc_need_lane
 refine T.zQ.ok sc (fun vs H Q E h=>?_) (fun cdv A outer s H vs Q E hr h=>?_)
 ·obtain⟨nm,room,L,ws,rfl,_⟩:=h
  rfl
 ·obtain⟨nm,room,L,ws,rfl,hL,hw,hB,c1,c2,c3,k⟩:=h
  refine⟨_,(au (bT (PW.pt (mH (dZ (dM (aJ (zK T) (hr.mono (by decide)) (by rfl) T.BP T.xn.kp T.Bu .nil aO (aa (pv 1) ak aj)))) (mz (dZ (yL uI uI (aV (call_max2 rfl) (by rfl) T.n_max bt_max (aa aq (aa (aV bN (by rfl) T.du cC (aa (pv 2) ak aj)) ak aX) ao)) (pv 1) (nG (by rfl) T.g_MOST_ROOM))))))
    (aB eE)
    bD)
   (aB (bT (dZ (dM (aV (Br rfl) (by rfl) T.n_all bt_all (aa (iR [] ["name", "room", "first"] (az iw) rfl (pi_or (dg (pv 2)) (pi_tup (pv 2))) (fun _ _ _ _ _=>mD) (fun _ _ _ _ _=>(aJ (zL T) (hr.mono (by decide)) (by rfl) T.BR T.xG.kp T.Bc .nil aO (aa (pv 0) ak aj)))) ak gP))))
    (aB eE)
    bD))),?_⟩
  have hl:sizeLine=16777216:=sizeLine_eq
  have hlw:(ws.map V.int).length=ws.length:=lM ..
  refine⟨_,rfl,.int room, "int",true,rfl,rfl,by decide,by decide,true,rfl,cQ ?_⟩
  refine⟨_,rfl,.ref L,(ws.map V.int).length,rfl,hL.len,_,_,rfl,_,rfl,_,_,rfl,rfl,_,rfl,uK ?_ ⟨_,_,rfl,rfl,_,rfl,?_⟩⟩
  ·split <;> omega
  rw [show decide (room≤199)=true from decide_eq_true c3]
  refine cQ ?_
  refine comp_A (a:=L) (xs:=ws.map V.int) ?_ hL (fun j ys=>ys=(List.replicate j true).map V.bl) (by rw [lM];omega) rfl (fun j ys e=>by rw [e];simp) (fun j x ys hx e=>?_) (fun ys e D hD=>?_)
  ·exact fun R r=>⟨_,rfl,r⟩
  ·subst e
   rw [List.getElem?_map] at hx
   obtain⟨n,hn,rfl⟩:=Option.map_eq_some_iff.mp hx
   obtain⟨n0,n1⟩:=hB n (List.mem_of_getElem? hn)
   refine yes ⟨_,rfl,.int n,rfl,.inl ⟨n,rfl,rfl,?_⟩⟩
   rw [decide_eq_true n0,decide_eq_true n1,List.replicate_succ']
   simp
  ·subst e
   refine⟨D,_,rfl,SqL.of aA,_,rfl,?_⟩
   rw [show((List.replicate (ws.map V.int).length true).all id)=true by simp]
   exact cQ (k _ (aH hD))
def sp_fresh_part (K:PySem.W.Frag) (t:Adr):Sp:=fun vs H Q _=>∃(i:Nat) (nm:Str) (r d a1 a2 a3:Addr) (ns is os:List V) (kvs:List (Key×V)),vs=[.ref r,.ref d]∧H r=some (.tup [.str (fL i),.str nm,.ref a1,.ref a2,.ref a3])∧i≤10∧H d=some (.dK kvs)∧nameB nm=true∧nm.length≤100∧dY kvs (Sum.inr nm)=none∧SqA K H a1 ns∧SqA K H a2 is∧SqA K H a3 os∧ns.length=cN i∧is.length=cI i∧os.length=cO i∧(∀v∈ns,Val v)∧∀H' p,aW H H'→H p=none→PartAt K t H' p i (.str nm) ns is os→Q (.ref p) H'
theorem sc_fresh_part:FnScope ["row", "known"] ["row", "known"] (az iM):=⟨rfl,rfl,rfl,by decide +kernel,rfl,by decide +kernel,by decide +kernel⟩
theorem ok_fresh_part (T:Txt w K mg t):FnOk P w K mg base CX0 5 t.ur t.qP ["row", "known"] (sp_fresh_part K t):=by
 have sc:=sc_fresh_part
 refine T.yp.ok sc (fun vs H Q E h=>?_) (fun cdv A outer s H vs Q E hr h=>?_)
 ·obtain⟨i,nm,r,d,a1,a2,a3,ns,is,os,kvs,rfl,_⟩:=h
  rfl
 ·obtain⟨i,nm,r,d,a1,a2,a3,ns,is,os,kvs,rfl,hr1,hi,hd,hz,hl,hv,q1,q2,q3,l1,l2,l3,hV,k⟩:=h
  refine⟨_,(au (bT (dZ (dM (aJ (Bp T) (hr.mono (by decide)) (by rfl) T.m_is_kind T.za.kp T.b_is_kind .nil aO (aa (aQ bJ (pv 0) aq (fun _ _=>rfl)) ak aF))))
    (aB eE)
    bD)
   (au (bH (aJ (wY T) (hr.mono (by decide)) (by rfl) T.yD T.tX.kp T.yu .nil aO (aa (aQ bJ (pv 0) aq (fun _ _=>rfl)) (aa (pv 1) ak aj) aF)))
   (aB (aY (aJ (ok_part_made T) (hr.mono (by decide)) (by rfl) T.m_part_made T.zz.kp T.b_part_made .nil aO (aa (aQ bJ (pv 0) aq (fun _ _=>rfl)) (aa (aQ bJ (pv 0) aq (fun _ _=>rfl)) (aa (aQ bJ (pv 0) aq (fun _ _=>rfl)) (aa (aQ bJ (pv 0) aq (fun _ _=>rfl)) (aa (aQ bJ (pv 0) aq (fun _ _=>rfl)) ak aF) aF) aF) aF) aF)))))),?_⟩
  refine⟨_,rfl,r,_,0,_,rfl,rfl,SqT.of hr1,aK (j:=0) rfl,fL i,rfl,?_⟩
  rw [row_of]
  refine⟨_,rfl,cQ ?_⟩
  refine⟨_,rfl,r,_,1,_,rfl,rfl,SqT.of hr1,aK (j:=1) rfl,_,rfl,nm,d,kvs,rfl,hd,hz,hl,hv,fun H1 s1=>?_⟩
  have e1:=SqT.of (K:=K) (s1 _ _ hr1)
  exact⟨_,rfl,r,_,0,_,rfl,rfl,e1,aK (j:=0) rfl,_,rfl,r,_,1,_,rfl,rfl,e1,aK (j:=1) rfl,_,rfl,r,_,2,_,rfl,rfl,e1,aK (j:=2) rfl,_,rfl,r,_,3,_,rfl,rfl,e1,aK (j:=3) rfl,_,rfl,r,_,4,_,rfl,rfl,e1,aK (j:=4) rfl,i,.str nm,a1,a2,a3,ns,is,os,rfl,hi,s1.seqA q1,s1.seqA q2,s1.seqA q3,l1,l2,l3,hV,fun H2 p s2 np P=>k _ p (s1.trans s2) (s1.free np) P⟩
def sp_tie_lanes (K:PySem.W.Frag):Sp:=fun vs H Q _=>∃(y:Str) (a rd d:Addr) (zs:List Str) (rk kvs:List (Key×V)),vs=[.str y,.ref a,.ref rd,.ref d]∧SqT K H a (zs.map V.str)∧H rd=some (.dK rk)∧rd≠d∧H d=some (.dK kvs)∧zs.Nodup∧(∀z∈zs,(dY rk (Sum.inr z)).isSome=true∧dY kvs (Sum.inr z)=none)∧kvs.length+zs.length≤1000∧Q .non (upd H d (.dK (kvs ++ zs.map fun l=>((Sum.inr l:Key),V.str y))))
theorem sc_tie_lanes:FnScope ["part", "lanes", "rooms", "ends", "lane"] ["part", "lanes", "rooms", "ends"] (az lq):=⟨rfl,rfl,rfl,by decide +kernel,rfl,by decide +kernel,by decide +kernel⟩
theorem yC (T:Txt w K mg t):FnOk P w K mg base CX0 1 t.vG t.uh ["part", "lanes", "rooms", "ends"] (sp_tie_lanes K):=by
 have sc:=sc_tie_lanes
 refine T.vz.ok sc (fun vs H Q E h=>?_) (fun cdv A outer s H vs Q E hr h=>?_)
 ·obtain⟨y,a,rd,d,zs,rk,kvs,rfl,_⟩:=h
  rfl
 ·obtain⟨y,a,rd,d,zs,rk,kvs,rfl,hT,hrd,hne,hd,nd,hz,hlen,k⟩:=h
  refine⟨_,(aB (d9 PassesOwn.never rfl (pi_tup (pv 1)) (bU (i:=4) sc.nd rfl (Or.inl rfl))
    (au (bT (PW.pt (mH (qR (wO hr.u1 (pv 4) (pv 2))) (mz (qR (xK hr.u1 (pv 4) (pv 3))))))
     (aB eE)
     bD)
    (aB (kI hr.u1 (pv 3) (pv 4) (pv 0) rfl))))),?_⟩
  have hl:sizeLine=16777216:=sizeLine_eq
  refine⟨_,rfl,a,rfl,⟨_,hT⟩,for_tup (K:=K) (a:=a) (xs:=zs.map V.str) (fun j σ H'=>H'=upd H d (.dK (kvs ++ (zs.take j).map fun l=>((Sum.inr l:Key),V.str y)))∧∃v4,σ=[some (.str y),some (.ref a),some (.ref rd),some (.ref d),v4]) ⟨by rw [List.take_zero,List.map_nil,List.append_nil,upd_id hd],none,rfl⟩ (fun j σ H' _ ⟨e,_⟩=>by rw [e];exact fK hd hT) ?_ ?_⟩
  ·rintro j x σ H' hx ⟨rfl,v4,rfl⟩
   rw [List.getElem?_map] at hx
   obtain⟨z,hzj,rfl⟩:=Option.map_eq_some_iff.mp hx
   have hj:j <zs.length:=(List.getElem?_eq_some_iff.mp hzj).1
   obtain⟨r1,r2⟩:=hz z (List.mem_of_getElem? hzj)
   obtain⟨rv,hrv⟩:=Option.isSome_iff_exists.mp r1
   have erd:upd H d (.dK (kvs ++ (zs.take j).map fun l=>((Sum.inr l:Key),V.str y))) rd=some (.dK rk):=by rw [aM hne];exact hrd
   have nin:z∉zs.take j:=fun hm=>by
    obtain⟨i,hi,ei⟩:=List.mem_iff_getElem.mp hm
    rw [List.length_take] at hi
    rw [List.getElem_take] at ei
    have e2:zs[j]=z:=by rw [List.getElem?_eq_getElem hj] at hzj;exact Option.some.inj hzj
    have:=(List.getElem_inj nd).mp (ei.trans e2.symm)
    omega
   have none':dY (kvs ++ (zs.take j).map fun l=>((Sum.inr l:Key),V.str y)) (Sum.inr z)=none:=uZ (by
    rw [List.map_append,List.mem_append,not_or]
    refine⟨fun hm=>?_,fun hm=>?_⟩
    ·have:(dY kvs (Sum.inr z)).isSome=true:=by rw [←rP];obtain⟨p,hp,e⟩:=List.mem_map.mp hm;exact List.any_eq_true.mpr ⟨p,hp,decide_eq_true e⟩
     rw [r2] at this
     cases this
    ·rw [List.map_map] at hm
     obtain⟨b,hb,e⟩:=List.mem_map.mp hm
     cases e
     exact nin hb)
   refine⟨_,rfl,_,rfl,rd,some rv,rfl,(by rw [←hrv];exact kh.k (k:=Sum.inr z) erd),_,rfl,cQ ?_⟩
   refine⟨_,rfl,_,rfl,d,none,rfl,(by rw [←none'];exact kh.k (k:=Sum.inr z) aA),_,rfl,cQ ?_⟩
   refine⟨_,rfl,_,rfl,_,rfl,d,_,rfl,wV.k (k:=Sum.inr z) aA (by rw [lP,lM,List.length_take];omega),?_,_,rfl⟩
   rw [qj,yO _ none',List.append_assoc,List.take_succ,hzj,Option.toList_some,List.map_append]
   rfl
  ·rintro σ H' ⟨rfl,v4,rfl⟩
   rw [lM,List.take_length]
   exact k
def sp_need_ends (K:PySem.W.Frag):Sp:=fun vs H Q _=>∃(r g d:Addr) (rk gk tk:List (Key×V)),vs=[.ref r,.ref g,.ref d]∧H r=some (.dK rk)∧H g=some (.dK gk)∧H d=some (.dK tk)∧r≠g∧r≠d∧(∀q∈rk,(dY gk q.1).isSome=true∧(dY tk q.1).isSome=true)∧Q .non H
theorem sc_need_ends:FnScope ["rooms", "givers", "takers", "lane"] ["rooms", "givers", "takers"] (az lO):=⟨rfl,rfl,rfl,by decide +kernel,rfl,by decide +kernel,by decide +kernel⟩
theorem ok_need_ends (T:Txt w K mg t):FnOk P w K mg base CX0 1 t.vd t.uz ["rooms", "givers", "takers"] (sp_need_ends K):=by
 have sc:=sc_need_ends
 refine T.zE.ok sc (fun vs H Q E h=>?_) (fun cdv A outer s H vs Q E hr h=>?_)
 ·obtain⟨r,g,d,rk,gk,tk,rfl,_⟩:=h
  rfl
 ·obtain⟨r,g,d,rk,gk,tk,rfl,h1,h2,h3,n1,n2,hA,k⟩:=h
  refine⟨_,(aB (yj (H0:=H) rfl (d9 PassesOwn.never rfl (zX (pv 0)) (bU (i:=3) sc.nd rfl (Or.inl rfl))
    (aB (bT (PW.pt (mH (qR (wO hr.u1 (pv 3) (pv 1))) (mz (qR (wO hr.u1 (pv 3) (pv 2))))))
     (aB eE)
     bD))))),?_⟩
  refine⟨_,rfl,r,_,rfl,h1,fun o=>yM (fun j σ H'=>H'=upd H r (.frz o (.dK rk))∧∃v3,σ=[some (.ref r),some (.ref g),some (.ref d),v3]) ⟨rfl,none,rfl⟩ (fun j σ H' _ ⟨e,_⟩=>by rw [e];exact aA) ?_ ?_⟩
  ·rintro j kk w σ H' hj ⟨rfl,v3,rfl⟩
   obtain⟨a1,a2⟩:=hA _ (List.mem_of_getElem? hj)
   obtain⟨u1,b1⟩:=Option.isSome_iff_exists.mp a1
   obtain⟨u2,b2⟩:=Option.isSome_iff_exists.mp a2
   have e2:upd H r (.frz o (.dK rk)) g=some (.dK gk):=by rw [aM (Ne.symm n1)];exact h2
   have e3:upd H r (.frz o (.dK rk)) d=some (.dK tk):=by rw [aM (Ne.symm n2)];exact h3
   exact⟨_,rfl,_,rfl,g,some u1,rfl,(by rw [←b1];exact kh.k e2),_,rfl,cQ ⟨_,rfl,_,rfl,d,some u2,rfl,(by rw [←b2];exact kh.k e3),_,rfl,cQ ⟨rfl,_,rfl⟩⟩⟩
  ·rintro σ H' ⟨rfl,v3,rfl⟩
   refine⟨_,⟨r,o,_,aA,?_,rfl⟩,?_⟩
   ·intro o' u' z
    rw [show H r=_ from h1] at z
    cases z
   ·rw [qj,upd_id h1]
    exact k
def jkOf (H:Hp) (J:Addr):List (Key×V):=match H J with
 | some (.dK jk)=>jk
 | _=>[]
theorem zZ {H:Hp} {J:Addr} {jk:List (Key×V)} (h:H J=some (.dK jk)):jkOf H J=jk:=by
 unfold jkOf
 rw [h]
theorem endsK_at {f:PD→List Str} {ps:List PD} {j:Nat} {k:Key} {v:V} (h:(cJ f ps)[j]?=some (k,v)):∃p∈ps,∃l∈f p,k=Sum.inr l∧v=.str p.name:=by
 have:=List.mem_of_getElem? h
 unfold cJ at this
 obtain⟨p,hp,hm⟩:=List.mem_flatMap.mp this
 obtain⟨l,hl,e⟩:=List.mem_map.mp hm
 cases e
 exact⟨p,hp,l,hl,rfl,rfl⟩
def Even (ps:List PD) (jk:List (Key×V)) (j:Nat):Prop:=∀i k v,i <j→(cJ (·.outs) ps)[i]?=some (k,v)→∀a∈ps,∀b∈ps,∀l,k=Sum.inr l→l∈a.outs→l∈b.ins→gm jk a.name=gm jk b.name
theorem Even.all {ps:List PD} {jk:List (Key×V)} (h:Even ps jk (cJ (·.outs) ps).length):∀a∈ps,∀b∈ps,∀l,l∈a.outs→l∈b.ins→gm jk a.name=gm jk b.name:=fun a ha b hb l la lb=>by
 have hm:((Sum.inr l:Key),V.str a.name)∈cJ (·.outs) ps:=List.mem_flatMap.mpr ⟨a,ha,List.mem_map.mpr ⟨l,la,rfl⟩⟩
 obtain⟨i,hi,ei⟩:=List.mem_iff_getElem.mp hm
 exact h i _ _ hi (by rw [List.getElem?_eq_getElem hi,ei]) a ha b hb l rfl la lb
def sp_joined_with (K:PySem.W.Frag):Sp:=fun vs H Q _=>∃(p0:PD) (g d:Addr) (ps:List PD),vs=[.str p0.name,.ref g,.ref d]∧p0∈ps∧ps.length≤16∧H g=some (.dK (cJ (·.outs) ps))∧H d=some (.dK (cJ (·.ins) ps))∧g≠d∧(ps.flatMap (·.outs)).Nodup∧(ps.flatMap (·.ins)).Nodup∧(ps.flatMap (·.outs)).Perm (ps.flatMap (·.ins))∧(∃y,∀q∈ps,∃x∈q.ins ++ q.outs,Drawn.Conn ps x y)∧∀H' J jk,aW H H'→H' J=some (.dK jk)→(∀p∈ps,gm jk p.name=true)→Q (.ref J) H'
theorem sc_joined_with:FnScope ["part", "givers", "takers", "joined", "grown", "lane"] ["part", "givers", "takers"] (az gZ):=⟨rfl,rfl,rfl,by decide +kernel,rfl,by decide +kernel,by decide +kernel⟩
theorem ok_joined_with (T:Txt w K mg t):FnOk P w K mg base CX0 1 t.rA t.o8 ["part", "givers", "takers"] (sp_joined_with K):=by
 have sc:=sc_joined_with
 refine T.xg.ok sc (fun vs H Q E h=>?_) (fun cdv A outer s H vs Q E hr h=>?_)
 ·obtain⟨p0,g,d,ps,rfl,_⟩:=h
  rfl
 ·obtain⟨p0,g,d,ps,rfl,hp0,hps,h1,h2,n1,no,ni,pm,hang,k⟩:=h
  refine⟨_,(au (aZ (i:=3) sc.nd rfl (Or.inl rfl) (pe_disp (BZ (pv 0) fB pps_nil) rfl rfl (by simp) (by decide)))
   (au (aZ (i:=4) sc.nd rfl (Or.inl rfl) fB)
   (au (rR PassesOwn.never (dM (pv 4))
    (au (aZ (i:=4) sc.nd rfl (Or.inl rfl) fB)
    (aB (yj (H0:=H) rfl (d9 PassesOwn.never rfl (zX (pv 1)) (bU (i:=5) sc.nd rfl (Or.inl rfl))
     (aB (fj (bT (bf zM (pe_cmp (xK hr.u1 (dh hr.u1 (pv 1) (pv 5) (fun _ _=>rfl)) (pv 3))) (pe_cmp (xK hr.u1 (dh hr.u1 (pv 2) (pv 5) (fun _ _=>rfl)) (pv 3))) (bL _))
      (au (kI hr.u1 (pv 3) (dh hr.u1 (pv 1) (pv 5) (fun _ _=>rfl)) fB rfl)
      (au (kI hr.u1 (pv 3) (dh hr.u1 (pv 2) (pv 5) (fun _ _=>rfl)) fB rfl)
      (aB (aZ (i:=4) sc.nd rfl (Or.inl rfl) fB))))
      bD))))))))
   (aB (aY (pv 3)))))),?_⟩
  have hl:sizeLine=16777216:=sizeLine_eq
  refine fun J nJ=>⟨_,rfl,aA,[((Sum.inr p0.name:Key),V.bl true)],rfl,by show 1≤15;decide,?_⟩
  rw [qj]
  have s0:aW H (upd H J (.dK (my [] [((Sum.inr p0.name:Key),V.bl true)]))):=aH nJ
  have e0:(upd H J (.dK (my [] [((Sum.inr p0.name:Key),V.bl true)]))) J=some (.dK [((Sum.inr p0.name:Key),V.bl true)]):=aA
  generalize upd H J (.dK (my [] [((Sum.inr p0.name:Key),V.bl true)]))=H0 at s0 e0 ⊢
  have ngJ:J≠g:=Ne.symm (aD h1 nJ)
  have ndJ:J≠d:=Ne.symm (aD h2 nJ)
  have melt:∀{H':Hp} {o:Obj},But g H H'→H' g=some (.frz o (.dK (cJ (·.outs) ps)))→aW H (upd H' g (.dK (cJ (·.outs) ps))):=fun hb hg b u e=>by
   by_cases h:b=g
   ·subst h;rw [aA];rw [h1] at e;exact e
   ·rw [aM h];exact hb b u h e
  have m0:ph ps [((Sum.inr p0.name:Key),V.bl true)]≤16:=Nat.le_trans (List.length_filter_le _ _) hps
  refine rO (fun σ H'=>aW H H'∧∃b v5 jk,σ=[some (.str p0.name),some (.ref g),some (.ref d),some (.ref J),some (.bl b),v5]∧H' J=some (.dK jk)∧gm jk p0.name=true∧jk.length+2 * ph ps jk≤40∧(b=false→Even ps jk (cJ (·.outs) ps).length))
   (fun σ H'=>match σ with | [_,_,_,_,some (.bl b),_]=>(if b then 1 else 0)+2 * ph ps (jkOf H' J) | _=>0) ⟨s0,true,none,_,rfl,e0,by simp [gm,dY],by rw [List.length_singleton];omega,by intro z;cases z⟩ ?_ ?_
  ·rintro σ H1 ⟨s1,b,v5,jk,rfl,hJ,hp,hlen,hev⟩
   cases b with
   | false=>exact⟨_,rfl,_,rfl,cQ ⟨_,rfl,k _ J jk s1 hJ (all_in no ni pm hang (hev rfl).all hp0 hp)⟩⟩
   | true=>
    refine⟨_,rfl,_,rfl,tV ?_⟩
    refine⟨_,rfl,g,_,rfl,s1 _ _ h1,fun o=>?_⟩
    have gD:∀{H':Hp},But g H H'→H' d=some (.dK (cJ (·.ins) ps)):=fun hb=>hb d _ (Ne.symm n1) h2
    refine yM (fun j σ H'=>But g H H'∧H' g=some (.frz o (.dK (cJ (·.outs) ps)))∧∃b v5 jk',σ=[some (.str p0.name),some (.ref g),some (.ref d),some (.ref J),some (.bl b),v5]∧H' J=some (.dK jk')∧gm jk' p0.name=true∧jk'.length+2 * ph ps jk'≤40∧((b=false∧jk'=jk∧Even ps jk j)∨(b=true∧ph ps jk' <ph ps jk)))
     ⟨fun b u hn e=>by rw [aM hn];exact s1 b u e,aA,false,v5,jk,rfl,by rw [aM ngJ];exact hJ,hp,hlen,.inl ⟨rfl,rfl,fun i _ _ hi=>absurd hi (by omega)⟩⟩ (fun j σ H' _ h=>h.2.1) ?_ ?_
    ·rintro j kk w σ H' hj ⟨hb,hg,b,v5,jk',rfl,hJ',hp',hlen',hv⟩
     obtain⟨a,ha,l,la,rfl,rfl⟩:=endsK_at hj
     obtain⟨b',hb',lb⟩:=List.mem_flatMap.mp (pm.mem_iff.mp (List.mem_flatMap.mpr ⟨a,ha,la⟩))
     have ga:kh H' g (.str l) (some (.str a.name)):=.inl ⟨_,Sum.inr l,.inr ⟨o,hg⟩,rfl,(dU no ha la).symm⟩
     have gb:kh H' d (.str l) (some (.str b'.name)):=by rw [←dU ni hb' lb];exact kh.k (k:=Sum.inr l) (gD hb)
     have ja:kh H' J (.str a.name) (dY jk' (Sum.inr a.name)):=kh.k (k:=Sum.inr a.name) hJ'
     have jb:kh H' J (.str b'.name) (dY jk' (Sum.inr b'.name)):=kh.k (k:=Sum.inr b'.name) hJ'
     have nm:∀a2∈ps,∀b2∈ps,l∈a2.outs→l∈b2.ins→a2.name=a.name∧b2.name=b'.name:=fun a2 ha2 b2 hb2 q1 q2=>by
      have e1:=dU no ha2 q1
      rw [dU no ha la] at e1
      have e2:=dU ni hb2 q2
      rw [dU ni hb' lb] at e2
      simp only [Option.some.injEq,V.str.injEq] at e1 e2
      exact⟨e1.symm,e2.symm⟩
     refine⟨fun σ H''=>But g H H''∧H'' g=some (.frz o (.dK (cJ (·.outs) ps)))∧∃b jk'',σ=[some (.str p0.name),some (.ref g),some (.ref d),some (.ref J),some (.bl b),some (.str l)]∧H'' J=some (.dK jk'')∧gm jk'' p0.name=true∧jk''.length+2 * ph ps jk''≤40∧((b=false∧jk''=jk∧Even ps jk (j+1))∨(b=true∧ph ps jk'' <ph ps jk)),?_,?_⟩
     ·refine⟨_,rfl,_,rfl,g,_,rfl,ga,_,rfl,J,_,rfl,ja,?_⟩
      refine⟨_,rfl,_,rfl,d,_,rfl,gb,_,rfl,J,_,rfl,jb,rfl,_,rfl,?_⟩
      change if (!decide (V.bl (gm jk' a.name)=V.bl (gm jk' b'.name)))=true then _ else _
      refine oH (fun hne=>?_) (fun heq=>?_)
      ·have hne':gm jk' a.name≠gm jk' b'.name:=fun z=>by rw [z] at hne;simp at hne
       refine⟨_,rfl,_,rfl,_,rfl,g,_,rfl,ga,J,_,rfl,wV.k (k:=Sum.inr a.name) hJ' (by omega),?_⟩
       have b2:But g H (upd H' J (.dK (putK jk' (Sum.inr a.name) (.bl true)))):=fun x u hn e=>by rw [aM (aD e nJ)];exact hb x u hn e
       have g2:(upd H' J (.dK (putK jk' (Sum.inr a.name) (.bl true)))) g=some (.frz o (.dK (cJ (·.outs) ps))):=by rw [aM (Ne.symm ngJ)];exact hg
       have gb2:kh (upd H' J (.dK (putK jk' (Sum.inr a.name) (.bl true)))) d (.str l) (some (.str b'.name)):=by rw [←dU ni hb' lb];exact kh.k (k:=Sum.inr l) (gD b2)
       have len1:=m8 jk' (Sum.inr a.name:Key) (.bl true)
       have len2:=m8 (putK jk' (Sum.inr a.name) (.bl true)) (Sum.inr b'.name:Key) (.bl true)
       refine⟨_,rfl,_,rfl,_,rfl,d,_,rfl,gb2,J,_,rfl,wV.k (k:=Sum.inr b'.name) aA (by omega),?_⟩
       rw [qj]
       have has2:∀x,gm (putK (putK jk' (Sum.inr a.name) (.bl true)) (Sum.inr b'.name) (.bl true)) x=(decide (x=b'.name) || (decide (x=a.name) || gm jk' x)):=fun x=>by rw [hasN_put,hasN_put]
       have mono:∀x,gm jk' x=true→gm (putK (putK jk' (Sum.inr a.name) (.bl true)) (Sum.inr b'.name) (.bl true)) x=true:=fun x hx=>by rw [has2,hx];simp
       have lt:ph ps (putK (putK jk' (Sum.inr a.name) (.bl true)) (Sum.inr b'.name) (.bl true)) <ph ps jk':=by
        cases hA:gm jk' a.name
        ·exact missN_lt mono ha hA (by rw [has2];simp)
        ·cases hB:gm jk' b'.name
         ·exact missN_lt mono hb' hB (by rw [has2];simp)
         ·rw [hA,hB] at hne';exact absurd rfl hne'
       refine⟨fun x u hn e=>by rw [aM (aD e nJ)];exact hb x u hn e,by rw [aM (Ne.symm ngJ)];exact hg,true,_,rfl,aA,mono _ hp',by omega,.inr ⟨rfl,?_⟩⟩
       rcases hv with ⟨_,rfl,_⟩ | ⟨_,hv⟩
       ·exact lt
       ·omega
      ·have heq':gm jk' a.name=gm jk' b'.name:=by
        cases hA:gm jk' a.name <;> cases hB:gm jk' b'.name <;> rw [hA,hB] at heq <;> simp_all
       refine⟨hb,hg,b,jk',rfl,hJ',hp',hlen',?_⟩
       rcases hv with ⟨rfl,rfl,hE⟩ | hv
       ·refine .inl ⟨rfl,rfl,fun i k2 v2 hi e2 a2 ha2 b2 hb2 l2 ek q1 q2=>?_⟩
        rcases Nat.lt_or_ge i j with h | h
        ·exact hE i k2 v2 h e2 a2 ha2 b2 hb2 l2 ek q1 q2
        ·have:i=j:=by omega
         subst this
         rw [hj] at e2
         cases e2
         cases ek
         obtain⟨x1,x2⟩:=nm a2 ha2 b2 hb2 q1 q2
         rw [x1,x2]
         exact heq'
       ·exact .inr hv
     ·rintro σ H'' ⟨hb,hg,b,jk'',rfl,r⟩
      exact⟨hb,hg,b,_,jk'',rfl,r⟩
    ·rintro σ H' ⟨hb,hg,b,v5',jk',rfl,hJ',hp',hlen',hv⟩
     refine⟨_,⟨g,o,_,hg,(fun o' u' z=>by rw [show H g=_ from h1] at z;cases z),rfl⟩,?_⟩
     have eJ:(upd H' g (.dK (cJ (·.outs) ps))) J=some (.dK jk'):=by rw [aM ngJ];exact hJ'
     refine⟨⟨melt hb hg,b,v5',jk',rfl,eJ,hp',hlen',fun z=>?_⟩,?_⟩
     ·rcases hv with ⟨_,rfl,hE⟩ | ⟨h,_⟩
      ·exact hE
      ·rw [h] at z;cases z
     ·show(if b=true then 1 else 0)+2 * ph ps (jkOf _ J) <(if true=true then 1 else 0)+2 * ph ps (jkOf _ J)
      rw [zZ eJ,zZ hJ]
      rcases hv with ⟨rfl,rfl,_⟩ | ⟨rfl,h⟩
      ·simp
      ·simp;omega
  ·intro σ H' Q' Q'' hm hq
   obtain⟨v,e,b,e2,q⟩:=hq
   exact⟨v,e,b,e2,hm _ _ q⟩
def sp_need_joined (K:PySem.W.Frag):Sp:=fun vs H Q _=>∃(L g d:Addr) (ps:List PD),vs=[.ref L,.ref g,.ref d]∧SqL K H L (ps.map fun p=>V.str p.name)∧1≤ps.length∧ps.length≤16∧H g=some (.dK (cJ (·.outs) ps))∧H d=some (.dK (cJ (·.ins) ps))∧g≠d∧(ps.flatMap (·.outs)).Nodup∧(ps.flatMap (·.ins)).Nodup∧(ps.flatMap (·.outs)).Perm (ps.flatMap (·.ins))∧(∃y,∀q∈ps,∃x∈q.ins ++ q.outs,Drawn.Conn ps x y)∧∀H',aW H H'→Q .non H'
theorem sc_need_joined:FnScope ["names", "givers", "takers", "joined", "name"] ["names", "givers", "takers"] (az gH):=⟨rfl,rfl,rfl,by decide +kernel,rfl,by decide +kernel,by decide +kernel⟩
theorem ok_need_joined (T:Txt w K mg t):FnOk P w K mg base CX0 2 t.qY t.pN ["names", "givers", "takers"] (sp_need_joined K):=by
 have sc:=sc_need_joined
 refine T.xj.ok sc (fun vs H Q E h=>?_) (fun cdv A outer s H vs Q E hr h=>?_)
 ·obtain⟨L,g,d,ps,rfl,_⟩:=h
  rfl
 ·obtain⟨L,g,d,ps,rfl,hL,hp1,hps,h1,h2,n1,no,ni,pm,hang,k⟩:=h
  refine⟨_,(au (aZ (i:=3) sc.nd rfl (Or.inl rfl) (aJ (ok_joined_with T) (hr.mono (by decide)) (by rfl) T.m_joined_with T.xg.kp T.b_joined_with .nil aO (aa (aQ bA (pv 0) aq (fun _ _=>rfl)) (aa (pv 1) (aa (pv 2) ak aj) aj) aF)))
   (aB (d9 PassesOwn.never rfl (dg (pv 0)) (bU (i:=4) sc.nd rfl (Or.inl rfl))
    (aB (bT (qR (wO hr.u1 (pv 4) (pv 3)))
     (aB eE)
     bD))))),?_⟩
  obtain⟨p0,pr,rfl⟩:∃p0 pr,ps=p0:: pr:=by
   cases ps with
   | nil=>simp at hp1
   | cons a r=>exact⟨a,r,rfl⟩
  refine⟨_,rfl,L,_,0,_,rfl,rfl,hL,aK (j:=0) rfl,_,rfl,_,rfl,p0,g,d,_,rfl,List.mem_cons_self,hps,h1,h2,n1,no,ni,pm,hang,fun H1 J jk s1 eJ hA=>?_⟩
  refine⟨_,rfl,L,rfl,⟨_,s1.seq hL⟩,il (K:=K) (a:=L) (xs:=(p0:: pr).map fun p=>V.str p.name) (fun j σ H'=>H'=H1∧∃v4,σ=[some (.ref L),some (.ref g),some (.ref d),some (.ref J),v4]) ⟨rfl,none,rfl⟩ (fun j σ H' _ ⟨e,_⟩=>by rw [e];exact s1.seq hL) ?_ ?_⟩
  ·rintro j x σ H' hx ⟨rfl,v4,rfl⟩
   rw [List.getElem?_map] at hx
   obtain⟨p,hp,rfl⟩:=Option.map_eq_some_iff.mp hx
   obtain⟨u,hu⟩:=Option.isSome_iff_exists.mp (hA p (List.mem_of_getElem? hp))
   exact⟨_,rfl,_,rfl,J,some u,rfl,(by rw [←hu];exact kh.k (k:=Sum.inr p.name) eJ),_,rfl,cQ ⟨rfl,_,rfl⟩⟩
  ·rintro σ H' ⟨rfl,v4,rfl⟩
   exact k _ s1
def sp_Net_lane_names (K:PySem.W.Frag) (t:Adr):Sp:=fun vs H Q _=>∃(n:Addr) (ls:List LaneD) (ps:List PD),vs=[.ref n]∧vW K t H n ls ps∧∀l,H l=none→Q (.ref l) (upd H l (.lst (ls.map fun x=>V.str x.name)))
theorem sc_Net_lane_names:FnScope ["self"] ["self"] (az dW):=⟨rfl,rfl,rfl,by decide +kernel,rfl,by decide +kernel,by decide +kernel⟩
theorem qi (T:Txt w K mg t):FnOk P w K mg base CX0 1 t.mU t.lZ ["self"] (sp_Net_lane_names K t):=by
 have sc:=sc_Net_lane_names
 refine T.F_Net_lane_names.ok sc (fun vs H Q E h=>?_) (fun cdv A outer s H vs Q E hr h=>?_)
 ·obtain⟨n,ls,ps,rfl,_⟩:=h
  rfl
 ·obtain⟨n,ls,ps,rfl,N,k⟩:=h
  refine⟨_,(aB (aY (eY (pX rfl) (by rfl) T.zb wJ (aa (cZ (pv 0) rfl) ak bI)))),?_⟩
  obtain⟨dx,fs,R,F,Pd,G,Tk,FL,PL,W⟩:=id N
  refine⟨_,rfl,n,_,dx,fs,_,rfl,W.obj,T.cP,T.fu,W.fl.has ("rooms",.ref R) (by simp),R,_,rfl,.inl W.rooms,fun l hl=>?_⟩
  unfold d8
  rw [List.map_map]
  exact k l hl
def sp_Net_part_names (K:PySem.W.Frag) (t:Adr):Sp:=fun vs H Q _=>∃(n:Addr) (ls:List LaneD) (ps:List PD),vs=[.ref n]∧vW K t H n ls ps∧∀l,H l=none→Q (.ref l) (upd H l (.lst (ps.map fun x=>V.str x.name)))
theorem sc_Net_part_names:FnScope ["self"] ["self"] (az dR):=⟨rfl,rfl,rfl,by decide +kernel,rfl,by decide +kernel,by decide +kernel⟩
theorem mC (T:Txt w K mg t):FnOk P w K mg base CX0 1 t.mV t.lU ["self"] (sp_Net_part_names K t):=by
 have sc:=sc_Net_part_names
 refine T.F_Net_part_names.ok sc (fun vs H Q E h=>?_) (fun cdv A outer s H vs Q E hr h=>?_)
 ·obtain⟨n,ls,ps,rfl,_⟩:=h
  rfl
 ·obtain⟨n,ls,ps,rfl,N,k⟩:=h
  refine⟨_,(aB (aY (eY (pX rfl) (by rfl) T.zb wJ (aa (cZ (pv 0) rfl) ak bI)))),?_⟩
  obtain⟨dx,fs,R,F,Pd,G,Tk,FL,PL,W⟩:=id N
  refine⟨_,rfl,n,_,dx,fs,_,rfl,W.obj,T.cP,T.gn,W.fl.has ("parts",.ref Pd) (by simp),Pd,_,rfl,.inl W.parts,fun l hl=>?_⟩
  unfold dz
  rw [List.map_map]
  have e:ps.map (fun x=>V.str x.name)=PL.map (fun q=>V.str q.1.name):=by rw [←W.pls,List.map_map];rfl
  rw [e] at k
  exact k l hl
def sp_Net_need_lane_name (K:PySem.W.Frag) (t:Adr):Sp:=fun vs H Q _=>∃(n:Addr) (ls:List LaneD) (ps:List PD) (x:Str),vs=[.ref n,.str x]∧vW K t H n ls ps∧((x∈ls.map (·.name)∧∀H',aW H H'→Q .non H')∨False)
theorem sc_Net_need_lane_name:FnScope ["self", "name"] ["self", "name"] (az cT):=⟨rfl,rfl,rfl,by decide +kernel,rfl,by decide +kernel,by decide +kernel⟩
theorem eQ (T:Txt w K mg t):FnOk P w K mg base CX0 2 t.iC t.g8 ["self", "name"] (sp_Net_need_lane_name K t):=by
 have sc:=sc_Net_need_lane_name
 refine T.F_Net_need_lane_name.ok sc (fun vs H Q E h=>?_) (fun cdv A outer s H vs Q E hr h=>?_)
 ·obtain⟨n,ls,ps,x,rfl,_⟩:=h
  rfl
 ·obtain⟨n,ls,ps,x,rfl,N,h⟩:=h
  refine⟨_,(aB (bT (bf yN (pv 1) (rG (pv 0) T.cP T.qb (qi T) (hr.mono (by decide)) T.rQ .nil aO) (by with_unfolding_all rfl))
    (aB eE)
    bD)),?_⟩
  obtain⟨dx,fs,R,F,Pd,G,Tk,FL,PL,W⟩:=id N
  refine⟨_,rfl,_,rfl,n,dx,fs,rfl,W.obj,W.fl.no _ (by decide +kernel),n,ls,ps,rfl,N,fun l hl=>?_⟩
  have s1:=aH (o:=.lst (ls.map fun x=>V.str x.name)) hl
  refine⟨l,_,rfl,.inl (SqL.of aA),rfl,by simp [uF],_,rfl,?_⟩
  rw [in_names (f:=fun x:LaneD=>x.name)]
  rcases h with ⟨hx,k⟩ | h
  ·rw [decide_eq_true hx]
   exact cQ (k _ s1)
  ·exact h.elim
def sp_Net_room_of (K:PySem.W.Frag) (t:Adr):Sp:=fun vs H Q _=>∃(n:Addr) (ls:List LaneD) (ps:List PD) (x:Str),vs=[.ref n,.str x]∧vW K t H n ls ps∧((∃l∈ls,l.name=x∧∀H',aW H H'→Q (.int l.room) H')∨False)
theorem sc_Net_room_of:FnScope ["self", "name"] ["self", "name"] (az gO):=⟨rfl,rfl,rfl,by decide +kernel,rfl,by decide +kernel,by decide +kernel⟩
theorem ok_Net_room_of (T:Txt w K mg t):FnOk P w K mg base CX0 3 t.rD t.pM ["self", "name"] (sp_Net_room_of K t):=by
 have sc:=sc_Net_room_of
 refine T.F_Net_room_of.ok sc (fun vs H Q E h=>?_) (fun cdv A outer s H vs Q E hr h=>?_)
 ·obtain⟨n,ls,ps,x,rfl,_⟩:=h
  rfl
 ·obtain⟨n,ls,ps,x,rfl,N,h⟩:=h
  refine⟨_,(au (bH (qt (pv 0) T.cP T.eU (eQ T) (hr.mono (by decide)) T.fG .nil aO (aa (pv 1) ak aj)))
   (aB (aY (dh hr.u1 (cZ (pv 0) rfl) (pv 1) (fun _ _=>rfl))))),?_⟩
  obtain⟨dx,fs,R,F,Pd,G,Tk,FL,PL,W⟩:=id N
  refine⟨_,rfl,n,dx,fs,rfl,W.obj,W.fl.no _ (by decide +kernel),_,rfl,n,ls,ps,x,rfl,N,?_⟩
  rcases h with ⟨l,hl,rfl,k⟩ | h
  ·refine .inl ⟨List.mem_map.mpr ⟨l,hl,rfl⟩,fun H1 s1=>?_⟩
   have W1:=W.same s1
   have hv:=W1.room hl
   refine⟨_,rfl,n,_,dx,fs,_,rfl,W1.obj,T.cP,T.fu,W1.fl.has ("rooms",.ref R) (by simp),_,rfl,R,_,rfl,(by rw [←hv];exact kh.k (k:=Sum.inr l.name) W1.rooms),?_⟩
   exact k _ s1
  ·exact .inr h
def sp_Net_first_of (K:PySem.W.Frag) (t:Adr):Sp:=fun vs H Q _=>∃(n:Addr) (ls:List LaneD) (ps:List PD) (x:Str),vs=[.ref n,.str x]∧vW K t H n ls ps∧((∃l∈ls,l.name=x∧∀H' p,aW H H'→H p=none→H' p=some (.lst (l.first.map V.int))→Q (.ref p) H')∨False)
theorem sc_Net_first_of:FnScope ["self", "name"] ["self", "name"] (az fZ):=⟨rfl,rfl,rfl,by decide +kernel,rfl,by decide +kernel,by decide +kernel⟩
theorem ok_Net_first_of (T:Txt w K mg t):FnOk P w K mg base CX0 3 t.pZ t.ou ["self", "name"] (sp_Net_first_of K t):=by
 have sc:=sc_Net_first_of
 refine T.F_Net_first_of.ok sc (fun vs H Q E h=>?_) (fun cdv A outer s H vs Q E hr h=>?_)
 ·obtain⟨n,ls,ps,x,rfl,_⟩:=h
  rfl
 ·obtain⟨n,ls,ps,x,rfl,N,h⟩:=h
  refine⟨_,(au (bH (qt (pv 0) T.cP T.eU (eQ T) (hr.mono (by decide)) T.fG .nil aO (aa (pv 1) ak aj)))
   (aB (aY (eY yI (by rfl) T.zb wJ (aa (dh hr.u1 (cZ (pv 0) rfl) (pv 1) (fun _ _=>rfl)) ak aF))))),?_⟩
  obtain⟨dx,fs,R,F,Pd,G,Tk,FL,PL,W⟩:=id N
  refine⟨_,rfl,n,dx,fs,rfl,W.obj,W.fl.no _ (by decide +kernel),_,rfl,n,ls,ps,x,rfl,N,?_⟩
  rcases h with ⟨l,hl,rfl,k⟩ | h
  ·refine .inl ⟨List.mem_map.mpr ⟨l,hl,rfl⟩,fun H1 s1=>?_⟩
   have W1:=W.same s1
   obtain⟨q,hq,eq⟩:∃q∈FL,q.1=l:=by
    rw [←W.fls] at hl
    obtain⟨q,hq,e⟩:=List.mem_map.mp hl
    exact⟨q,hq,e⟩
   subst eq
   have hv:=W1.firstV hq
   refine⟨_,rfl,n,_,dx,fs,_,rfl,W1.obj,T.cP,T.qL,W1.fl.has ("firsts",.ref F) (by simp),_,rfl,F,_,rfl,(by rw [←hv];exact kh.k (k:=Sum.inr q.1.name) W1.firsts),?_⟩
   exact⟨q.2,_,rfl,.inr (W1.tups q hq),fun p hp=>k _ p (s1.trans (aH hp)) (s1.free hp) aA⟩
  ·exact .inr h
def sp_Net_giver_of (K:PySem.W.Frag) (t:Adr):Sp:=fun vs H Q _=>∃(n:Addr) (ls:List LaneD) (ps:List PD) (x:Str),vs=[.ref n,.str x]∧vW K t H n ls ps∧((∃l∈ls,l.name=x∧∀p∈ps,l.name∈p.outs→∀H',aW H H'→Q (.str p.name) H')∨False)
theorem sc_Net_giver_of:FnScope ["self", "name"] ["self", "name"] (az fX):=⟨rfl,rfl,rfl,by decide +kernel,rfl,by decide +kernel,by decide +kernel⟩
theorem ok_Net_giver_of (T:Txt w K mg t):FnOk P w K mg base CX0 3 t.pU t.n6 ["self", "name"] (sp_Net_giver_of K t):=by
 have sc:=sc_Net_giver_of
 refine T.F_Net_giver_of.ok sc (fun vs H Q E h=>?_) (fun cdv A outer s H vs Q E hr h=>?_)
 ·obtain⟨n,ls,ps,x,rfl,_⟩:=h
  rfl
 ·obtain⟨n,ls,ps,x,rfl,N,h⟩:=h
  refine⟨_,(au (bH (qt (pv 0) T.cP T.eU (eQ T) (hr.mono (by decide)) T.fG .nil aO (aa (pv 1) ak aj)))
   (aB (aY (dh hr.u1 (cZ (pv 0) rfl) (pv 1) (fun _ _=>rfl))))),?_⟩
  obtain⟨dx,fs,R,F,Pd,G,Tk,FL,PL,W⟩:=id N
  refine⟨_,rfl,n,dx,fs,rfl,W.obj,W.fl.no _ (by decide +kernel),_,rfl,n,ls,ps,x,rfl,N,?_⟩
  rcases h with ⟨l,hl,rfl,k⟩ | h
  ·refine .inl ⟨List.mem_map.mpr ⟨l,hl,rfl⟩,fun H1 s1=>?_⟩
   have W1:=W.same s1
   obtain⟨p,hp,hlp⟩:∃p∈ps,l.name∈p.outs:=List.mem_flatMap.mp (W.fit.whole.outs.mem_iff.mpr (List.mem_map.mpr ⟨l,hl,rfl⟩))
   have hv:=dU (f:=(·.outs)) W.ono hp hlp
   refine⟨_,rfl,n,_,dx,fs,_,rfl,W1.obj,T.cP,T.km,W1.fl.has ("givers",.ref G) (by simp),_,rfl,G,_,rfl,(by rw [←hv];exact kh.k (k:=Sum.inr l.name) W1.givers),?_⟩
   exact k p hp hlp _ s1
  ·exact .inr h
def sp_Net_taker_of (K:PySem.W.Frag) (t:Adr):Sp:=fun vs H Q _=>∃(n:Addr) (ls:List LaneD) (ps:List PD) (x:Str),vs=[.ref n,.str x]∧vW K t H n ls ps∧((∃l∈ls,l.name=x∧∀p∈ps,l.name∈p.ins→∀H',aW H H'→Q (.str p.name) H')∨False)
theorem sc_Net_taker_of:FnScope ["self", "name"] ["self", "name"] (az fY):=⟨rfl,rfl,rfl,by decide +kernel,rfl,by decide +kernel,by decide +kernel⟩
theorem ok_Net_taker_of (T:Txt w K mg t):FnOk P w K mg base CX0 3 t.pC t.nZ ["self", "name"] (sp_Net_taker_of K t):=by
 have sc:=sc_Net_taker_of
 refine T.F_Net_taker_of.ok sc (fun vs H Q E h=>?_) (fun cdv A outer s H vs Q E hr h=>?_)
 ·obtain⟨n,ls,ps,x,rfl,_⟩:=h
  rfl
 ·obtain⟨n,ls,ps,x,rfl,N,h⟩:=h
  refine⟨_,(au (bH (qt (pv 0) T.cP T.eU (eQ T) (hr.mono (by decide)) T.fG .nil aO (aa (pv 1) ak aj)))
   (aB (aY (dh hr.u1 (cZ (pv 0) rfl) (pv 1) (fun _ _=>rfl))))),?_⟩
  obtain⟨dx,fs,R,F,Pd,G,Tk,FL,PL,W⟩:=id N
  refine⟨_,rfl,n,dx,fs,rfl,W.obj,W.fl.no _ (by decide +kernel),_,rfl,n,ls,ps,x,rfl,N,?_⟩
  rcases h with ⟨l,hl,rfl,k⟩ | h
  ·refine .inl ⟨List.mem_map.mpr ⟨l,hl,rfl⟩,fun H1 s1=>?_⟩
   have W1:=W.same s1
   obtain⟨p,hp,hlp⟩:∃p∈ps,l.name∈p.ins:=List.mem_flatMap.mp (W.fit.whole.ins.mem_iff.mpr (List.mem_map.mpr ⟨l,hl,rfl⟩))
   have hv:=dU (f:=(·.ins)) W.ini hp hlp
   refine⟨_,rfl,n,_,dx,fs,_,rfl,W1.obj,T.cP,T.kj,W1.fl.has ("takers",.ref Tk) (by simp),_,rfl,Tk,_,rfl,(by rw [←hv];exact kh.k (k:=Sum.inr l.name) W1.takers),?_⟩
   exact k p hp hlp _ s1
  ·exact .inr h
theorem kind_ok (T:Txt w K mg t) (i:Nat):MethAt P w K mg base CX0 1 (cls t i) "kind" (iQ i):=match i with
 | 0=>⟨_,_,_,T.c_Give,T.me_Give_kind,T.b_Give_kind,ok_Give_kind T⟩
 | 1=>⟨_,_,_,T.c_Take,T.me_Take_kind,T.b_Take_kind,ok_Take_kind T⟩
 | 2=>⟨_,_,_,T.c_Pass,T.me_Pass_kind,T.b_Pass_kind,ok_Pass_kind T⟩
 | 3=>⟨_,_,_,T.c_Copy,T.me_Copy_kind,T.b_Copy_kind,ok_Copy_kind T⟩
 | 4=>⟨_,_,_,T.c_Turn,T.me_Turn_kind,T.b_Turn_kind,ok_Turn_kind T⟩
 | 5=>⟨_,_,_,T.c_Heap,T.me_Heap_kind,T.b_Heap_kind,ok_Heap_kind T⟩
 | 6=>⟨_,_,_,T.c_Add,T.me_Add_kind,T.b_Add_kind,ok_Add_kind T⟩
 | 7=>⟨_,_,_,T.c_Less,T.me_Less_kind,T.b_Less_kind,ok_Less_kind T⟩
 | 8=>⟨_,_,_,T.c_Order,T.me_Order_kind,T.b_Order_kind,ok_Order_kind T⟩
 | 9=>⟨_,_,_,T.c_Choose,T.me_Choose_kind,T.b_Choose_kind,ok_Choose_kind T⟩
 | n+10=>⟨_,_,_,T.c_Split,T.me_Split_kind,T.b_Split_kind,ok_Split_kind T⟩
def sp_Net_odd (K:PySem.W.Frag) (t:Adr):Sp:=fun vs H Q _=>∃(n:Addr) (ls:List LaneD) (ps:List PD),vs=[.ref n]∧vW K t H n ls ps∧∀H',aW H H'→Q (oddN ps) H'
theorem sc_Net_odd:FnScope ["self", "name"] ["self"] (az o7):=⟨rfl,rfl,rfl,by decide +kernel,rfl,by decide +kernel,by decide +kernel⟩
theorem ok_Net_odd (T:Txt w K mg t):FnOk P w K mg base CX0 2 t.zr t.xu ["self"] (sp_Net_odd K t):=by
 have sc:=sc_Net_odd
 refine T.F_Net_odd.ok sc (fun vs H Q E h=>?_) (fun cdv A outer s H vs Q E hr h=>?_)
 ·obtain⟨n,ls,ps,rfl,_⟩:=h
  rfl
 ·obtain⟨n,ls,ps,rfl,N,k⟩:=h
  refine⟨_,(au (yj (H0:=H) rfl (d9 PassesOwn.never rfl (zX (cZ (pv 0) rfl)) (bU (i:=1) sc.nd rfl (Or.inl rfl))
    (aB (bT (bf zu (pe_methD0 (CX:=CX0) (k:=1) (E:=E0) (dh hr.u1 (cZ (pv 0) rfl) (pv 1) (fun _ _=>rfl)) (hr.mono (by decide)) aO) (ie (aa bM (aa bM ak ao) ao)) (by with_unfolding_all rfl))
     (aB (ps_melt (H0:=H) rfl (aY (pv 1))))
     bD))))
   (aB (aY pe_non))),?_⟩
  obtain⟨dx,fs,R,F,Pd,G,Tk,FL,PL,W⟩:=id N
  have hz:sizeLine=16777216:=sizeLine_eq
  have h5:=W.parts
  have melt:∀{H':Hp} {o:Obj},But Pd H H'→H' Pd=some (.frz o (.dK (dz PL)))→aW H (upd H' Pd (.dK (dz PL))):=fun hb hg b u e=>by
   by_cases h:b=Pd
   ·subst h;rw [aA];rw [h5] at e;exact e
   ·rw [aM h];exact hb b u h e
  refine⟨_,rfl,n,_,dx,fs,_,rfl,W.obj,T.cP,T.gn,W.fl.has ("parts",.ref Pd) (by simp),Pd,_,rfl,h5,fun o=>?_⟩
  refine yM (fun j σ H'=>But Pd H H'∧H' Pd=some (.frz o (.dK (dz PL)))∧(∃v1,σ=[some (.ref n),v1])∧((PL.take j).map (·.1)).find? oddB=none) ⟨fun b u hn e=>by rw [aM hn];exact e,aA,⟨none,rfl⟩,rfl⟩ (fun j σ H' _ h=>h.2.1) ?_ ?_
  ·rintro j kk w σ H' hj ⟨hb,hg,⟨v1,rfl⟩,hf⟩
   unfold dz at hj
   rw [List.getElem?_map] at hj
   obtain⟨q,hq,e⟩:=Option.map_eq_some_iff.mp hj
   cases e
   have hm:=List.mem_of_getElem? hq
   have nPd:n≠Pd:=gC W.obj h5 (by intro z;cases z)
   obtain⟨dxp,tn,ti,to,p1,p2,p3,p4⟩:=id (W.pats q hm).ex
   have nq:q.2≠Pd:=gC p1 h5 (by intro z;cases z)
   refine⟨_,rfl,n,_,dx,fs,_,rfl,hb _ _ nPd W.obj,T.cP,T.gn,W.fl.has ("parts",.ref Pd) (by simp),_,rfl,Pd,_,rfl,(by rw [←W.partV hm];exact .inl ⟨_,Sum.inr q.1.name,.inr ⟨o,hg⟩,rfl,rfl⟩),?_⟩
   refine⟨q.2,cls t q.1.kind,dxp,_,iQ q.1.kind,rfl,hb _ _ nq p1,flds_no _ _ _ _ (by decide +kernel) (by decide +kernel) (by decide +kernel) (by decide +kernel),kind_ok T q.1.kind,_,rfl,by show 2≤sizeLine;exact szl,fun u nu=>?_⟩
   have nuP:Pd≠u:=aD hg nu
   have b2:But Pd H (upd H' u (.tup [.str "choose",.str "split"])):=fun b x hn e=>aH nu _ _ (hb b x hn e)
   have g2:upd H' u (.tup [.str "choose",.str "split"]) Pd=some (.frz o (.dK (dz PL))):=aH nu _ _ hg
   refine⟨u,_,rfl,.inr (SqT.of aA),rfl,by simp [uF],_,rfl,?_⟩
   rw [oddB_in]
   refine oH (fun e=>?_) (fun e=>?_)
   ·have e:oddB q.1=true:=by simpa using e
    refine⟨_,⟨Pd,o,_,g2,(fun o' u' z=>by rw [show H Pd=_ from h5] at z;cases z),rfl⟩,_,rfl,?_⟩
    have:oddN ps=.str q.1.name:=by
     unfold oddN
     have e2:ps=((PL.take j).map (·.1)) ++ q.1:: ((PL.drop (j+1)).map (·.1)):=by
      have hj':=(List.getElem?_eq_some_iff.mp hq).1
      have e3:PL[j]=q:=by rw [List.getElem?_eq_getElem hj'] at hq;exact Option.some.inj hq
      rw [←W.pls,←List.map_cons,←List.map_append,←e3,←List.drop_eq_getElem_cons hj',List.take_append_drop]
     rw [e2,List.find?_append,hf,List.find?_cons,e]
     rfl
    have kk:=k _ (melt b2 g2)
    rw [this] at kk
    exact kk
   ·have e:oddB q.1=false:=by simpa using e
    refine⟨b2,g2,⟨_,rfl⟩,?_⟩
    rw [List.take_succ,hq,Option.toList_some,List.map_append,List.find?_append,hf]
    simp [e]
  ·rintro σ H' ⟨hb,hg,⟨v1,rfl⟩,hf⟩
   refine⟨_,⟨Pd,o,_,hg,(fun o' u' z=>by rw [show H Pd=_ from h5] at z;cases z),rfl⟩,?_⟩
   have:oddN ps=.non:=by
    unfold oddN
    rw [show(dz PL).length=PL.length by unfold dz;rw [lM],List.take_length,W.pls] at hf
    rw [hf]
   have kk:=k _ (melt hb hg)
   rw [this] at kk
   exact kk
def sp_Net___init__ (K:PySem.W.Frag) (t:Adr):Sp:=fun vs H Q _=>∃(n dx Ll Lp:Addr) (ls:List LaneD) (ps:List PD),vs=[.ref n,.ref Ll,.ref Lp]∧H n=some (.ins t.bK dx [])∧Hand K H Ll Lp ls ps∧Fit ls ps∧∀H',But n H H'→vW K t H' n ls ps→Q .non H'
theorem sc_Net___init__:FnScope ["self", "lanes", "parts", "lane", "row", "part"] ["self", "lanes", "parts"] (az fW):=⟨rfl,rfl,rfl,by decide +kernel,rfl,by decide +kernel,by decide +kernel⟩
theorem ok_Net___init__ (T:Txt w K mg t):FnOk P w K mg base CX0 6 t.pO t.oE ["self", "lanes", "parts"] (sp_Net___init__ K t):=by
 have sc:=sc_Net___init__
 refine T.F_Net___init__.ok sc (fun vs H Q E h=>?_) (fun cdv A outer s H vs Q E hr h=>?_)
 ·obtain⟨n,dx,Ll,Lp,ls,ps,rfl,_⟩:=h
  rfl
 ·obtain⟨n,dx,Ll,Lp,ls,ps,rfl,hn,hH,hF,k⟩:=h
  refine⟨_,(au (bH (aJ (ok_need_counts T) (hr.mono (by decide)) (by rfl) T.m_need_counts T.xm.kp T.b_need_counts .nil aO (aa (pv 1) (aa (pv 2) ak aj) aj)))
   (au (uc (pv 0) nM rfl)
   (au (uc (pv 0) nM rfl)
   (au (d9 PassesOwn.never rfl (dg (pv 1)) (bU (i:=3) sc.nd rfl (Or.inl rfl))
    (au (bH (aJ (wY T) (hr.mono (by decide)) (by rfl) T.yD T.tX.kp T.yu .nil aO (aa (aQ bJ (pv 3) aq (fun _ _=>rfl)) (aa (cZ (pv 0) rfl) ak bI) aF)))
    (au (bH (aJ (ok_need_lane T) (hr.mono (by decide)) (by rfl) T.m_need_lane T.zQ.kp T.b_need_lane .nil aO (aa (aQ bJ (pv 3) aq (fun _ _=>rfl)) (aa (aQ bJ (pv 3) aq (fun _ _=>rfl)) (aa (aQ bJ (pv 3) aq (fun _ _=>rfl)) ak aF) aF) aF)))
    (au (kI hr.u1 (cZ (pv 0) rfl) (aQ bJ (pv 3) aq (fun _ _=>rfl)) (aQ bJ (pv 3) aq (fun _ _=>rfl)) rfl)
    (aB (kI hr.u1 (cZ (pv 0) rfl) (aQ bJ (pv 3) aq (fun _ _=>rfl)) (eY wD (by rfl) T.wN rM (aa (aQ bJ (pv 3) aq (fun _ _=>rfl)) ak aF)) rfl))))))
   (au (uc (pv 0) nM rfl)
   (au (uc (pv 0) nM rfl)
   (au (uc (pv 0) nM rfl)
   (au (d9 PassesOwn.never rfl (dg (pv 2)) (bU (i:=4) sc.nd rfl (Or.inl rfl))
    (au (aZ (i:=5) sc.nd rfl (Or.inl rfl) (aJ (ok_fresh_part T) (hr.mono (by decide)) (by rfl) T.m_fresh_part T.yp.kp T.b_fresh_part .nil aO (aa (pv 4) (aa (cZ (pv 0) rfl) ak bI) aj)))
    (au (bH (aJ (yC T) (hr.mono (by decide)) (by rfl) T.zx T.vz.kp T.zN .nil aO (aa (cZ (pv 5) rfl) (aa (cZ (pv 5) rfl) (aa (cZ (pv 0) rfl) (aa (cZ (pv 0) rfl) ak bI) bI) bI) bI)))
    (au (bH (aJ (yC T) (hr.mono (by decide)) (by rfl) T.zx T.vz.kp T.zN .nil aO (aa (cZ (pv 5) rfl) (aa (cZ (pv 5) rfl) (aa (cZ (pv 0) rfl) (aa (cZ (pv 0) rfl) ak bI) bI) bI) bI)))
    (aB (kI hr.u1 (cZ (pv 0) rfl) (cZ (pv 5) rfl) (pv 5) rfl))))))
   (au (bH (aJ (ok_need_ends T) (hr.mono (by decide)) (by rfl) T.m_need_ends T.zE.kp T.b_need_ends .nil aO (aa (cZ (pv 0) rfl) (aa (cZ (pv 0) rfl) (aa (cZ (pv 0) rfl) ak bI) bI) bI)))
   (aB (bH (aJ (ok_need_joined T) (hr.mono (by decide)) (by rfl) T.m_need_joined T.xj.kp T.b_need_joined .nil aO (aa (eY (pX rfl) (by rfl) T.zb wJ (aa (cZ (pv 0) rfl) ak bI)) (aa (cZ (pv 0) rfl) (aa (cZ (pv 0) rfl) ak bI) bI) aX))))))))))))),?_⟩
  have hl:sizeLine=16777216:=sizeLine_eq
  obtain⟨xs,hLl,aL⟩:=hH.ll
  obtain⟨ys,hLp,aP⟩:=hH.lp
  have lx:=aL.length
  have ly:=aP.length
  have l1:=hF.l1
  have l24:=hF.l24
  have p1:=hF.p1
  have p16:=hF.p16
  refine⟨_,rfl,_,rfl,Ll,Lp,_,_,rfl,hLl,hLp,by omega,by omega,by omega,by omega,?_⟩
  have T0:=Tr.start hn
  refine fun R nR=>?_
  have T1:=T0.new (o:=.dK []) nR
  have gR:=aH (o:=.dK []) nR
  generalize upd H R (.dK [])=H1 at T1 gR ⊢
  have cR:=T1.all (n,.ins t.bK dx []) (.head _)
  refine⟨_,rfl,n,_,dx,_,rfl,cR,T.cP,T.fu,Nat.lt_of_le_of_lt (show 0≤0 from Nat.le_refl 0) (by decide),?_⟩
  have T2:=T1.put (L1:=[]) (o':=.ins t.bK dx (bh "rooms" (.ref R) []))
  have wR:But n H1 (upd H1 n (.ins t.bK dx (bh "rooms" (.ref R) []))):=But.write
  generalize upd H1 n (.ins t.bK dx (bh "rooms" (.ref R) []))=H2 at T2 wR ⊢
  refine fun F nF=>?_
  have T3:=T2.new (o:=.dK []) nF
  have gF:=aH (o:=.dK []) nF
  generalize upd H2 F (.dK [])=H3 at T3 gF ⊢
  have cF:=T3.all (n,.ins t.bK dx (bh "rooms" (.ref R) [])) (.head _)
  refine⟨_,rfl,n,_,dx,_,rfl,cF,T.cP,T.qL,Nat.lt_of_le_of_lt (wQ (Nat.zero_le 0)) (by decide),?_⟩
  have T4:=T3.put (L1:=[]) (o':=.ins t.bK dx (bh "firsts" (.ref F) (bh "rooms" (.ref R) [])))
  have wF:But n H3 (upd H3 n (.ins t.bK dx (bh "firsts" (.ref F) (bh "rooms" (.ref R) [])))):=But.write
  generalize upd H3 n (.ins t.bK dx (bh "firsts" (.ref F) (bh "rooms" (.ref R) [])))=H4 at T4 wF ⊢
  have kb:∀{Hk:Hp} {q:Addr} {u:HO},But n H Hk→H q=some u→(∀C d f,u≠.ins C d f)→Hk q=some u:=fun b h hu=>b _ _ (gC h hn (by intro z;exact hu _ _ _ z)) h
  refine⟨_,rfl,Ll,rfl,⟨_,T4.but.seqL hn hLl⟩,il (K:=K) (a:=Ll) (xs:=xs) (fun j σ H'=>(∃x3,σ=[some (.ref n),some (.ref Ll),some (.ref Lp),x3,none,none])∧∃FL:List (LaneD×Addr),FL.map (·.1)=ls.take j∧Tr H n [(n,.ins t.bK dx (bh "firsts" (.ref F) (bh "rooms" (.ref R) []))),(R,.dK (d8 (ls.take j))),(F,.dK (gq FL))] H'∧∀q∈FL,SqT K H' q.2 (q.1.first.map V.int)) ⟨⟨none,rfl⟩,[],rfl,T4,by simp⟩ (fun j σ H' _ ⟨_,_,_,T',_⟩=>T'.but.seqL hn hLl) ?_ ?_⟩
  ·rintro j x σ H' hx ⟨⟨x3,rfl⟩,FL,eFL,T4,hS⟩
   obtain⟨l,hlj,q,f,rfl,hq,hf⟩:=aL.get hx
   have hm:=List.mem_of_getElem? hlj
   obtain⟨v1,v2,v3,v4⟩:=hF.lok l hm
   have hnm:=hF.lnm l hm
   have hj:=(List.getElem?_eq_some_iff.mp hlj).1
   have kq:∀{Hk:Hp},But n H Hk→Hk q=some (.tup [.str l.name,.int l.room,.ref f]):=fun b=>kb b hq (by intro _ _ _ z;cases z)
   have nin:=yH hF.whole.nod hlj
   have vR:dY (d8 (ls.take j)) (Sum.inr l.name)=none:=uZ (by rw [vY];intro z;obtain⟨b,hb,e⟩:=List.mem_map.mp z;cases e;exact nin hb)
   have vF:dY (gq FL) (Sum.inr l.name)=none:=uZ (by rw [yG,eFL];intro z;obtain⟨b,hb,e⟩:=List.mem_map.mp z;cases e;exact nin hb)
   have tk:ls.take (j+1)=ls.take j ++ [l]:=by rw [List.take_succ,hlj];rfl
   have e4:=T4.all (n,.ins t.bK dx (bh "firsts" (.ref F) (bh "rooms" (.ref R) []))) (.head _)
   refine hideG fun De hD u hu=>?_
   refine⟨_,rfl,q,_,0,_,rfl,rfl,SqT.of (kq T4.but),aK (j:=0) rfl,_,rfl,n,_,dx,_,_,rfl,e4,T.cP,T.fu,(by (repeat first | (rw [aN,if_pos rfl];done) | rw [aN,if_neg (by decide +kernel)])),l.name,R,_,rfl,T4.all (R,.dK (d8 (ls.take j))) (by simp),hnm,nameB_len hnm,vR,fun H5 s5=>?_⟩
   have T5:=T4.same s5
   refine bx (v:=u) hu fun u hu=>?_
   refine⟨_,rfl,q,_,0,_,rfl,rfl,SqT.of (kq T5.but),aK (j:=0) rfl,_,rfl,q,_,1,_,rfl,rfl,SqT.of (kq T5.but),aK (j:=1) rfl,_,rfl,q,_,2,_,rfl,rfl,SqT.of (kq T5.but),aK (j:=2) rfl,.str l.name,l.room,f,l.first,rfl,T5.but.seqA hn hf,by omega,v4,v1,v3,v2,fun H6 s6=>?_⟩
   have T6:=T5.same s6
   have e6:=T6.all (n,.ins t.bK dx (bh "firsts" (.ref F) (bh "rooms" (.ref R) []))) (.head _)
   have eR6:=T6.all (R,.dK (d8 (ls.take j))) (by simp)
   refine bx (v:=u) hu fun u hu=>?_
   refine⟨_,rfl,q,_,1,_,rfl,rfl,SqT.of (kq T6.but),aK (j:=1) rfl,_,rfl,n,_,dx,_,_,rfl,e6,T.cP,T.fu,(by (repeat first | (rw [aN,if_pos rfl];done) | rw [aN,if_neg (by decide +kernel)])),_,rfl,q,_,0,_,rfl,rfl,SqT.of (kq T6.but),aK (j:=0) rfl,R,_,rfl,wV.k (k:=Sum.inr l.name) eR6 (by unfold d8;rw [lM,List.length_take];omega),?_⟩
   have e7:putK (d8 (ls.take j)) (Sum.inr l.name) (.int l.room)=d8 (ls.take (j+1)):=by rw [yO _ vR,tk];unfold d8;rw [List.map_append];rfl
   have T7:=T6.put (L1:=[_]) (o':=.dK (d8 (ls.take (j+1))))
   rw [e7]
   have hS7:∀q∈FL,SqT K (upd H6 R (.dK (d8 (ls.take (j+1))))) q.2 (q.1.first.map V.int):=fun q hq=>fK eR6 (s6.seqT (s5.seqT (hS q hq)))
   generalize upd H6 R (.dK (d8 (ls.take (j+1))))=H7 at T7 hS7 ⊢
   subst hu
   refine⟨_,rfl,q,_,2,_,rfl,rfl,SqT.of (kq T7.but),aK (j:=2) rfl,f,_,rfl,T7.but.seqA hn hf,fun H8 F0 s8 t8=>?_⟩
   have T8:=T7.same s8
   have e8:=T8.all (n,.ins t.bK dx (bh "firsts" (.ref F) (bh "rooms" (.ref R) []))) (.head _)
   have eF8:=T8.all (F,.dK (gq FL)) (by simp)
   have lFL:FL.length≤24:=by have:=congrArg List.length eFL;rw [lM,List.length_take] at this;omega
   refine⟨_,rfl,n,_,dx,_,_,rfl,e8,T.cP,T.qL,(by (repeat first | (rw [aN,if_pos rfl];done) | rw [aN,if_neg (by decide +kernel)])),_,rfl,q,_,0,_,rfl,rfl,SqT.of (kq T8.but),aK (j:=0) rfl,F,_,rfl,wV.k (k:=Sum.inr l.name) eF8 (by unfold gq;rw [lM];omega),?_⟩
   have e9:putK (gq FL) (Sum.inr l.name) (.ref F0)=gq (FL ++ [(l,F0)]):=by rw [yO _ vF];unfold gq;rw [List.map_append];rfl
   have T9:=T8.put (L1:=[_,_]) (o':=.dK (gq (FL ++ [(l,F0)])))
   rw [e9]
   subst hD
   refine⟨⟨_,rfl⟩,FL ++ [(l,F0)],by rw [List.map_append,eFL,tk];rfl,T9,fun q hq=>?_⟩
   rcases List.mem_append.mp hq with h | h
   ·exact fK eF8 (s8.seqT (hS7 q h))
   ·rw [List.mem_singleton] at h
    subst h
    exact fK eF8 t8
  rintro σ H9 ⟨⟨x3,rfl⟩,FL,eFL,T9,t9⟩
  rw [lx,List.take_length] at eFL T9
  clear T0 T1 T2 T3 T4
  refine fun Pd nPd=>?_
  have T10:=T9.new (o:=.dK []) nPd
  have gPd:=aH (o:=.dK []) nPd
  generalize upd H9 Pd (.dK [])=H10 at T10 gPd ⊢
  have cPd:=T10.all (n,.ins t.bK dx (bh "firsts" (.ref F) (bh "rooms" (.ref R) []))) (.head _)
  refine⟨_,rfl,n,_,dx,_,rfl,cPd,T.cP,T.gn,Nat.lt_of_le_of_lt (wQ (wQ (Nat.zero_le 0))) (by decide),?_⟩
  have T11:=T10.put (L1:=[]) (o':=.ins t.bK dx (bh "parts" (.ref Pd) (bh "firsts" (.ref F) (bh "rooms" (.ref R) []))))
  have wPd:But n H10 (upd H10 n (.ins t.bK dx (bh "parts" (.ref Pd) (bh "firsts" (.ref F) (bh "rooms" (.ref R) []))))):=But.write
  generalize upd H10 n (.ins t.bK dx (bh "parts" (.ref Pd) (bh "firsts" (.ref F) (bh "rooms" (.ref R) []))))=H11 at T11 wPd ⊢
  refine fun Gv nGv=>?_
  have T12:=T11.new (o:=.dK []) nGv
  have gGv:=aH (o:=.dK []) nGv
  generalize upd H11 Gv (.dK [])=H12 at T12 gGv ⊢
  have cGv:=T12.all (n,.ins t.bK dx (bh "parts" (.ref Pd) (bh "firsts" (.ref F) (bh "rooms" (.ref R) [])))) (.head _)
  refine⟨_,rfl,n,_,dx,_,rfl,cGv,T.cP,T.km,Nat.lt_of_le_of_lt (wQ (wQ (wQ (Nat.zero_le 0)))) (by decide),?_⟩
  have T13:=T12.put (L1:=[]) (o':=.ins t.bK dx (bh "givers" (.ref Gv) (bh "parts" (.ref Pd) (bh "firsts" (.ref F) (bh "rooms" (.ref R) [])))))
  have wGv:But n H12 (upd H12 n (.ins t.bK dx (bh "givers" (.ref Gv) (bh "parts" (.ref Pd) (bh "firsts" (.ref F) (bh "rooms" (.ref R) [])))))):=But.write
  generalize upd H12 n (.ins t.bK dx (bh "givers" (.ref Gv) (bh "parts" (.ref Pd) (bh "firsts" (.ref F) (bh "rooms" (.ref R) [])))))=H13 at T13 wGv ⊢
  refine fun Tk nTk=>?_
  have T14:=T13.new (o:=.dK []) nTk
  have gTk:=aH (o:=.dK []) nTk
  generalize upd H13 Tk (.dK [])=H14 at T14 gTk ⊢
  have cTk:=T14.all (n,.ins t.bK dx (bh "givers" (.ref Gv) (bh "parts" (.ref Pd) (bh "firsts" (.ref F) (bh "rooms" (.ref R) []))))) (.head _)
  refine⟨_,rfl,n,_,dx,_,rfl,cTk,T.cP,T.kj,Nat.lt_of_le_of_lt (wQ (wQ (wQ (wQ (Nat.zero_le 0))))) (by decide),?_⟩
  have T15:=T14.put (L1:=[]) (o':=.ins t.bK dx (bh "takers" (.ref Tk) (bh "givers" (.ref Gv) (bh "parts" (.ref Pd) (bh "firsts" (.ref F) (bh "rooms" (.ref R) []))))))
  have wTk:But n H14 (upd H14 n (.ins t.bK dx (bh "takers" (.ref Tk) (bh "givers" (.ref Gv) (bh "parts" (.ref Pd) (bh "firsts" (.ref F) (bh "rooms" (.ref R) []))))))):=But.write
  generalize upd H14 n (.ins t.bK dx (bh "takers" (.ref Tk) (bh "givers" (.ref Gv) (bh "parts" (.ref Pd) (bh "firsts" (.ref F) (bh "rooms" (.ref R) []))))))=H15 at T15 wTk ⊢
  have T15:Tr H n [(n,.ins t.bK dx (bh "takers" (.ref Tk) (bh "givers" (.ref Gv) (bh "parts" (.ref Pd) (bh "firsts" (.ref F) (bh "rooms" (.ref R) [])))))),(R,.dK (d8 ls)),(F,.dK (gq FL)),(Pd,.dK []),(Gv,.dK []),(Tk,.dK [])] H15:=T15
  have t15:∀q∈FL,SqT K H15 q.2 (q.1.first.map V.int):=fun q hq=>wTk.seqT cTk (gTk.seqT (wGv.seqT cGv (gGv.seqT (wPd.seqT cPd (gPd.seqT (t9 q hq))))))
  have nod:=T15.nod
  simp only [List.map_append,List.map_cons,List.map_nil,List.nil_append,List.cons_append,List.nodup_cons,List.mem_cons,List.not_mem_nil,or_false,not_or] at nod
  have nRF:R≠F:=nod.2.1.1
  have nRT:R≠Tk:=nod.2.1.2.2.2
  have nRG:R≠Gv:=nod.2.1.2.2.1
  have nGT:Gv≠Tk:=nod.2.2.2.2.1
  clear nod
  have ono:(ps.flatMap (·.outs)).Nodup:=hF.whole.outs.nodup_iff.mpr hF.whole.nod
  have ini:(ps.flatMap (·.ins)).Nodup:=hF.whole.ins.nodup_iff.mpr hF.whole.nod
  have inR:∀z∈ls.map (·.name),(dY (d8 ls) (Sum.inr z)).isSome=true:=fun z hz=>by
   obtain⟨l,hl,rfl⟩:=List.mem_map.mp hz
   have e:dY (d8 ls) (Sum.inr l.name)=some (.int l.room):=wk (by rw [vY];exact rJ hF.whole.nod) (List.mem_map.mpr ⟨l,hl,rfl⟩)
   rw [e]
   rfl
  have lenE:∀(f:PD→List Str) (j:Nat),(ps.flatMap f).Perm (ls.map (·.name))→(cJ f (ps.take j)).length≤24:=fun f j pm=>by
   rw [endsK_len]
   have e1:((ps.take j).flatMap f).length+((ps.drop j).flatMap f).length=(ps.flatMap f).length:=by rw [←lP,←List.flatMap_append,List.take_append_drop]
   have e2:=pm.length_eq
   rw [lM] at e2
   omega
  refine⟨_,rfl,Lp,rfl,⟨_,T15.but.seqL hn hLp⟩,il (K:=K) (a:=Lp) (xs:=ys) (fun j σ H'=>(∃x3 x4 x5,σ=[some (.ref n),some (.ref Ll),some (.ref Lp),x3,x4,x5])∧∃PL:List (PD×Addr),PL.map (·.1)=ps.take j∧Tr H n [(n,.ins t.bK dx (bh "takers" (.ref Tk) (bh "givers" (.ref Gv) (bh "parts" (.ref Pd) (bh "firsts" (.ref F) (bh "rooms" (.ref R) [])))))),(R,.dK (d8 ls)),(F,.dK (gq FL)),(Pd,.dK (dz PL)),(Gv,.dK (cJ (·.outs) (ps.take j))),(Tk,.dK (cJ (·.ins) (ps.take j)))] H'∧(∀q∈FL,SqT K H' q.2 (q.1.first.map V.int))∧∀q∈PL,PartAt K t H' q.2 q.1.kind (.str q.1.name) (q.1.nums.map V.int) (q.1.ins.map V.str) (q.1.outs.map V.str)) ⟨⟨x3,none,none,rfl⟩,[],rfl,T15,t15,by simp⟩ (fun j σ H' _ ⟨_,_,_,T',_⟩=>T'.but.seqL hn hLp) ?_ ?_⟩
  ·rintro j x σ H' hx ⟨⟨x3,x4,x5,rfl⟩,PL,ePL,T15,hS,hP⟩
   obtain⟨p,hpj,r,a1,a2,a3,rfl,hr,q1,q2,q3⟩:=aP.get hx
   have hm:=List.mem_of_getElem? hpj
   have hj:=(List.getElem?_eq_some_iff.mp hpj).1
   obtain⟨o1,o2,o3,o4,o5⟩:=hF.pok p hm
   have hnm:=hF.pnm p hm
   have nin:=yH hF.pnd hpj
   have tk:ps.take (j+1)=ps.take j ++ [p]:=by rw [List.take_succ,hpj];rfl
   have vP:dY (dz PL) (Sum.inr p.name)=none:=uZ (by rw [zJ,ePL];intro z;obtain⟨b,hb,e⟩:=List.mem_map.mp z;cases e;exact nin hb)
   obtain⟨di,fi⟩:=flat_at ini hpj
   obtain⟨do',fo⟩:=flat_at ono hpj
   have e15:=T15.all (n,.ins t.bK dx (bh "takers" (.ref Tk) (bh "givers" (.ref Gv) (bh "parts" (.ref Pd) (bh "firsts" (.ref F) (bh "rooms" (.ref R) [])))))) (.head _)
   refine hideG fun De hD u hu=>?_
   refine⟨_,rfl,_,rfl,n,_,dx,_,_,rfl,e15,T.cP,T.gn,(by (repeat first | (rw [aN,if_pos rfl];done) | rw [aN,if_neg (by decide +kernel)])),p.kind,p.name,r,Pd,a1,a2,a3,_,_,_,_,rfl,kb T15.but hr (by intro _ _ _ z;cases z),by omega,T15.all (Pd,.dK (dz PL)) (by simp),hnm,nameB_len hnm,vP,T15.but.seqA hn q1,T15.but.seqA hn q2,T15.but.seqA hn q3,by rw [lM];exact o2,by rw [lM];exact o3,by rw [lM];exact o4,?_,fun H16 pp s16 npp Pp=>?_⟩
   ·intro v hv
    obtain⟨i,hi,rfl⟩:=List.mem_map.mp hv
    exact⟨i,rfl,(o5 i hi).1,(o5 i hi).2⟩
   have T16:=T15.same s16
   obtain⟨dxp,tn,ti,to,z1,z2,z3,z4⟩:=id Pp.ex
   have e16:=T16.all (n,.ins t.bK dx (bh "takers" (.ref Tk) (bh "givers" (.ref Gv) (bh "parts" (.ref Pd) (bh "firsts" (.ref F) (bh "rooms" (.ref R) [])))))) (.head _)
   have eTk:=T16.all (Tk,.dK (cJ (·.ins) (ps.take j))) (by simp)
   have li:=lenE (·.ins) j hF.whole.ins
   have lo:=lenE (·.outs) j hF.whole.outs
   have h3I:p.ins.length≤3:=by rw [o3];exact cI_le _
   have h3O:p.outs.length≤2:=by rw [o4];exact cO_le _
   refine bx (v:=u) hu fun u hu=>?_
   refine⟨_,rfl,pp,_,dxp,_,_,rfl,z1,uf T p.kind,z9 T p.kind,yV _ _ _ _,_,rfl,pp,_,dxp,_,_,rfl,z1,uf T p.kind,na_ins T p.kind,flds_ins _ _ _ _,_,rfl,n,_,dx,_,_,rfl,e16,T.cP,T.fu,(by (repeat first | (rw [aN,if_pos rfl];done) | rw [aN,if_neg (by decide +kernel)])),_,rfl,n,_,dx,_,_,rfl,e16,T.cP,T.kj,(by (repeat first | (rw [aN,if_pos rfl];done) | rw [aN,if_neg (by decide +kernel)])),p.name,ti,R,Tk,p.ins,_,_,rfl,z3,T16.all (R,.dK (d8 ls)) (by simp),nRT,eTk,di,fun z hz=>⟨inR z (hF.whole.ins.mem_iff.mp (List.mem_flatMap.mpr ⟨p,hm,hz⟩)),Bg (fi z hz)⟩,by omega,?_⟩
   rw [←Az (·.ins) (ps.take j) p,←tk]
   have T17:=T16.put (L1:=[_,_,_,_,_]) (o':=.dK (cJ (·.ins) (ps.take (j+1))))
   have Pp17:=Pp.chill (v:=.dK (cJ (·.ins) (ps.take (j+1)))) eTk
   have hS17:∀q∈FL,SqT K (upd H16 Tk (.dK (cJ (·.ins) (ps.take (j+1))))) q.2 (q.1.first.map V.int):=fun q hq=>fK eTk (s16.seqT (hS q hq))
   have hP17:∀q∈PL,PartAt K t (upd H16 Tk (.dK (cJ (·.ins) (ps.take (j+1))))) q.2 q.1.kind (.str q.1.name) (q.1.nums.map V.int) (q.1.ins.map V.str) (q.1.outs.map V.str):=fun q hq=>((hP q hq).same s16).chill eTk
   generalize upd H16 Tk (.dK (cJ (·.ins) (ps.take (j+1))))=H17 at T17 Pp17 hS17 hP17 ⊢
   clear z1 z2 z3 z4 e16
   obtain⟨dxp,tn,ti,to,z1,z2,z3,z4⟩:=id Pp17.ex
   have e17:=T17.all (n,.ins t.bK dx (bh "takers" (.ref Tk) (bh "givers" (.ref Gv) (bh "parts" (.ref Pd) (bh "firsts" (.ref F) (bh "rooms" (.ref R) [])))))) (.head _)
   have eGv:=T17.all (Gv,.dK (cJ (·.outs) (ps.take j))) (by simp)
   refine bx (v:=u) hu fun u hu=>?_
   refine⟨_,rfl,pp,_,dxp,_,_,rfl,z1,uf T p.kind,z9 T p.kind,yV _ _ _ _,_,rfl,pp,_,dxp,_,_,rfl,z1,uf T p.kind,na_outs T p.kind,flds_outs _ _ _ _,_,rfl,n,_,dx,_,_,rfl,e17,T.cP,T.fu,(by (repeat first | (rw [aN,if_pos rfl];done) | rw [aN,if_neg (by decide +kernel)])),_,rfl,n,_,dx,_,_,rfl,e17,T.cP,T.km,(by (repeat first | (rw [aN,if_pos rfl];done) | rw [aN,if_neg (by decide +kernel)])),p.name,to,R,Gv,p.outs,_,_,rfl,z4,T17.all (R,.dK (d8 ls)) (by simp),nRG,eGv,do',fun z hz=>⟨inR z (hF.whole.outs.mem_iff.mp (List.mem_flatMap.mpr ⟨p,hm,hz⟩)),Bg (fo z hz)⟩,by omega,?_⟩
   rw [←Az (·.outs) (ps.take j) p,←tk]
   have T18:=T17.put (L1:=[_,_,_,_]) (o':=.dK (cJ (·.outs) (ps.take (j+1))))
   have Pp18:=Pp17.chill (v:=.dK (cJ (·.outs) (ps.take (j+1)))) eGv
   have hS18:∀q∈FL,SqT K (upd H17 Gv (.dK (cJ (·.outs) (ps.take (j+1))))) q.2 (q.1.first.map V.int):=fun q hq=>fK eGv (hS17 q hq)
   have hP18:∀q∈PL,PartAt K t (upd H17 Gv (.dK (cJ (·.outs) (ps.take (j+1))))) q.2 q.1.kind (.str q.1.name) (q.1.nums.map V.int) (q.1.ins.map V.str) (q.1.outs.map V.str):=fun q hq=>(hP17 q hq).chill eGv
   generalize upd H17 Gv (.dK (cJ (·.outs) (ps.take (j+1))))=H18 at T18 Pp18 hS18 hP18 ⊢
   clear z1 z2 z3 z4 e17
   obtain⟨dxp,tn,ti,to,z1,z2,z3,z4⟩:=id Pp18.ex
   have e18:=T18.all (n,.ins t.bK dx (bh "takers" (.ref Tk) (bh "givers" (.ref Gv) (bh "parts" (.ref Pd) (bh "firsts" (.ref F) (bh "rooms" (.ref R) [])))))) (.head _)
   have ePd:=T18.all (Pd,.dK (dz PL)) (by simp)
   have lPL:PL.length≤16:=by have:=congrArg List.length ePL;rw [lM,List.length_take] at this;omega
   subst hu
   refine⟨_,rfl,_,rfl,n,_,dx,_,_,rfl,e18,T.cP,T.gn,(by (repeat first | (rw [aN,if_pos rfl];done) | rw [aN,if_neg (by decide +kernel)])),_,rfl,pp,_,dxp,_,_,rfl,z1,uf T p.kind,z9 T p.kind,yV _ _ _ _,Pd,_,rfl,wV.k (k:=Sum.inr p.name) ePd (by unfold dz;rw [lM];omega),?_⟩
   have e19:putK (dz PL) (Sum.inr p.name) (.ref pp)=dz (PL ++ [(p,pp)]):=by rw [yO _ vP];unfold dz;rw [List.map_append];rfl
   have T19:=T18.put (L1:=[_,_,_]) (o':=.dK (dz (PL ++ [(p,pp)])))
   rw [e19]
   subst hD
   refine⟨⟨_,_,_,rfl⟩,PL ++ [(p,pp)],by rw [List.map_append,ePL,tk];rfl,T19,fun q hq=>fK ePd (hS18 q hq),fun q hq=>?_⟩
   rcases List.mem_append.mp hq with h | h
   ·exact(hP18 q h).chill ePd
   ·rw [List.mem_singleton] at h
    subst h
    exact Pp18.chill ePd
  rintro σ H18 ⟨⟨x3,x4,x5,rfl⟩,PL,ePL,T18,hS,hP⟩
  rw [ly,List.take_length] at ePL T18
  have e18:=T18.all (n,.ins t.bK dx (bh "takers" (.ref Tk) (bh "givers" (.ref Gv) (bh "parts" (.ref Pd) (bh "firsts" (.ref F) (bh "rooms" (.ref R) [])))))) (.head _)
  have eR:=T18.all (R,.dK (d8 ls)) (by simp)
  have eF:=T18.all (F,.dK (gq FL)) (by simp)
  have ePd:=T18.all (Pd,.dK (dz PL)) (by simp)
  have eGv:=T18.all (Gv,.dK (cJ (·.outs) ps)) (by simp)
  have eTk:=T18.all (Tk,.dK (cJ (·.ins) ps)) (by simp)
  refine⟨_,rfl,n,_,dx,_,_,rfl,e18,T.cP,T.fu,(by (repeat first | (rw [aN,if_pos rfl];done) | rw [aN,if_neg (by decide +kernel)])),_,rfl,n,_,dx,_,_,rfl,e18,T.cP,T.km,(by (repeat first | (rw [aN,if_pos rfl];done) | rw [aN,if_neg (by decide +kernel)])),_,rfl,n,_,dx,_,_,rfl,e18,T.cP,T.kj,(by (repeat first | (rw [aN,if_pos rfl];done) | rw [aN,if_neg (by decide +kernel)])),R,Gv,Tk,_,_,_,rfl,eR,eGv,eTk,nRG,nRT,?_,?_⟩
  ·intro q hq
   obtain⟨l,hl,rfl⟩:=List.mem_map.mp hq
   have hln:l.name∈ls.map (·.name):=List.mem_map.mpr ⟨l,hl,rfl⟩
   obtain⟨pa,ha,la⟩:=List.mem_flatMap.mp (hF.whole.outs.mem_iff.mpr hln)
   obtain⟨pb,hb,lb⟩:=List.mem_flatMap.mp (hF.whole.ins.mem_iff.mpr hln)
   exact⟨by rw [dU ono ha la];rfl,by rw [dU ini hb lb];rfl⟩
  refine⟨_,rfl,n,_,dx,_,_,rfl,e18,T.cP,T.gn,(by (repeat first | (rw [aN,if_pos rfl];done) | rw [aN,if_neg (by decide +kernel)])),Pd,_,rfl,.inl ePd,fun l nl=>?_⟩
  have s19:=aH (o:=.lst ((dz PL).map fun p=>kV p.1)) nl
  have eL:(dz PL).map (fun p=>kV p.1)=ps.map fun p=>V.str p.name:=by unfold dz;rw [List.map_map,←ePL,List.map_map];rfl
  refine⟨_,rfl,n,_,dx,_,_,rfl,(s19 _ _ e18),T.cP,T.km,(by (repeat first | (rw [aN,if_pos rfl];done) | rw [aN,if_neg (by decide +kernel)])),_,rfl,n,_,dx,_,_,rfl,(s19 _ _ e18),T.cP,T.kj,(by (repeat first | (rw [aN,if_pos rfl];done) | rw [aN,if_neg (by decide +kernel)])),l,Gv,Tk,ps,rfl,SqL.of (by rw [←eL];exact aA),by omega,by omega,s19 _ _ eGv,s19 _ _ eTk,nGT,ono,ini,hF.whole.outs.trans hF.whole.ins.symm,hF.whole.hang,fun H20 s20=>?_⟩
  have s:=s19.trans s20
  refine k _ (fun b u hb e=>s _ _ (T18.but b u hb e)) ⟨dx,_,R,F,Pd,Gv,Tk,FL,PL,s _ _ e18,⟨?_,?_⟩,s _ _ eR,s _ _ eF,s _ _ ePd,s _ _ eGv,s _ _ eTk,eFL,ePL,fun q hq=>s.seqT (hS q hq),fun q hq=>(hP q hq).same s,hF,nRF⟩
  ·intro q hq
   simp only [List.mem_cons,List.not_mem_nil,or_false] at hq
   rcases hq with rfl | rfl | rfl | rfl | rfl <;> (dsimp only;(repeat first | (rw [aN,if_pos rfl];done) | rw [aN,if_neg (by decide +kernel)]))
  ·intro m hm
   have hne:∀m∈(["lane_names", "part_names", "odd", "need_lane_name", "room_of", "first_of", "giver_of", "taker_of", "__init__"]:List Str),∀g∈(["takers", "givers", "parts", "firsts", "rooms"]:List Str),¬m=g:=by decide +kernel
   have h:=hne m hm
   rw [aN,if_neg (h _ (by simp)),aN,if_neg (h _ (by simp)),aN,if_neg (h _ (by simp)),aN,if_neg (h _ (by simp)),aN,if_neg (h _ (by simp))]
   rfl
def sp_arcs_of_lane (K:PySem.W.Frag) (t:Adr):Sp:=fun vs H Q _=>∃(n:Addr) (ls:List LaneD) (ps:List PD) (l:LaneD),vs=[.ref n,.str l.name]∧vW K t H n ls ps∧l∈ls∧∀H' L ra,aW H H'→H L=none→ArcsR H' L ra→ra.map (·.1)=vh ps l→Q (.ref L) H'
theorem sc_arcs_of_lane:FnScope ["net", "lane", "giver", "taker", "many"] ["net", "lane"] (az fQ):=⟨rfl,rfl,rfl,by decide +kernel,rfl,by decide +kernel,by decide +kernel⟩
theorem ok_arcs_of_lane (T:Txt w K mg t):FnOk P w K mg base CX0 4 t.p8 t.oh ["net", "lane"] (sp_arcs_of_lane K t):=by
 have sc:=sc_arcs_of_lane
 refine T.vg.ok sc (fun vs H Q E h=>?_) (fun cdv A outer s H vs Q E hr h=>?_)
 ·obtain⟨n,ls,ps,l,rfl,_⟩:=h
  rfl
 ·obtain⟨n,ls,ps,l,rfl,N,hl,k⟩:=h
  refine⟨_,(au (aZ (i:=2) sc.nd rfl (Or.inl rfl) (qt (pv 0) T.cP T.me_Net_giver_of (ok_Net_giver_of T) (hr.mono (by decide)) T.b_Net_giver_of .nil aO (aa (pv 1) ak aj)))
   (au (aZ (i:=3) sc.nd rfl (Or.inl rfl) (qt (pv 0) T.cP T.me_Net_taker_of (ok_Net_taker_of T) (hr.mono (by decide)) T.b_Net_taker_of .nil aO (aa (pv 1) ak aj)))
   (au (aZ (i:=4) sc.nd rfl (Or.inl rfl) (aV bN (by rfl) T.du cC (aa (qt (pv 0) T.cP T.me_Net_first_of (ok_Net_first_of T) (hr.mono (by decide)) T.b_Net_first_of .nil aO (aa (pv 1) ak aj)) ak aX)))
   (aB (aY (bO (aa (ie (aa (pv 2) (aa (pv 3) (aa (pv 4) (aa (pv 1) (aa bM ak ao) aj) aj) aj) aj)) (aa (ie (aa (pv 3) (aa (pv 2) (aa (bw xR (qt (pv 0) T.cP T.me_Net_room_of (ok_Net_room_of T) (hr.mono (by decide)) T.b_Net_room_of .nil aO (aa (pv 1) ak aj)) (pv 4)) (aa (pv 1) (aa bM ak ao) aj) bW) aj) aj)) ak iB) iB))))))),?_⟩
  obtain⟨dx,fs,R,F,Pd,G,Tk,FL,PL,W⟩:=id N
  have hz:sizeLine=16777216:=sizeLine_eq
  refine⟨_,rfl,n,dx,fs,rfl,W.obj,W.fl.no _ (by decide +kernel),_,rfl,n,ls,ps,l.name,rfl,N,.inl ⟨l,hl,rfl,fun p1 hp1 lp1 H1 s1=>?_⟩⟩
  have W1:=W.same s1
  refine⟨_,rfl,n,dx,fs,rfl,W1.obj,W1.fl.no _ (by decide +kernel),_,rfl,n,ls,ps,l.name,rfl,W1.s,.inl ⟨l,hl,rfl,fun p2 hp2 lp2 H2 s2=>?_⟩⟩
  have W2:=W1.same s2
  refine⟨_,rfl,n,dx,fs,rfl,W2.obj,W2.fl.no _ (by decide +kernel),_,rfl,n,ls,ps,l.name,rfl,W2.s,.inl ⟨l,hl,rfl,fun H3 u s3 nu eu=>?_⟩⟩
  have W3:=W2.same s3
  refine⟨.ref u,l.first.length,rfl,.inl ⟨_,SqL.of eu,by simp⟩,?_⟩
  refine⟨_,rfl,_,rfl,_,rfl,_,rfl,by show 5≤sizeLine;exact szl,fun q1 n1=>?_⟩
  have t1:=aH (o:=.tup [.str p1.name,.str p2.name,.int (l.first.length:Nat),.str l.name,.str "along"]) n1
  have e1:upd H3 q1 (.tup [.str p1.name,.str p2.name,.int (l.first.length:Nat),.str l.name,.str "along"]) q1=some (.tup [.str p1.name,.str p2.name,.int (l.first.length:Nat),.str l.name,.str "along"]):=aA
  have s4:=s1.trans (s2.trans (s3.trans t1))
  have W4:=W3.same t1
  generalize upd H3 q1 (.tup [.str p1.name,.str p2.name,.int (l.first.length:Nat),.str l.name,.str "along"])=H4 at t1 e1 s4 W4 ⊢
  refine⟨_,rfl,_,rfl,_,rfl,n,dx,fs,rfl,W4.obj,W4.fl.no _ (by decide +kernel),_,rfl,n,ls,ps,l.name,rfl,W4.s,.inl ⟨l,hl,rfl,fun H5 s5=>?_⟩⟩
  refine⟨_,rfl,_,_,rfl,rfl,_,rfl,by show 5≤sizeLine;exact szl,fun q2 n2=>?_⟩
  have t2:=aH (o:=.tup [.str p2.name,.str p1.name,.int (l.room - (l.first.length:Nat)),.str l.name,.str "against"]) n2
  have e2:upd H5 q2 (.tup [.str p2.name,.str p1.name,.int (l.room - (l.first.length:Nat)),.str l.name,.str "against"]) q2=some (.tup [.str p2.name,.str p1.name,.int (l.room - (l.first.length:Nat)),.str l.name,.str "against"]):=aA
  have s6:=s4.trans (s5.trans t2)
  have e1':=t2 _ _ (s5 _ _ e1)
  refine⟨by show 2≤sizeLine;exact szl,fun L nL=>?_⟩
  have nL0:=s6.free nL
  have t3:=aH (o:=.lst [.ref q1,.ref q2]) nL
  have g1:=m7 W.ono hp1 lp1
  have g2:=m7 W.ini hp2 lp2
  refine k _ L [(⟨p1.name,p2.name,(l.first.length:Nat),l.name, "along"⟩,q1),(⟨p2.name,p1.name,l.room - (l.first.length:Nat),l.name, "against"⟩,q2)] (s6.trans t3) nL0 ⟨aA,fun q hq=>?_⟩ ?_
  ·simp only [List.mem_cons,List.not_mem_nil,or_false] at hq
   rcases hq with rfl | rfl
   ·exact t3 _ _ e1'
   ·exact t3 _ _ e2
  ·unfold vh
   rw [g1,g2]
   rfl
def sp_arcs_of (K:PySem.W.Frag) (t:Adr):Sp:=fun vs H Q _=>∃(n:Addr) (ls:List LaneD) (ps:List PD),vs=[.ref n]∧vW K t H n ls ps∧((oddN ps=.non∧∀H' L ra,aW H H'→H L=none→ArcsR H' L ra→ra.map (·.1)=cX ls ps→Q (.ref L) H')∨False)
theorem sc_arcs_of:FnScope ["net", "arcs", "lane"] ["net"] (az mQ):=⟨rfl,rfl,rfl,by decide +kernel,rfl,by decide +kernel,by decide +kernel⟩
theorem ok_arcs_of (T:Txt w K mg t):FnOk P w K mg base CX0 5 t.zm t.xN ["net"] (sp_arcs_of K t):=by
 have sc:=sc_arcs_of
 refine T.F_arcs_of.ok sc (fun vs H Q E h=>?_) (fun cdv A outer s H vs Q E hr h=>?_)
 ·obtain⟨n,ls,ps,rfl,_⟩:=h
  rfl
 ·obtain⟨n,ls,ps,rfl,N,h⟩:=h
  refine⟨_,(au (bT (qR (pc_notN (rG (pv 0) T.cP T.me_Net_odd (ok_Net_odd T) (hr.mono (by decide)) T.b_Net_odd .nil aO)))
    (aB eE)
    bD)
   (au (aZ (i:=1) sc.nd rfl (Or.inl rfl) (bO ak))
   (au (d9 PassesOwn.never rfl (dg (rG (pv 0) T.cP T.qb (qi T) (hr.mono (by decide)) T.rQ .nil aO)) (bU (i:=2) sc.nd rfl (Or.inl rfl))
    (aB (bH (mJ PySem.F.plainAttrs_list PySem.F.slot_list_extend PySem.F.type_list_extend yP (pv 1) (aa (aJ (ok_arcs_of_lane T) (hr.mono (by decide)) (by rfl) T.m_arcs_of_lane T.vg.kp T.b_arcs_of_lane .nil aO (aa (pv 0) (aa (pv 2) ak aj) aj)) ak aX)))))
   (aB (aY (bw op_cat (pv 1) (iR [] ["net", "arcs", "lane"] (az mQ) rfl (dg (rG (pv 0) T.cP T.lW (mC T) (hr.mono (by decide)) T.mR .nil aO)) (fun _ _ _ _ _=>mD) (fun _ _ _ _ _=>(ie (aa (pv 0) (aa (pv 0) (aa aq (aa bM (aa bM ak ao) ao) ao) aj) aj)))))))))),?_⟩
  obtain⟨dx,fs,R,F,Pd,G,Tk,FL,PL,W⟩:=id N
  have hz:sizeLine=16777216:=sizeLine_eq
  have l24:=W.fit.l24
  have p16:=W.fit.p16
  refine⟨_,rfl,n,dx,fs,rfl,W.obj,W.fl.no _ (by decide +kernel),n,ls,ps,rfl,N,fun H1 s1=>?_⟩
  have W1:=W.same s1
  rcases h with ⟨ho,k⟩ | h
  ·rw [ho]
   refine⟨_,rfl,cQ ?_⟩
   refine⟨by show 0≤sizeLine;exact szl,fun A nA=>?_⟩
   have tA:=aH (o:=.lst []) nA
   have eA:upd H1 A (.lst []) A=some (.lst []):=aA
   have W2:=W1.same tA
   have nA0:=s1.free nA
   generalize upd H1 A (.lst [])=H2 at tA eA W2 ⊢
   refine⟨_,rfl,n,dx,fs,rfl,W2.obj,W2.fl.no _ (by decide +kernel),n,ls,ps,rfl,W2.s,fun Ln nLn=>⟨Ln,rfl,⟨_,SqL.of aA⟩,?_⟩⟩
   have tN:=aH (o:=.lst (ls.map fun x=>V.str x.name)) nLn
   have eN:upd H2 Ln (.lst (ls.map fun x=>V.str x.name)) Ln=some (.lst (ls.map fun x=>V.str x.name)):=aA
   have eA2:=tN _ _ eA
   have nLA:Ln≠A:=Ne.symm (aD eA nLn)
   have s3:=yJ (tA.trans tN) nA
   generalize upd H2 Ln (.lst (ls.map fun x=>V.str x.name))=B at tN eN eA2 s3 ⊢
   have eNB:bj [A] B Ln=some (.lst (ls.map fun x=>V.str x.name)):=dw eN (by rw [List.mem_singleton];exact nLA)
   have WB:=W1.same s3
   refine il (K:=K) (a:=Ln) (xs:=ls.map fun x=>V.str x.name) (fun j σ H'=>(∃v2,σ=[some (.ref n),some (.ref A),v2])∧aW (bj [A] B) (bj [A] H')∧∃ra:List AA,H' A=some (.lst (ra.map fun q=>V.ref q.2))∧(∀q∈ra,bj [A] H' q.2=some (.tup (Bs q.1)))∧ra.map (·.1)=(ls.take j).flatMap (vh ps)) ⟨⟨_,rfl⟩,aW.refl _,[],eA2,by simp,rfl⟩ (fun j σ H' _ h=>SqL.of (bQ _ _ (h.2.1 _ _ eNB))) ?_ ?_
   ·rintro j x σ H' hx ⟨⟨v2,rfl⟩,s',ra,eA',hra,era⟩
    rw [List.getElem?_map] at hx
    obtain⟨l,hlj,rfl⟩:=Option.map_eq_some_iff.mp hx
    have hj:=(List.getElem?_eq_some_iff.mp hlj).1
    have lra:ra.length≤48:=by
     have:=congrArg List.length era
     rw [lM,rT,List.length_take] at this
     omega
    refine⟨_,rfl,.inl ⟨rfl,_,SqL.of eA'⟩,_,rfl,_,rfl,n,ls,ps,l,rfl,(WB.same s').same bQ |>.s,List.mem_of_getElem? hlj,fun H3 L3 r3 t3 n3 A3 e3=>?_⟩
    have l3:r3.length=2:=by have:=congrArg List.length e3;rw [lM] at this;exact this
    have eA3:=t3 _ _ eA'
    refine⟨A,L3,_,_,rfl,rfl,eA3,A3.lst,by rw [lM,lM];omega,⟨_,rfl⟩,?_,ra ++ r3,by rw [←List.map_append];exact aA,fun q hq=>?_,?_⟩
    ·rw [cj (by simp)]
     exact s'.trans (gB t3 eA')
    ·rw [cj (by simp)]
     rcases List.mem_append.mp hq with h | h
     ·exact gB t3 eA' _ _ (hra q h)
     ·exact lst_cut eA3 (A3.at_ q h) (by intro _ z;cases z)
    ·rw [List.map_append,era,e3,List.take_succ,hlj,Option.toList_some,List.flatMap_append]
     simp
   rintro σ H3 ⟨⟨v2,rfl⟩,s',ra,eA',hra,era⟩
   rw [lM,List.take_length] at era
   have lra:ra.length≤48:=by
    have:=congrArg List.length era
    rw [lM,rT] at this
    omega
   have W3:=(WB.same s').same bQ
   refine⟨_,rfl,_,rfl,n,dx,fs,rfl,W3.obj,W3.fl.no _ (by decide +kernel),n,ls,ps,rfl,W3.s,fun Lp nLp=>⟨Lp,rfl,⟨_,SqL.of aA⟩,?_⟩⟩
   have tP:=aH (o:=.lst (ps.map fun x=>V.str x.name)) nLp
   have eP:upd H3 Lp (.lst (ps.map fun x=>V.str x.name)) Lp=some (.lst (ps.map fun x=>V.str x.name)):=aA
   generalize upd H3 Lp (.lst (ps.map fun x=>V.str x.name))=H4 at tP eP ⊢
   refine gG (K:=K) (a:=Lp) (xs:=ps.map fun x=>V.str x.name) (fun j zs H'=>aW H4 H'∧∃rb:List AA,zs=rb.map (fun q=>V.ref q.2)∧rb.length=j∧(∀q∈rb,H' q.2=some (.tup (Bs q.1)))∧rb.map (·.1)=(ps.take j).map selfA) (by rw [lM];omega) ⟨aW.refl _,[],rfl,rfl,by simp,rfl⟩ (fun j zs H' ⟨_,rb,e,e2,_⟩=>by rw [e,lM];omega) (fun j zs H' _ h=>h.1.seq (SqL.of eP)) ?_ ?_
   ·rintro j x zs H' hx ⟨s5,rb,rfl,hlen,hrb,erb⟩
    rw [List.getElem?_map] at hx
    obtain⟨p,hpj,rfl⟩:=Option.map_eq_some_iff.mp hx
    refine yes ⟨_,rfl,_,rfl,by show 5≤sizeLine;exact szl,fun q nq=>?_⟩
    have tq:=aH (o:=.tup [.str p.name,.str p.name,.int 1,.str "",.str "again"]) nq
    refine⟨s5.trans tq,rb ++ [(selfA p,q)],by rw [List.map_append];rfl,by rw [lP,List.length_singleton];omega,fun z hz'=>?_,?_⟩
    ·rcases List.mem_append.mp hz' with h | h
     ·exact tq _ _ (hrb z h)
     ·rw [List.mem_singleton] at h;subst h;exact aA
    ·rw [List.map_append,erb,List.take_succ,hpj,Option.toList_some,List.map_append]
     rfl
   rintro zs H5 ⟨s5,rb,rfl,hlen,hrb,erb⟩ D nD
   rw [lM,List.take_length] at erb
   rw [lM] at hlen
   have tD:=aH (o:=.lst (rb.map fun q=>V.ref q.2)) nD
   have s35:=tP.trans (s5.trans tD)
   refine⟨A,D,_,_,rfl,rfl,s35 _ _ eA',aA,by rw [lM,lM];omega,fun L nL=>?_⟩
   rw [←List.map_append]
   have tL:=aH (o:=.lst ((ra ++ rb).map fun q=>V.ref q.2)) nL
   have sAll:aW H1 H3:=fun b o e=>bQ _ _ (s' _ _ (s3 _ _ e))
   refine k _ L (ra ++ rb) (s1.trans (sAll.trans (s35.trans tL))) ?_ ⟨aA,fun q hq=>?_⟩ ?_
   ·exact(s1.trans (sAll.trans s35)).free nL
   ·rcases List.mem_append.mp hq with h | h
    ·exact tL _ _ (s35 _ _ (bQ _ _ (hra q h)))
    ·exact tL _ _ (tD _ _ (hrb q h))
   ·rw [List.map_append,era,erb]
    rfl
  ·exact h.elim
def sp_gone_round (K:PySem.W.Frag):Sp:=fun vs H Q _=>∃(x:Str) (d:Addr) (m:List (Str×Str)),vs=[.str x,.ref d]∧H d=some (.dK (kvG V.str m))∧m.length≤1000∧∀H' L r a seen,aW H H'→H' L=some (.lst (r.map V.str))→Rg.Gone (lkG m) x seen a→(∀y∈r,y∈seen)→((∃j:Nat,seen[j]?=some a∧r=seen.drop j)∨(a∉seen∧lkG m a=none∧r=[]))→Q (.ref L) H'
theorem sc_gone_round:FnScope ["start", "leads", "seen", "at"] ["start", "leads"] (az iH):=⟨rfl,rfl,rfl,by decide +kernel,rfl,by decide +kernel,by decide +kernel⟩
theorem ok_gone_round (T:Txt w K mg t):FnOk P w K mg base CX0 1 t.ux t.rB ["start", "leads"] (sp_gone_round K):=by
 have sc:=sc_gone_round
 refine T.yE.ok sc (fun vs H Q E h=>?_) (fun cdv A outer s H vs Q E hr h=>?_)
 ·obtain⟨x,d,m,rfl,_⟩:=h
  rfl
 ·obtain⟨x,d,m,rfl,hd,hlen,k⟩:=h
  refine⟨_,(au (aZ (i:=2) sc.nd rfl (Or.inl rfl) (bO ak))
   (au (aZ (i:=3) sc.nd rfl (Or.inl rfl) (pv 0))
   (au (rR PassesOwn.never (PW.pt (uy (qR (xK hr.u1 (pv 3) (pv 1))) (qw (bf yN (pv 3) (pv 2) (by with_unfolding_all rfl)))))
    (au (bH (mJ PySem.F.plainAttrs_list PySem.F.slot_list_append PySem.F.type_list_append gK (pv 2) (aa (pv 3) ak aj)))
    (aB (aZ (i:=3) sc.nd rfl (Or.inl rfl) (dh hr.u1 (pv 1) (pv 3) (fun _ _=>rfl))))))
   (aB (aY (pe_ifExp (bf zu (pv 3) (pv 2) (by with_unfolding_all rfl)) (pQ z8 (pv 2) (qp (mJ PySem.F.plainAttrs_list PySem.F.slot_list_index PySem.F.type_list_index mt_indexS (pv 2) (aa (pv 3) ak aj))) wL) (bO ak))))))),?_⟩
  have hz:sizeLine=16777216:=sizeLine_eq
  refine⟨by show 0≤sizeLine;exact szl,fun S nS=>⟨_,rfl,?_⟩⟩
  refine rO (fun σ H'=>∃seen a,σ=[some (.str x),some (.ref d),some (.ref S),some (.str a)]∧H'=upd H S (.lst (seen.map V.str))∧Rg.Gone (lkG m) x seen a) (fun σ H'=>m.length+1 - lenAt H' S) ⟨[],x,rfl,rfl,.start _ _⟩ ?_ ?_
  ·rintro σ H' ⟨seen,a,rfl,rfl,g⟩
   have ed:upd H S (.lst (seen.map V.str)) d=some (.dK (kvG V.str m)):=by rw [aM (aD hd nS)];exact hd
   have eS:upd H S (.lst (seen.map V.str)) S=some (.lst (seen.map V.str)):=aA
   have sS:aW H (upd H S (.lst (seen.map V.str))):=aH nS
   have sl:seen.length≤m.length:=by
    have:=Rg.pR g.nd (m:=m.map (·.1)) fun y hy=>by
     obtain⟨z,ez⟩:=g.mem y hy
     exact qx.mp (by rw [ez];rfl)
    rwa [lM] at this
   refine⟨_,rfl,_,rfl,d,_,rfl,kW ed a,?_⟩
   cases e:lkG m a with
   | none=>
    have hm:a∉seen:=fun z=>by
     obtain⟨b,eb⟩:=g.mem a z
     rw [e] at eb
     cases eb
    refine⟨_,rfl,cQ (cQ ?_)⟩
    refine⟨_,rfl,_,rfl,S,_,rfl,.inl (SqL.of eS),rfl,rZ _,_,rfl,?_⟩
    rw [yK,decide_eq_false hm]
    refine cQ ⟨by show 0≤sizeLine;exact szl,fun L nL=>?_⟩
    exact k _ L [] a seen (sS.trans (aH nL)) aA g (by simp) (.inr ⟨hm,e,rfl⟩)
   | some b=>
    refine⟨_,rfl,tV ?_⟩
    refine⟨_,rfl,_,rfl,S,_,rfl,.inl (SqL.of eS),rfl,rZ _,_,rfl,?_⟩
    rw [yK]
    by_cases hm:a∈seen
    ·rw [decide_eq_true hm]
     refine cQ ?_
     refine⟨_,rfl,_,rfl,S,_,rfl,.inl (SqL.of eS),rfl,rZ _,_,rfl,?_⟩
     rw [yK,decide_eq_true hm]
     refine tV ?_
     obtain⟨j,hj,ej⟩:=List.mem_iff_getElem.mp hm
     have hja:seen[j]?=some a:=by rw [List.getElem?_eq_getElem hj,ej]
     refine⟨_,rfl,_,rfl,.inl ⟨rfl,_,SqL.of eS⟩,_,rfl,S,seen,a,j,rfl,rfl,eS,hja,fun i y hi ey z=>?_,_,rfl,S,_,rfl,SqL.of eS,fun L nL=>?_⟩
     ·subst z
      have h1:=(List.getElem?_eq_some_iff.mp ey)
      have:=(List.getElem_inj g.nd).mp (h1.2.trans ej.symm)
      omega
     ·rw [zg,←List.map_drop]
      exact k _ L (seen.drop j) a seen (sS.trans (aH nL)) aA g (fun y hy=>List.mem_of_mem_drop hy) (.inl ⟨j,hja,rfl⟩)
    ·rw [decide_eq_false hm]
     refine tV ?_
     refine⟨_,rfl,.inl ⟨rfl,_,SqL.of eS⟩,_,rfl,S,_,_,rfl,rfl,eS,by rw [lM];omega,?_⟩
     rw [qj]
     have ed2:upd H S (.lst (seen.map V.str ++ [.str a])) d=some (.dK (kvG V.str m)):=by rw [aM (aD hd nS)];exact hd
     have g2:=kW ed2 a
     rw [e] at g2
     refine⟨_,rfl,_,rfl,d,_,rfl,g2,?_⟩
     have G:=g.step e hm
     have es:seen.map V.str ++ [V.str a]=(seen ++ [a]).map V.str:=by rw [List.map_append];rfl
     rw [es]
     refine⟨⟨seen ++ [a],b,rfl,rfl,G⟩,?_⟩
     show m.length+1 - lenAt _ S <m.length+1 - lenAt _ S
     rw [yz (aA (H:=H) (a:=S) (o:=.lst ((seen ++ [a]).map V.str))),yz eS,lM,lM,lP,List.length_singleton]
     omega
  ·intro σ H' Q' Q'' hm hq
   obtain⟨v,e,u,e2,d',o',e3,g,b,e4,hq⟩:=hq
   refine⟨v,e,u,e2,d',o',e3,g,b,e4,?_⟩
   split at hq
   ·rename_i hb
    rw [if_pos hb]
    obtain⟨v,e,u,e2,p',xs,e3,h1,h2,h3,b',e5,hq⟩:=hq
    exact⟨v,e,u,e2,p',xs,e3,h1,h2,h3,b',e5,hm _ _ hq⟩
   ·rename_i hb
    rw [if_neg hb]
    exact hm _ _ hq
def aG (q:AA):V:=.ref q.2
def fI (ik:List (Str×AA)) (x:Str):Option Str:=(lkG ik x).map fun q=>q.1.fr
def qu (ik:List (Str×AA)):List (Str×Str):=ik.map fun q=>(q.1,q.2.1.fr)
theorem lead_lk (ik:List (Str×AA)):lkG (qu ik)=fI ik:=by
 funext x
 unfold fI
 induction ik with
 | nil=>rfl
 | cons q r ih=>
  show lkG ((q.1,q.2.1.fr):: qu r) x=_
  rw [fD,fD]
  by_cases h:q.1=x
  ·rw [if_pos h,if_pos h];rfl
  ·rw [if_neg h,if_neg h];exact ih
theorem lead_keys (ik:List (Str×AA)):(qu ik).map (·.1)=ik.map (·.1):=by unfold qu;rw [List.map_map];rfl
def sp_ring_into (K:PySem.W.Frag):Sp:=fun vs H Q _=>∃(x:Str) (d:Addr) (ik:List (Str×AA)),vs=[.str x,.ref d]∧H d=some (.dK (kvG aG ik))∧(ik.map (·.1)).Nodup∧ik.length≤100∧(∀q∈ik,H q.2.2=some (.tup (Bs q.2.1)))∧∀H' L r a seen,aW H H'→H L=none→ArcsR H' L (r.reverse.filterMap (lkG ik))→Rg.Gone (fI ik) x seen a→(∀y∈r,∃q,lkG ik y=some q)→((∃j:Nat,seen[j]?=some a∧r=seen.drop j)∨(a∉seen∧fI ik a=none∧r=[]))→Q (.ref L) H'
theorem sc_ring_into:FnScope ["start", "into", "leads", "name"] ["start", "into"] (az iy):=⟨rfl,rfl,rfl,by decide +kernel,rfl,by decide +kernel,by decide +kernel⟩
theorem ok_ring_into (T:Txt w K mg t):FnOk P w K mg base CX0 2 t.uW t.uB ["start", "into"] (sp_ring_into K):=by
 have sc:=sc_ring_into
 refine T.zF.ok sc (fun vs H Q E h=>?_) (fun cdv A outer s H vs Q E hr h=>?_)
 ·obtain⟨x,d,ik,rfl,_⟩:=h
  rfl
 ·obtain⟨x,d,ik,rfl,hd,nd,hlen,hat,k⟩:=h
  refine⟨_,(au (aZ (i:=2) sc.nd rfl (Or.inl rfl) nM)
   (au (yj (H0:=H) rfl (d9 PassesOwn.never rfl (zX (pv 1)) (bU (i:=3) sc.nd rfl (Or.inl rfl))
    (aB (kI hr.u1 (pv 2) (pv 3) (aQ bJ (dh hr.u1 (pv 1) (pv 3) (fun _ _=>rfl)) aq (fun _ _=>rfl)) rfl))))
   (aB (aY (iR [1] ["start", "into", "leads", "name"] (az iy) rfl (pi_rev rfl T.n_reversed (aa (aJ (ok_gone_round T) (hr.mono (by decide)) (by rfl) T.m_gone_round T.yE.kp T.b_gone_round .nil aO (aa (pv 0) (aa (pv 2) ak aj) aj)) ak aX)) (fun _ _ _ _ _=>mD) (fun _ _ _ _ _=>(dh hr.u1 (pv 1) (pv 0) (fun _ _=>rfl)))))))),?_⟩
  have hz:sizeLine=16777216:=sizeLine_eq
  refine fun D nD=>?_
  have tD:=aH (o:=.dK []) nD
  have eD:upd H D (.dK []) D=some (.dK (kvG V.str (qu (ik.take 0)))):=aA
  generalize upd H D (.dK [])=H0 at tD eD ⊢
  have hd0:=tD _ _ hd
  have nDd:D≠d:=Ne.symm (aD hd nD)
  refine⟨_,rfl,d,_,rfl,hd0,fun o=>yM (fun j σ H'=>(∃v3,σ=[some (.str x),some (.ref d),some (.ref D),v3])∧But d H H'∧H' d=some (.frz o (.dK (kvG aG ik)))∧H' D=some (.dK (kvG V.str (qu (ik.take j))))) ⟨⟨_,rfl⟩,fun b u hn e=>by rw [aM hn];exact tD _ _ e,aA,by rw [aM nDd];exact eD⟩ (fun j σ H' _ h=>h.2.2.1) ?_ ?_⟩
  ·rintro j kk v σ H' hj ⟨⟨v3,rfl⟩,hb,hg,eD'⟩
   obtain⟨q,hq,rfl,rfl⟩:=kvG_at hj
   have hqm:=List.mem_of_getElem? hq
   have g1:=kvG_getF hg q.1
   rw [lkG_nd nd hqm] at g1
   have nin:q.1∉(qu (ik.take j)).map (·.1):=by rw [lead_keys];exact yH nd hq
   have ne:q.2.2≠d:=gC (hat q hqm) hd (by intro z;cases z)
   refine⟨_,rfl,_,rfl,d,_,rfl,g1,q.2.2,_,0,_,rfl,rfl,SqT.of (hb _ _ ne (hat q hqm)),aK (j:=0) rfl,_,rfl,_,rfl,D,_,rfl,wV.k (k:=Sum.inr q.1) eD' (by rw [sZ];unfold qu;rw [lM,List.length_take];omega),⟨_,rfl⟩,fun b u hn e=>?_,?_,?_⟩
   ·rw [aM (aD e nD)];exact hb b u hn e
   ·rw [aM (Ne.symm nDd)];exact hg
   ·rw [aA]
    have:putK (kvG V.str (qu (ik.take j))) (Sum.inr q.1) (.str q.2.1.fr)=kvG V.str (eV (qu (ik.take j)) q.1 q.2.1.fr):=wH _ _ _ _
    rw [this,vQ _ nin,List.take_succ,hq,Option.toList_some]
    unfold qu
    rw [List.map_append]
    rfl
  rintro σ H' ⟨⟨v3,rfl⟩,hb,hg,eD'⟩
  rw [sZ,List.take_length] at eD'
  refine⟨_,⟨d,o,_,hg,(fun o' u' z=>by rw [show H d=_ from hd] at z;cases z),rfl⟩,?_⟩
  have s1:aW H (upd H' d (.dK (kvG aG ik))):=fun b u e=>by
   by_cases h:b=d
   ·subst h;rw [aA];rw [hd] at e;exact e
   ·rw [aM h];exact hb b u h e
  have eD1:upd H' d (.dK (kvG aG ik)) D=some (.dK (kvG V.str (qu ik))):=by rw [aM nDd];exact eD'
  generalize upd H' d (.dK (kvG aG ik))=H1 at s1 eD1 ⊢
  refine⟨_,rfl,_,rfl,x,D,qu ik,rfl,eD1,by unfold qu;rw [lM];omega,fun H2 L r a seen s2 eL g hr hc=>⟨L,r.map V.str,rfl,SqL.of eL,?_⟩⟩
  rw [lead_lk] at g hc
  have s12:=s1.trans s2
  have hd2:=s12 _ _ hd
  have get:∀y∈r,∃q,lkG ik y=some q:=fun y hy=>by
   obtain⟨z,ez⟩:=g.mem y (hr y hy)
   obtain⟨q,hq,_⟩:=Option.map_eq_some_iff.mp ez
   exact⟨q,hq⟩
  have lr:r.length≤100:=by
   have h1:=Rg.pR g.nd (m:=ik.map (·.1)) fun y hy=>by
    obtain⟨z,ez⟩:=g.mem y hy
    obtain⟨q,hq,_⟩:=Option.map_eq_some_iff.mp ez
    exact qx.mp (by rw [hq];rfl)
   rw [lM] at h1
   rcases hc with ⟨j,_,rfl⟩ | ⟨_,_,rfl⟩
   ·rw [List.length_drop]
    omega
   ·exact Nat.zero_le _
  refine comp_rev (K:=K) (a:=L) (xs:=r.map V.str) (fun i ys H'=>H'=H2∧ys=((r.reverse.take i).filterMap (lkG ik)).map (fun q=>V.ref q.2)) (by rw [lM];omega) ⟨rfl,rfl⟩ (fun i ys H' ⟨_,e⟩=>by rw [e,lM];exact Nat.le_trans (List.length_filterMap_le _ _) (by rw [List.length_take];omega)) (fun i ys H' _ ⟨e,_⟩=>by rw [e];exact SqL.of eL) ?_ ?_
  ·rintro i y ys H' hy ⟨rfl,rfl⟩
   rw [←List.map_reverse,List.getElem?_map] at hy
   obtain⟨z,hz',rfl⟩:=Option.map_eq_some_iff.mp hy
   obtain⟨q,hq⟩:=get z (List.mem_reverse.mp (List.mem_of_getElem? hz'))
   have g2:=kW hd2 z
   rw [hq] at g2
   refine yes ⟨_,rfl,_,rfl,d,_,rfl,g2,rfl,?_⟩
   rw [List.take_succ,hz',Option.toList_some,List.filterMap_append,List.map_append]
   simp [hq,aG]
  rintro ys H9 ⟨rfl,rfl⟩ D2 nD2
  have t3:=aH (o:=.lst (((r.reverse.take (r.map V.str).length).filterMap (lkG ik)).map (fun q=>V.ref q.2))) nD2
  rw [show r.reverse.take (r.map V.str).length=r.reverse from List.take_of_length_le (by rw [lM,List.length_reverse];exact Nat.le_refl _)] at t3 ⊢
  refine k _ D2 r a seen (s12.trans t3) (s12.free nD2) ⟨aA,fun q hq=>?_⟩ g get hc
  obtain⟨y,_,e⟩:=List.mem_filterMap.mp hq
  exact t3 _ _ (s12 _ _ (hat _ (oU e)))
structure IntoOk (ra:List AA) (ik:List (Str×AA)):Prop where
 nd:(ik.map (·.1)).Nodup
 ok:∀e∈ik,e.2∈ra∧e.2.1.to=e.1
theorem IntoOk.put {ra:List AA} {ik:List (Str×AA)} (h:IntoOk ra ik) {q:AA} (hq:q∈ra):IntoOk ra (eV ik q.1.to q):=⟨putG_nd h.nd,fun e he=>by
 rcases Bb he with h1 | h1
 ·exact h.ok e h1
 ·subst h1;exact⟨hq,rfl⟩⟩
theorem IntoOk.len {ra:List AA} {ik:List (Str×AA)} (h:IntoOk ra ik):ik.length≤ra.length:=by
 have:=Rg.pR h.nd (m:=ra.map fun q=>q.1.to) fun x hx=>by
  obtain⟨e,he,rfl⟩:=List.mem_map.mp hx
  obtain⟨h1,h2⟩:=h.ok e he
  exact List.mem_map.mpr ⟨e.2,h1,h2⟩
 rwa [lM,lM] at this
def wU {β γ:Type} (h:β→γ) (m:List (Str×β)):List (Str×γ):=m.map fun e=>(e.1,h e.2)
theorem yw {β γ:Type} (h:β→γ) (x:Str):∀m:List (Str×β),lkG (wU h m) x=(lkG m x).map h
 | []=>rfl
 | q:: r=>by
  show lkG ((q.1,h q.2):: wU h r) x=_
  rw [fD,fD,yw h x r]
  split <;> rfl
theorem mapG_put {β γ:Type} (h:β→γ) (m:List (Str×β)) (x:Str) (b:β):wU h (eV m x b)=eV (wU h m) x (h b):=by
 unfold eV
 rw [wG,wG,yw,Option.isSome_map]
 split
 ·unfold wU
  rw [List.map_map,List.map_map]
  refine List.map_congr_left fun q _=>?_
  dsimp only [Function.comp]
  split <;> rfl
 ·unfold wU
  rw [List.map_append]
  rfl
def fA (ia:List (Str×Arc)) (x:Str):Option Str:=(lkG ia x).map (·.fr)
theorem fI_arcs (ik:List (Str×AA)):fI ik=fA (wU (·.1) ik):=by
 funext x
 unfold fI fA
 rw [yw,Option.map_map]
 rfl
section
open Rg
variable {α:Type} [DecidableEq α] {f:α→Option α}
theorem way_pre:∀(l m:List α) (x:α),Way f l→Way f m→l.head?=some x→m.head?=some x→l.length≤m.length→∃t,m=l ++ t
 | [],_,_,_,_,e,_,_=>by cases e
 | [a],m,x,_,_,e,e2,_=>by
  cases e
  cases m with
  | nil=>cases e2
  | cons b t=>cases e2;exact⟨t,rfl⟩
 | a:: b:: r,m,x,w,w2,e,e2,h=>by
  cases e
  cases m with
  | nil=>cases e2
  | cons c t=>
   cases e2
   cases t with
   | nil=>simp at h
   | cons d t=>
    have:some d=some b:=w2.1.symm.trans w.1
    cases this
    obtain⟨u,hu⟩:=way_pre (b:: r) (b:: t) b w.2 w2.2 rfl rfl (by simpa using h)
    exact⟨u,by rw [hu];rfl⟩
theorem Gone.le {x a a':α} {seen seen':List α} (g:Gone f x seen a) (g':Gone f x seen' a') (s:a∈seen) (h:seen.length≤seen'.length):seen=seen'∧a=a':=by
 obtain⟨t,e⟩:=way_pre _ _ x g.way g'.way g.hd g'.hd (by rw [lP,lP];simpa using h)
 rcases Nat.eq_or_lt_of_le h with hl | hl
 ·have ht:t=[]:=List.length_eq_zero_iff.mp (by
   have:=congrArg List.length e
   rw [lP,lP,lP] at this
   simp at this
   omega)
  subst ht
  rw [List.append_nil] at e
  obtain⟨h1,h2⟩:=List.append_inj' e.symm rfl
  exact⟨h1,by simpa using h2⟩
 ·have nd:=g'.nd
  have:∃u,seen'=seen ++ [a] ++ u:=by
   have ht:t≠[]:=fun z=>by
    subst z
    have:=congrArg List.length e
    rw [lP,lP,lP] at this
    simp at this
    omega
   refine⟨t.dropLast,?_⟩
   have h3:=congrArg List.dropLast e
   rw [List.dropLast_concat,List.dropLast_append_of_ne_nil ht] at h3
   exact h3
  obtain⟨u,hu⟩:=this
  rw [hu,List.append_assoc,List.nodup_append] at nd
  exact absurd rfl (nd.2.2 a s a (by simp))
theorem Gone.one {x a a':α} {seen seen':List α} (g:Gone f x seen a) (g':Gone f x seen' a') (s:a∈seen) (s':a'∈seen'):seen=seen'∧a=a':=by
 rcases Nat.le_total seen.length seen'.length with h | h
 ·exact Gone.le g g' s h
 ·obtain⟨h1,h2⟩:=Gone.le g' g s' h
  exact⟨h1.symm,h2.symm⟩
theorem way_at:∀{l:List α} {i:Nat} {a b:α},Way f l→l[i]?=some a→l[i+1]?=some b→f a=some b
 | [],_,_,_,_,h,_=>by cases h
 | [_],0,_,_,_,_,h=>by cases h
 | [_],i+1,_,_,_,h,_=>by cases h
 | a:: b:: r,0,_,_,w,h,h2=>by
  cases h
  cases h2
  exact w.1
 | a:: b:: r,i+1,_,_,w,h,h2=>way_at (l:=b:: r) w.2 h h2
end
theorem fm_at {β:Type} (g:Str→Option β):∀(l:List Str) (i:Nat),(∀y∈l,∃q,g y=some q)→(l.filterMap g)[i]?=(l[i]?).bind g
 | [],_,_=>rfl
 | y:: r,i,h=>by
  obtain⟨q,hq⟩:=h y List.mem_cons_self
  rw [List.filterMap_cons_some hq]
  cases i with
  | zero=>simp [hq]
  | succ i=>simpa using fm_at g r i fun z hz=>h z (List.mem_cons_of_mem _ hz)
def xO (ia:List (Str×Arc)) (x:Str) (cs:List Arc):Prop:=∃(r:List Str) (a:Str) (seen:List Str) (j:Nat),Rg.Gone (fA ia) x seen a∧seen[j]?=some a∧r=seen.drop j∧cs=r.reverse.filterMap (lkG ia)
theorem xO.one {ia:List (Str×Arc)} {x:Str} {cs cs':List Arc} (h:xO ia x cs) (h':xO ia x cs'):cs=cs':=by
 obtain⟨r,a,seen,j,g,ej,rfl,rfl⟩:=h
 obtain⟨r',a',seen',j',g',ej',rfl,rfl⟩:=h'
 obtain⟨rfl,rfl⟩:=Gone.one g g' (List.mem_of_getElem? ej) (List.mem_of_getElem? ej')
 obtain⟨h1,e1⟩:=List.getElem?_eq_some_iff.mp ej
 obtain⟨h2,e2⟩:=List.getElem?_eq_some_iff.mp ej'
 have:=(List.getElem_inj g.nd).mp (e1.trans e2.symm)
 rw [this]
theorem xO.ok {ia:List (Str×Arc)} {x:Str} {cs:List Arc} (h:xO ia x cs) (hto:∀y a,lkG ia y=some a→a.to=y):cs≠[]∧(∀c∈cs,∃y,lkG ia y=some c)∧∀i c,cs[i]?=some c→∃c',cs[if i=0 then cs.length - 1 else i - 1]?=some c'∧c.fr=c'.to:=by
 obtain⟨r,a,seen,j,g,ej,hr,rfl⟩:=h
 obtain⟨R,ne⟩:=g.round ej
 rw [←hr] at R ne
 have get:∀y∈r,∃q,lkG ia y=some q:=fun y hy=>by
  obtain⟨z,ez⟩:=g.mem y (by rw [hr] at hy;exact List.mem_of_mem_drop hy)
  obtain⟨q,hq,_⟩:=Option.map_eq_some_iff.mp ez
  exact⟨q,hq⟩
 have getR:∀y∈r.reverse,∃q,lkG ia y=some q:=fun y hy=>get y (List.mem_reverse.mp hy)
 have at_:=fun i=>fm_at (lkG ia) r.reverse i getR
 have len:(r.reverse.filterMap (lkG ia)).length=r.length:=by
  rw [←List.length_reverse (as:=r)]
  generalize r.reverse=l at getR
  clear at_
  induction l with
  | nil=>rfl
  | cons y t ih=>
   obtain⟨q,hq⟩:=getR y List.mem_cons_self
   rw [List.filterMap_cons_some hq,List.length_cons,List.length_cons,ih fun z hz=>getR z (List.mem_cons_of_mem _ hz)]
 have pos:0 <r.length:=List.length_pos_iff.mpr ne
 refine⟨fun z=>by rw [z] at len;simp at len;omega,fun c hc=>?_,fun i c hc=>?_⟩
 ·obtain⟨y,_,e⟩:=List.mem_filterMap.mp hc
  exact⟨y,e⟩
 ·have hi:i <r.length:=by have:=(List.getElem?_eq_some_iff.mp hc).1;omega
  rw [at_] at hc
  obtain⟨y,hy,e⟩:=Option.bind_eq_some_iff.mp hc
  rw [List.getElem?_reverse hi] at hy
  have step:∃z,r[r.length - 1 - (if i=0 then r.length - 1 else i - 1)]?=some z∧fA ia y=some z:=by
   by_cases h0:i=0
   ·subst h0
    rw [if_pos rfl]
    obtain⟨z,hz⟩:∃z,r[0]?=some z:=⟨_,List.getElem?_eq_getElem pos⟩
    refine⟨z,by rw [Nat.sub_self];exact hz,R.shut y z ?_ ?_⟩
    ·rw [List.getLast?_eq_getElem?,←hy]
     congr 1
    ·rw [←hz,List.head?_eq_getElem?]
   ·rw [if_neg h0]
    obtain⟨z,hz⟩:∃z,r[r.length - 1 - (i - 1)]?=some z:=⟨_,List.getElem?_eq_getElem (by omega)⟩
    refine⟨z,hz,way_at R.way hy ?_⟩
    rw [←hz]
    congr 1
    omega
  obtain⟨z,hz,ef⟩:=step
  have hz':r.reverse[if i=0 then r.length - 1 else i - 1]?=some z:=by
   rw [List.getElem?_reverse (by split <;> omega)]
   exact hz
  obtain⟨q,hq⟩:=get z (List.mem_of_getElem? hz)
  refine⟨q,by rw [len,at_,hz'];exact hq,?_⟩
  unfold fA at ef
  rw [e] at ef
  rw [hto z q hq]
  exact Option.some.inj ef
def cW (p q:Int) (a:AA):Int:=p - q * a.1.tk
def tF (tm:List (Str×Int)) (x:Str):Int:=(lkG tm x).getD 0
def wI (p q:Int) (ik:List (Str×AA)) (x:Str):Int:=match lkG ik x with
 | some a=>cW p q a
 | none=>0
theorem tF_put (tm:List (Str×Int)) (x:Str) (v:Int):tF (eV tm x v)=fun y=>if y=x then v else tF tm y:=by
 funext y
 unfold tF
 rw [qe]
 split <;> rfl
theorem fI_put (ik:List (Str×AA)) (x:Str) (a:AA):fI (eV ik x a)=fun y=>if y=x then some a.1.fr else fI ik y:=by
 funext y
 unfold fI
 rw [qe]
 split <;> rfl
theorem wI_put (p q:Int) (ik:List (Str×AA)) (x:Str) (a:AA):wI p q (eV ik x a)=fun y=>if y=x then cW p q a else wI p q ik y:=by
 funext y
 unfold wI
 rw [qe]
 by_cases h:y=x
 ·rw [if_pos h,if_pos h]
 ·rw [if_neg h,if_neg h]
structure ArcsN (N:List Str) (ra:List AA):Prop where
 fr:∀a∈ra,a.1.fr∈N
 to:∀a∈ra,a.1.to∈N
structure ArcsIn (N:List Str) (ra:List AA):Prop extends ArcsN N ra where
 tk0:∀a∈ra,0≤a.1.tk
 tk1:∀a∈ra,a.1.tk≤1000000
abbrev Rd1 (p q:Int) (ra:List AA) (N:List Str) (k j:Nat) (tm:List (Str×Int)) (ik:List (Str×AA)) (R:Str→Nat):Prop:=Rg.Rnd (fun a:AA=>a.1.fr) (fun a:AA=>a.1.to) (cW p q) ra N k j (tF tm) (fI ik) (wI p q ik) R
abbrev GSt:=List (Str×Int)×List (Str×Arc)×List Str
def gS (p q:Int) (s:GSt) (a:Arc):GSt:=if tF s.1 a.to <tF s.1 a.fr+(p - q * a.tk) then(eV s.1 a.to (tF s.1 a.fr+(p - q * a.tk)),eV s.2.1 a.to a,s.2.2 ++ [a.to]) else s
def gF (p q:Int) (arcs:List Arc) (s:GSt):GSt:=arcs.foldl (gS p q) s
theorem gF_snoc {p q:Int} {ra:List AA} {j:Nat} {a:AA} {s:GSt} (h:ra[j]?=some a):gF p q ((ra.take (j+1)).map (·.1)) s=gS p q (gF p q ((ra.take j).map (·.1)) s) a.1:=by
 unfold gF
 rw [List.take_succ,h,Option.toList_some,List.map_append,List.foldl_append]
 rfl
def sp_grow_times (K:PySem.W.Frag):Sp:=fun vs H Q _=>∃(Dt Di L W:Addr) (p q:Int) (N:List Str) (ra:List AA) (k:Nat) (tm:List (Str×Int)) (ik:List (Str×AA)) (R:Str→Nat),vs=[.ref Dt,.ref Di,.ref L,.ref W]∧H Dt=some (.dK (kvG V.int tm))∧H Di=some (.dK (kvG aG ik))∧Dt≠Di∧ArcsR H L ra∧H W=some (.tup [.int p,.int q])∧0≤q∧q≤1000000∧ra.length≤100∧N.length≤16∧ArcsN N ra∧tm.map (·.1)=N∧IntoOk ra ik∧1≤k∧Rd1 p q ra N k 0 tm ik R∧∀H' G gs tm' ik' R',aW (bj [Dt,Di] H) (bj [Dt,Di] H')→H' Dt=some (.dK (kvG V.int tm'))→H' Di=some (.dK (kvG aG ik'))→H' G=some (.lst (gs.map V.str))→H G=none→tm'.map (·.1)=N→IntoOk ra ik'→Rd1 p q ra N k ra.length tm' ik' R'→(gs=[]→∀a∈ra,tF tm' a.1.fr+cW p q a≤tF tm' a.1.to)→(∀g∈gs,R' g=k∧g∈N)→(∀x,tF tm x≤tF tm' x)→(tm',wU (·.1) ik',gs)=gF p q (ra.map (·.1)) (tm,wU (·.1) ik,[])→Q (.ref G) H'
theorem sc_grow_times:FnScope ["times", "into", "arcs", "wish", "grown", "arc", "least"] ["times", "into", "arcs", "wish"] (az iT):=⟨rfl,rfl,rfl,by decide +kernel,rfl,by decide +kernel,by decide +kernel⟩
theorem ok_grow_times (T:Txt w K mg t):FnOk P w K mg base CX0 1 t.tE t.qQ ["times", "into", "arcs", "wish"] (sp_grow_times K):=by
 have sc:=sc_grow_times
 refine T.yr.ok sc (fun vs H Q E h=>?_) (fun cdv A outer s H vs Q E hr h=>?_)
 ·obtain⟨Dt,Di,L,W,p,q,N,ra,k,tm,ik,R,rfl,_⟩:=h
  rfl
 ·obtain⟨Dt,Di,L,W,p,q,N,ra,k,tm,ik,R,rfl,eDt,eDi,nDD,A,eW,q0,q1,hra,hN,AI,hk,IO,k1,rd,kk⟩:=h
  refine⟨_,(au (aZ (i:=4) sc.nd rfl (Or.inl rfl) (bO ak))
   (au (d9 PassesOwn.never rfl (dg (pv 2)) (bU (i:=5) sc.nd rfl (Or.inl rfl))
    (au (aZ (i:=6) sc.nd rfl (Or.inl rfl) (bw xR (bw dm (dh hr.u1 (pv 0) (aQ bJ (pv 5) aq (fun _ _=>rfl)) (fun _ _=>rfl)) (aQ bJ (pv 3) aq (fun _ _=>rfl))) (bw mF (aQ bJ (pv 3) aq (fun _ _=>rfl)) (aQ bJ (pv 5) aq (fun _ _=>rfl)))))
    (aB (fj (bT (bf rN (dh hr.u1 (pv 0) (aQ bJ (pv 5) aq (fun _ _=>rfl)) (fun _ _=>rfl)) (pv 6) (bL _))
     (au (kI hr.u1 (pv 0) (aQ bJ (pv 5) aq (fun _ _=>rfl)) (pv 6) rfl)
     (au (kI hr.u1 (pv 1) (aQ bJ (pv 5) aq (fun _ _=>rfl)) (pv 5) rfl)
     (aB (bH (mJ PySem.F.plainAttrs_list PySem.F.slot_list_append PySem.F.type_list_append gK (pv 4) (aa (aQ bJ (pv 5) aq (fun _ _=>rfl)) ak aF))))))
     bD)))))
   (aB (aY (pv 4))))),?_⟩
  have hz:sizeLine=16777216:=sizeLine_eq
  refine⟨by show 0≤sizeLine;exact szl,fun G nG0=>?_⟩
  have tG:=aH (o:=.lst []) nG0
  have eG:upd H G (.lst []) G=some (.lst (([]:List Str).map V.str)):=aA
  have nGt:G≠Dt:=Ne.symm (aD eDt nG0)
  have nGi:G≠Di:=Ne.symm (aD eDi nG0)
  have eDt0:=tG _ _ eDt
  have eDi0:=tG _ _ eDi
  have cut3:∀{H':Hp} {b:Addr} {o:HO},b≠Dt→b≠Di→b≠G→H' b=some o→bj [Dt,Di,G] H' b=some o:=fun h1 h2 h3 e=>dw e (by simp [h1,h2,h3])
  have keep:aW (bj [Dt,Di] H) (bj [Dt,Di,G] (upd H G (.lst []))):=fun b o e=>by
   have hb:b∉[Dt,Di]∧H b=some o:=by
    unfold bj at e
    split at e
    ·cases e
    ·rename_i h;exact⟨h,e⟩
   simp only [List.mem_cons,List.not_mem_nil,or_false,not_or] at hb
   have hg:b≠G:=aD hb.2 nG0
   exact cut3 hb.1.1 hb.1.2 hg (by rw [aM hg];exact hb.2)
  generalize upd H G (.lst [])=H0 at tG eG eDt0 eDi0 keep ⊢
  have lst2:∀{b:Addr} {o:HO},H b=some o→(∀ks,o≠.dK ks)→bj [Dt,Di,G] H0 b=some o:=fun {b o} e ho=>by
   refine keep b o (dw e ?_)
   simp only [List.mem_cons,List.not_mem_nil,or_false,not_or]
   exact⟨fun z=>by rw [z,eDt] at e;exact ho _ (Option.some.inj e).symm,fun z=>by rw [z,eDi] at e;exact ho _ (Option.some.inj e).symm⟩
  have eL0:=lst2 A.lst (by intro _ z;cases z)
  refine⟨_,rfl,L,rfl,⟨_,SqL.of (tG _ _ A.lst)⟩,?_⟩
  refine il (K:=K) (a:=L) (xs:=ra.map fun q=>V.ref q.2) (fun j σ H'=>(∃v5 v6,σ=[some (.ref Dt),some (.ref Di),some (.ref L),some (.ref W),some (.ref G),v5,v6])∧aW (bj [Dt,Di,G] H0) (bj [Dt,Di,G] H')∧∃tm' ik' R' gs,H' Dt=some (.dK (kvG V.int tm'))∧H' Di=some (.dK (kvG aG ik'))∧H' G=some (.lst (gs.map V.str))∧tm'.map (·.1)=N∧IntoOk ra ik'∧Rd1 p q ra N k j tm' ik' R'∧(gs=[]→∀i a,i <j→ra[i]?=some a→tF tm' a.1.fr+cW p q a≤tF tm' a.1.to)∧(∀g∈gs,R' g=k∧g∈N)∧(∀x,tF tm x≤tF tm' x)∧gs.length≤j∧(tm',wU (·.1) ik',gs)=gF p q ((ra.take j).map (·.1)) (tm,wU (·.1) ik,[])) ⟨⟨_,_,rfl⟩,aW.refl _,tm,ik,R,[],eDt0,eDi0,eG,hk,IO,rd,fun _ i a hi=>absurd hi (Nat.not_lt_zero _),by simp,fun _=>Int.le_refl _,Nat.le_refl _,rfl⟩ (fun j σ H' _ h=>SqL.of (bQ _ _ (h.2.1 _ _ eL0))) ?_ ?_
  ·rintro j x σ H' hx ⟨⟨v5,v6,rfl⟩,s',tm',ik',R',gs,eT,eI,eGs,hk',IO',rd',hgs,hR,hup,hgl,hgF⟩
   rw [List.getElem?_map] at hx
   obtain⟨a,haj,rfl⟩:=Option.map_eq_some_iff.mp hx
   have ham:=List.mem_of_getElem? haj
   have hj:=(List.getElem?_eq_some_iff.mp haj).1
   have lower:∀{b:Addr} {o:HO},H b=some o→(∀ks,o≠.dK ks)→H' b=some o:=fun e ho=>bQ _ _ (s' _ _ (lst2 e ho))
   have ea:=lower (A.at_ a ham) (by intro _ z;cases z)
   have eW:=lower eW (by intro _ z;cases z)
   obtain⟨tf,htf⟩:=Option.isSome_iff_exists.mp (qx.mpr (by rw [hk'];exact AI.fr a ham))
   obtain⟨tt,htt⟩:=Option.isSome_iff_exists.mp (qx.mpr (by rw [hk'];exact AI.to a ham))
   have g1:=kW eT a.1.fr
   have g2:=kW eT a.1.to
   rw [htf] at g1
   rw [htt] at g2
   have ef:tF tm' a.1.fr=tf:=by unfold tF;rw [htf];rfl
   have et:tF tm' a.1.to=tt:=by unfold tF;rw [htt];rfl
   refine hideG fun De hD u hu=>?_
   refine⟨_,rfl,_,rfl,a.2,_,0,_,rfl,rfl,SqT.of ea,aK (j:=0) rfl,Dt,_,rfl,g1,_,rfl,W,_,0,_,rfl,rfl,SqT.of eW,aK (j:=0) rfl,tf,p,rfl,rfl,_,rfl,W,_,1,_,rfl,rfl,SqT.of eW,aK (j:=1) rfl,_,rfl,a.2,_,2,_,rfl,rfl,SqT.of ea,aK (j:=2) rfl,q,a.1.tk,rfl,rfl,.of_left (intBits_le_64 (by omega) (by omega)),tf+p,q * a.1.tk,rfl,rfl,?_⟩
   subst hu
   subst hD
   refine⟨fun σ2 H2=>(∃v5 v6,σ2=[some (.ref Dt),some (.ref Di),some (.ref L),some (.ref W),some (.ref G),v5,v6])∧aW (bj [Dt,Di,G] H0) (bj [Dt,Di,G] H2)∧∃tm' ik' R' gs,H2 Dt=some (.dK (kvG V.int tm'))∧H2 Di=some (.dK (kvG aG ik'))∧H2 G=some (.lst (gs.map V.str))∧tm'.map (·.1)=N∧IntoOk ra ik'∧Rd1 p q ra N k (j+1) tm' ik' R'∧(gs=[]→∀i a,i <j+1→ra[i]?=some a→tF tm' a.1.fr+cW p q a≤tF tm' a.1.to)∧(∀g∈gs,R' g=k∧g∈N)∧(∀x,tF tm x≤tF tm' x)∧gs.length≤j+1∧(tm',wU (·.1) ik',gs)=gF p q ((ra.take (j+1)).map (·.1)) (tm,wU (·.1) ik,[]),?_,fun _ _ h=>h⟩
   refine⟨_,rfl,_,rfl,a.2,_,1,_,rfl,rfl,SqT.of ea,aK (j:=1) rfl,Dt,_,rfl,g2,_,rfl,tt,tf+p - q * a.1.tk,rfl,rfl,_,rfl,oH (fun h=>?_) (fun h=>?_)⟩
   ·have h:tt <tf+p - q * a.1.tk:=of_decide_eq_true h
    have ltm:tm'.length≤16:=by have:=congrArg List.length hk';rw [lM] at this;omega
    have lik:=IO'.len
    refine hideW fun De hD u hu=>?_
    refine⟨_,rfl,_,rfl,_,rfl,a.2,_,1,_,rfl,rfl,SqT.of ea,aK (j:=1) rfl,Dt,_,rfl,wV.k (k:=Sum.inr a.1.to) eT (by rw [sZ];omega),?_⟩
    rw [wH]
    have ea2:upd H' Dt (.dK (kvG V.int (eV tm' a.1.to (tf+p - q * a.1.tk)))) a.2=some (.tup (Bs a.1)):=rH eT ea (by intro _ z;cases z)
    have eI2:upd H' Dt (.dK (kvG V.int (eV tm' a.1.to (tf+p - q * a.1.tk)))) Di=some (.dK (kvG aG ik')):=by rw [aM (Ne.symm nDD)];exact eI
    have eG2:upd H' Dt (.dK (kvG V.int (eV tm' a.1.to (tf+p - q * a.1.tk)))) G=some (.lst (gs.map V.str)):=by rw [aM nGt];exact eGs
    have eT2:upd H' Dt (.dK (kvG V.int (eV tm' a.1.to (tf+p - q * a.1.tk)))) Dt=some (.dK (kvG V.int (eV tm' a.1.to (tf+p - q * a.1.tk)))):=aA
    have c2:bj [Dt,Di,G] (upd H' Dt (.dK (kvG V.int (eV tm' a.1.to (tf+p - q * a.1.tk)))))=bj [Dt,Di,G] H':=cj (by simp)
    generalize upd H' Dt (.dK (kvG V.int (eV tm' a.1.to (tf+p - q * a.1.tk))))=H2 at ea2 eI2 eG2 eT2 c2 ⊢
    have ea:=ea2
    refine bx (v:=u) hu fun u hu=>?_
    refine⟨_,rfl,_,rfl,_,rfl,a.2,_,1,_,rfl,rfl,SqT.of ea,aK (j:=1) rfl,Di,_,rfl,wV.k (k:=Sum.inr a.1.to) eI2 (by rw [sZ];omega),?_⟩
    rw [show V.ref a.2=aG a from rfl,wH]
    have ea3:upd H2 Di (.dK (kvG aG (eV ik' a.1.to a))) a.2=some (.tup (Bs a.1)):=rH eI2 ea (by intro _ z;cases z)
    have eT3:upd H2 Di (.dK (kvG aG (eV ik' a.1.to a))) Dt=some (.dK (kvG V.int (eV tm' a.1.to (tf+p - q * a.1.tk)))):=by rw [aM nDD];exact eT2
    have eG3:upd H2 Di (.dK (kvG aG (eV ik' a.1.to a))) G=some (.lst (gs.map V.str)):=by rw [aM nGi];exact eG2
    have eI3:upd H2 Di (.dK (kvG aG (eV ik' a.1.to a))) Di=some (.dK (kvG aG (eV ik' a.1.to a))):=aA
    have c3:bj [Dt,Di,G] (upd H2 Di (.dK (kvG aG (eV ik' a.1.to a))))=bj [Dt,Di,G] H2:=cj (by simp)
    generalize upd H2 Di (.dK (kvG aG (eV ik' a.1.to a)))=H3 at ea3 eT3 eG3 eI3 c3 ⊢
    have ea:=ea3
    subst hu
    refine⟨_,rfl,.inl ⟨rfl,_,SqL.of eG3⟩,_,rfl,a.2,_,1,_,rfl,rfl,SqT.of ea,aK (j:=1) rfl,G,_,_,rfl,rfl,eG3,by rw [lM];omega,?_⟩
    have es:gs.map V.str ++ [V.str a.1.to]=(gs ++ [a.1.to]).map V.str:=by rw [List.map_append];rfl
    have hgrow:tF tm' a.1.to <tF tm' a.1.fr+cW p q a:=by
     rw [ef,et]
     show tt <tf+(p - q * a.1.tk)
     omega
    have rg:=rd'.grow k1 haj hgrow (AI.fr a ham) (AI.to a ham)
    have eqv:tf+p - q * a.1.tk=tF tm' a.1.fr+cW p q a:=by
     rw [ef]
     show _=tf+(p - q * a.1.tk)
     omega
    subst hD
    refine⟨⟨_,_,rfl⟩,?_,eV tm' a.1.to (tf+p - q * a.1.tk),eV ik' a.1.to a,fun x=>if x=a.1.to then k else R' x,gs ++ [a.1.to],?_,?_,?_,?_,IO'.put ham,?_,?_,?_,?_,?_,?_⟩
    ·rw [cj (by simp),c3,c2]
     exact s'
    ·rw [aM (Ne.symm nGt)];exact eT3
    ·rw [aM (Ne.symm nGi)];exact eI3
    ·rw [aA,es]
    ·rw [yU (by rw [hk'];exact AI.to a ham)];exact hk'
    ·unfold Rd1
     rw [tF_put,fI_put,wI_put,eqv]
     exact rg
    ·intro z
     exact absurd z (by simp)
    ·intro g hg
     rcases List.mem_append.mp hg with h1 | h1
     ·obtain⟨h2,h3⟩:=hR g h1
      refine⟨?_,h3⟩
      dsimp only
      split
      ·rfl
      ·exact h2
     ·rw [List.mem_singleton] at h1
      subst h1
      exact⟨if_pos rfl,AI.to a ham⟩
    ·intro x
     rw [tF_put]
     dsimp only
     split
     ·rename_i e
      have:=hup x
      rw [e] at this ⊢
      omega
     ·exact hup x
    ·rw [lP,List.length_singleton];omega
    ·rw [gF_snoc haj,←hgF,mapG_put,eqv]
     unfold gS
     exact(if_pos hgrow).symm
   ·have h:¬tt <tf+p - q * a.1.tk:=fun z=>h (decide_eq_true z)
    have hsat:tF tm' a.1.fr+cW p q a≤tF tm' a.1.to:=by
     rw [ef,et]
     show tf+(p - q * a.1.tk)≤tt
     omega
    refine⟨⟨_,_,rfl⟩,s',tm',ik',R',gs,eT,eI,eGs,hk',IO',rd'.stay haj hsat,fun hg i b hi hb=>?_,hR,hup,by omega,by rw [gF_snoc haj,←hgF];unfold gS;exact(if_neg (Int.not_lt.mpr hsat)).symm⟩
    by_cases e:i=j
    ·subst e
     rw [haj] at hb
     cases hb
     exact hsat
    ·exact hgs hg i b (by omega) hb
  rintro σ H' ⟨⟨v5,v6,rfl⟩,s',tm',ik',R',gs,eT,eI,eGs,hk',IO',rd',hgs,hR,hup,hgl,hgF⟩
  rw [lM] at hgs rd' hgF
  rw [List.take_length] at hgF
  refine⟨_,rfl,kk _ G gs tm' ik' R' (fun b o e=>?_) eT eI eGs nG0 hk' IO' rd' (fun hg a ha=>?_) hR hup hgF⟩
  ·have h1:=s' _ _ (keep b o e)
   unfold bj at h1 ⊢
   split at h1
   ·cases h1
   ·rename_i h
    simp only [List.mem_cons,List.not_mem_nil,or_false,not_or] at h
    rw [if_neg (by simp [h.1,h.2.1])]
    exact h1
  ·obtain⟨i,hi,ei⟩:=List.mem_iff_getElem.mp ha
   exact hgs hg i a hi (by rw [List.getElem?_eq_getElem hi,ei])
structure RingA (p q:Int) (N:List Str) (ra as:List AA):Prop where
 ne:as≠[]
 mem:∀a∈as,a∈ra
 len:as.length≤N.length
 pos:0 <(as.map (cW p q)).sum
theorem fm_map (p q:Int) (ik:List (Str×AA)):∀{l:List Str},(∀y∈l,∃a,lkG ik y=some a)→(l.filterMap (lkG ik)).map (cW p q)=l.map (wI p q ik)∧(l.filterMap (lkG ik)).length=l.length
 | [],_=>⟨rfl,rfl⟩
 | y:: r,h=>by
  obtain⟨a,ha⟩:=h y List.mem_cons_self
  obtain⟨h1,h2⟩:=fm_map p q ik (l:=r) fun z hz=>h z (List.mem_cons_of_mem _ hz)
  rw [List.filterMap_cons_some ha]
  refine⟨?_,by rw [List.length_cons,List.length_cons,h2]⟩
  rw [List.map_cons,List.map_cons,h1]
  congr 1
  unfold wI
  rw [ha]
theorem ringA_of {p q:Int} {N:List Str} {ra:List AA} {ik:List (Str×AA)} {r:List Str} {T:Str→Int} (g:Rg.Good T (fI ik) (wI p q ik)) (dom:∀v u,fI ik v=some u→v∈N∧u∈N) (IO:IntoOk ra ik) (get:∀y∈r,∃a,lkG ik y=some a) (R:Rg.Round (fI ik) r) (ne:r≠[]):RingA p q N ra (r.reverse.filterMap (lkG ik)):=by
 obtain⟨h1,h2⟩:=fm_map p q ik (l:=r.reverse) fun y hy=>get y (List.mem_reverse.mp hy)
 rw [List.length_reverse] at h2
 refine⟨fun z=>ne ?_,fun a ha=>?_,?_,?_⟩
 ·rw [z] at h2
  exact List.length_eq_zero_iff.mp h2.symm
 ·obtain⟨y,_,e⟩:=List.mem_filterMap.mp ha
  exact(IO.ok _ (oU e)).1
 ·rw [h2]
  refine Rg.pR R.nd fun y hy=>?_
  obtain⟨a,ha⟩:=get y hy
  exact(dom y a.1.fr (by unfold fI;rw [ha];rfl)).1
 ·rw [h1,List.map_reverse,List.sum_reverse]
  exact g.pos r ne R
def zeros (names:List Str):List (Str×Int):=names.map fun x=>(x,0)
theorem Bf (names:List Str):(zeros names).map (·.1)=names:=by unfold zeros;rw [List.map_map];exact List.map_id _
theorem zeros_tF (names:List Str):tF (zeros names)=fun _=>0:=by
 funext x
 unfold tF
 cases e:lkG (zeros names) x with
 | none=>rfl
 | some v=>
  have:=oU e
  unfold zeros at this
  obtain⟨y,_,e2⟩:=List.mem_map.mp this
  cases e2
  rfl
def gN (p q:Int) (arcs:List Arc) (names:List Str):Nat→GSt
 | 0=>(zeros names,[],[])
 | k+1=>gF p q arcs ((gN p q arcs names k).1,(gN p q arcs names k).2.1,[])
def qg (p q:Int) (arcs:List Arc) (names:List Str) (tm:List (Str×Int)):Prop:=∃k,1≤k∧k≤names.length∧(∀i,1≤i→i <k→(gN p q arcs names i).2.2≠[])∧(gN p q arcs names k).2.2=[]∧tm=(gN p q arcs names k).1
def qJ (p q:Int) (arcs:List Arc) (names:List Str) (cs:List Arc):Prop:=(∀i,1≤i→i≤names.length→(gN p q arcs names i).2.2≠[])∧∃g0 gr,(gN p q arcs names names.length).2.2=g0:: gr∧xO (gN p q arcs names names.length).2.1 g0 cs
def Cyc (cs:List Arc):Prop:=∀i c,cs[i]?=some c→∃c',cs[if i=0 then cs.length - 1 else i - 1]?=some c'∧c.fr=c'.to
theorem qg.one {p q:Int} {arcs:List Arc} {names:List Str} {tm tm':List (Str×Int)} (h:qg p q arcs names tm) (h':qg p q arcs names tm'):tm=tm':=by
 obtain⟨k,k1,_,hk,e,rfl⟩:=h
 obtain⟨m,m1,_,hm,e',rfl⟩:=h'
 have:k=m:=by
  rcases Nat.lt_trichotomy k m with z | z | z
  ·exact absurd e (hm k k1 z)
  ·exact z
  ·exact absurd e' (hk m m1 z)
 rw [this]
theorem qJ.one {p q:Int} {arcs:List Arc} {names:List Str} {cs cs':List Arc} (h:qJ p q arcs names cs) (h':qJ p q arcs names cs'):cs=cs':=by
 obtain⟨_,g0,gr,e,r⟩:=h
 obtain⟨_,g1,gs,e',r'⟩:=h'
 rw [e] at e'
 cases e'
 exact r.one r'
theorem qg.no {p q:Int} {arcs:List Arc} {names:List Str} {tm:List (Str×Int)} {cs:List Arc} (h:qg p q arcs names tm) (h':qJ p q arcs names cs):False:=by
 obtain⟨k,k1,k2,_,e,_⟩:=h
 exact h'.1 k k1 k2 e
theorem ringIs_of {ik:List (Str×AA)} {x a:Str} {seen r:List Str} {j:Nat} (g:Rg.Gone (fI ik) x seen a) (ej:seen[j]?=some a) (er:r=seen.drop j):xO (wU (·.1) ik) x ((r.reverse.filterMap (lkG ik)).map (·.1)):=by
 rw [fI_arcs] at g
 refine⟨r,a,seen,j,g,ej,er,?_⟩
 rw [List.map_filterMap]
 congr 1
 funext y
 rw [yw]
def sp_times_or_ring (K:PySem.W.Frag):Sp:=fun vs H Q _=>∃(Ln L W:Addr) (names:List Str) (ra:List AA) (p q:Int),vs=[.ref Ln,.ref L,.ref W]∧H Ln=some (.lst (names.map V.str))∧names.Nodup∧1≤names.length∧names.length≤16∧ArcsR H L ra∧ra.length≤100∧H W=some (.tup [.int p,.int q])∧0≤q∧q≤1000000∧ArcsN names ra∧(∀H' T D tm,aW H H'→H' T=some (.tup [.str "times",.ref D])→H D=none→H' D=some (.dK (kvG V.int tm))→tm.map (·.1)=names→(∀a∈ra,tF tm a.1.fr+cW p q a≤tF tm a.1.to)→(∀x,0≤tF tm x)→qg p q (ra.map (·.1)) names tm→Q (.ref T) H')∧∀H' T Lr as,aW H H'→H' T=some (.tup [.str "ring",.ref Lr])→H Lr=none→ArcsR H' Lr as→RingA p q names ra as→qJ p q (ra.map (·.1)) names (as.map (·.1))→Cyc (as.map (·.1))→Q (.ref T) H'
theorem sc_times_or_ring:FnScope ["names", "arcs", "wish", "times", "name", "into", "grown", "count"] ["names", "arcs", "wish"] (az eZ):=⟨rfl,rfl,rfl,by decide +kernel,rfl,by decide +kernel,by decide +kernel⟩
theorem rY (T:Txt w K mg t):FnOk P w K mg base CX0 3 t.oG t.mX ["names", "arcs", "wish"] (sp_times_or_ring K):=by
 have sc:=sc_times_or_ring
 refine T.oA.ok sc (fun vs H Q E h=>?_) (fun cdv A outer s H vs Q E hr h=>?_)
 ·obtain⟨Ln,L,W,names,ra,p,q,rfl,_⟩:=h
  rfl
 ·obtain⟨Ln,L,W,names,ra,p,q,rfl,eLn,nd,n1,n16,A,hra,eW,q0,q1,AI,kT,kR⟩:=h
  refine⟨_,(au (aZ (i:=3) sc.nd rfl (Or.inl rfl) nM)
   (au (d9 PassesOwn.never rfl (dg (pv 0)) (bU (i:=4) sc.nd rfl (Or.inl rfl))
    (aB (kI hr.u1 (pv 3) (pv 4) aq rfl)))
   (au (aZ (i:=5) sc.nd rfl (Or.inl rfl) nM)
   (au (aZ (i:=6) sc.nd rfl (Or.inl rfl) (bO ak))
   (au (d9 PassesOwn.never rfl (gU rfl T.lV (aa (aV bN (by rfl) T.du cC (aa (pv 0) ak aj)) ak aX)) (bU (i:=7) sc.nd rfl (Or.inl rfl))
    (au (aZ (i:=6) sc.nd rfl (Or.inl rfl) (aJ (ok_grow_times T) (hr.mono (by decide)) (by rfl) T.m_grow_times T.yr.kp T.b_grow_times .nil aO (aa (pv 3) (aa (pv 5) (aa (pv 1) (aa (pv 2) ak aj) aj) aj) aj)))
    (aB (bT (bf iG (aV bN (by rfl) T.du cC (aa (pv 6) ak aj)) aq (bL _))
     (aB (aY (ie (aa bM (aa (pv 3) ak aj) ao))))
     bD))))
   (aB (aY (ie (aa bM (aa (aJ (ok_ring_into T) (hr.mono (by decide)) (by rfl) T.m_ring_into T.zF.kp T.b_ring_into .nil aO (aa (aQ bA (pv 6) aq (fun _ _=>rfl)) (aa (pv 5) ak aj) aF)) ak aX) ao))))))))),?_⟩
  have hz:sizeLine=16777216:=sizeLine_eq
  refine fun Dt nDt=>?_
  have sT:∀{kvs:List (Key×V)},aW H (upd H Dt (.dK kvs)):=aH nDt
  refine⟨_,rfl,Ln,rfl,⟨_,SqL.of (sT _ _ eLn)⟩,?_⟩
  refine il (K:=K) (a:=Ln) (xs:=names.map V.str) (fun j σ H'=>H'=upd H Dt (.dK (kvG V.int (zeros (names.take j))))∧∃v4,σ=[some (.ref Ln),some (.ref L),some (.ref W),some (.ref Dt),v4,none,none,none]) ⟨rfl,none,rfl⟩ (fun j σ H' _ ⟨e,_⟩=>by rw [e];exact SqL.of (sT _ _ eLn)) ?_ ?_
  ·rintro j x σ H' hx ⟨rfl,v4,rfl⟩
   rw [List.getElem?_map] at hx
   obtain⟨y,hy,rfl⟩:=Option.map_eq_some_iff.mp hx
   have nin:y∉(zeros (names.take j)).map (·.1):=by
    rw [Bf]
    have:=yH (f:=id) (xs:=names) (by rw [List.map_id];exact nd) hy
    rwa [List.map_id] at this
   refine⟨_,rfl,_,rfl,Dt,_,rfl,wV.k (k:=Sum.inr y) aA (by rw [sZ];unfold zeros;rw [lM,List.length_take];omega),?_,_,rfl⟩
   rw [qj,wH,vQ _ nin,List.take_succ,hy,Option.toList_some]
   unfold zeros
   rw [List.map_append]
   rfl
  rintro σ H1 ⟨rfl,v4,rfl⟩
  rw [lM,List.take_length]
  have s1:aW H (upd H Dt (.dK (kvG V.int (zeros names)))):=sT
  have eT:upd H Dt (.dK (kvG V.int (zeros names))) Dt=some (.dK (kvG V.int (zeros names))):=aA
  have c1:=yJ s1 nDt
  generalize upd H Dt (.dK (kvG V.int (zeros names)))=H1 at s1 eT c1 ⊢
  refine fun Di nDi=>?_
  have tI:=aH (o:=.dK []) nDi
  have eI:upd H1 Di (.dK []) Di=some (.dK (kvG aG ([]:List (Str×AA)))):=aA
  have eT2:=tI _ _ eT
  have nDD:Dt≠Di:=aD eT nDi
  have nDi0:H Di=none:=s1.free nDi
  have cc:∀{H':Hp},aW H H'→aW H (bj [Dt,Di] H'):=fun s b o e=>dw (s _ _ e) (by
   simp only [List.mem_cons,List.not_mem_nil,or_false,not_or]
   exact⟨aD e nDt,aD e nDi0⟩)
  have s2:=s1.trans tI
  generalize upd H1 Di (.dK [])=H2 at tI eI eT2 s2 ⊢
  refine⟨by show 0≤sizeLine;exact szl,fun G nG0=>?_⟩
  have tG:=aH (o:=.lst []) nG0
  have eG:upd H2 G (.lst []) G=some (.lst (([]:List Str).map V.str)):=aA
  have eT3:=tG _ _ eT2
  have eI3:=tG _ _ eI
  have s3:=s2.trans tG
  generalize upd H2 G (.lst [])=H3 at tG eG eT3 eI3 s3 ⊢
  refine⟨_,rfl,.ref Ln,names.length,rfl,.inl ⟨_,SqL.of (s3 _ _ eLn),by simp⟩,(names.length:Int),rfl,by omega,by omega,?_⟩
  rw [Int.toNat_natCast]
  refine oX (n:=names.length) (fun j σ H'=>∃(G:Addr) (gs:List Str) (tm:List (Str×Int)) (ik:List (Str×AA)) (R:Str→Nat),(∃v4 v7,σ=[some (.ref Ln),some (.ref L),some (.ref W),some (.ref Dt),v4,some (.ref Di),some (.ref G),v7])∧aW H (bj [Dt,Di] H')∧H' Dt=some (.dK (kvG V.int tm))∧H' Di=some (.dK (kvG aG ik))∧H' G=some (.lst (gs.map V.str))∧tm.map (·.1)=names∧IntoOk ra ik∧Rd1 p q ra names (j+1) 0 tm ik R∧(1≤j→gs≠[]∧∀g∈gs,R g=j∧g∈names)∧(∀x,0≤tF tm x)∧(tm,wU (·.1) ik,gs)=gN p q (ra.map (·.1)) names j∧∀i,1≤i→i≤j→(gN p q (ra.map (·.1)) names i).2.2≠[]) ⟨G,[],zeros names,[],fun _=>0,⟨_,_,rfl⟩,cc s3,eT3,eI3,eG,Bf _,⟨by simp,by simp⟩,?_,fun h=>absurd h (by omega),fun x=>by rw [zeros_tF];exact Int.le_refl _,rfl,fun i h1 h2=>absurd h1 (by omega)⟩ ?_ ?_
  ·have e1:fI ([]:List (Str×AA))=fun _=>none:=rfl
   have e2:wI p q ([]:List (Str×AA))=fun _=>0:=rfl
   unfold Rd1
   rw [zeros_tF,e1,e2]
   exact .start
  ·rintro j σ H' hj ⟨G,gs,tm,ik,R,⟨v4,v7,rfl⟩,s',eT,eI,eG,hk,IO,rd,hg,h0,hN,hM⟩
   have sH:=s'.trans bQ
   refine hideG fun De hD u hu=>?_
   refine⟨_,rfl,_,rfl,_,rfl,_,rfl,Dt,Di,L,W,p,q,names,ra,j+1,tm,ik,R,rfl,eT,eI,nDD,A.same sH,sH _ _ eW,q0,q1,hra,n16,AI,hk,IO,by omega,rd,fun H5 G5 gs5 tm5 ik5 R5 s5 eT5 eI5 eG5 nG5 hk5 IO5 rd5 hsat hR hup hF5=>?_⟩
   have hN5:(tm5,wU (·.1) ik5,gs5)=gN p q (ra.map (·.1)) names (j+1):=by
    rw [hF5]
    show _=gF p q (ra.map (·.1)) ((gN p q (ra.map (·.1)) names j).1,(gN p q (ra.map (·.1)) names j).2.1,[])
    rw [←hN]
   have h05:∀x,0≤tF tm5 x:=fun x=>Int.le_trans (h0 x) (hup x)
   subst hu
   refine⟨_,rfl,.ref G5,gs5.length,rfl,.inl ⟨_,SqL.of eG5,by simp⟩,rfl,_,rfl,?_⟩
   have s6:aW H (bj [Dt,Di] H5):=s'.trans s5
   cases gs5 with
   | nil=>
    subst hD
    refine uK rfl ⟨_,rfl,by show 2≤sizeLine;exact szl,fun T' nT=>?_⟩
    have tT:=aH (o:=.tup [.str "times",.ref Dt]) nT
    exact kT _ T' Dt tm5 (s6.trans (bQ.trans tT)) aA nDt (tT _ _ eT5) hk5 (hsat rfl) h05 ⟨j+1,by omega,by omega,fun i h1 h2=>hM i h1 (by omega),by rw [←hN5],by rw [←hN5]⟩
   | cons g0 gr=>
    refine cY (by show ¬V.int (((gr.length+1:Nat):Int))=V.int 0;intro z;cases z) ?_
    subst hD
    exact⟨G5,g0:: gr,tm5,ik5,R5,⟨_,_,rfl⟩,s6,eT5,eI5,eG5,hk5,IO5,rd5.next,fun _=>⟨by simp,hR⟩,h05,hN5,fun i h1 h2=>if z:i=j+1 then by rw [z,←hN5];simp else hM i h1 (by omega)⟩
  rintro σ H' ⟨G,gs,tm,ik,R,⟨v4,v7,rfl⟩,s',eT,eI,eG,hk,IO,rd,hg,h0,hN,hM⟩
  obtain⟨hne,hR⟩:=hg n1
  cases gs with
  | nil=>exact absurd rfl hne
  | cons g0 gr=>
   obtain⟨r0,m0⟩:=hR g0 List.mem_cons_self
   have sH:=s'.trans bQ
   have A':=A.same sH
   have lik:=IO.len
   refine⟨_,rfl,G,_,0,_,rfl,rfl,SqL.of eG,aK (j:=0) rfl,_,rfl,g0,Di,ik,rfl,eI,IO.nd,by omega,fun e he=>A'.at_ _ (IO.ok e he).1,fun H6 L6 r a seen s6 nL6 A6 g get hc=>⟨by show 2≤sizeLine;exact szl,fun T' nT=>?_⟩⟩
   have tT:=aH (o:=.tup [.str "ring",.ref L6]) nT
   have stop:a∈seen:=g.deep rd.src rd.dom m0 (by rw [r0];exact Nat.le_refl _) (hc.elim (fun⟨_,ej,_⟩=>.inl (List.mem_of_getElem? ej)) fun h=>.inr h.2.1)
   rcases hc with ⟨j,ej,er⟩ | ⟨hn,_,_⟩
   ·have Rr:=g.round ej
    rw [←er] at Rr
    have ri:=ringIs_of g ej er
    exact kR _ T' L6 _ (sH.trans (s6.trans tT)) aA (sH.free nL6) (A6.same tT) (ringA_of rd.good rd.dom IO get Rr.1 Rr.2) ⟨hM,g0,gr,by rw [←hN],by rw [←hN];exact ri⟩ (ri.ok fun y c e=>by
     rw [yw] at e
     obtain⟨q',hq',rfl⟩:=Option.map_eq_some_iff.mp e
     exact(IO.ok _ (oU hq')).2).2.2
   ·exact absurd stop hn
abbrev big:Int:=10 ^ 60
theorem big_nat {a:Int} (h0:0≤a) (h1:a <big):a.natAbs <2 ^ 200:=by
 have:(10:Int) ^ 60 <2 ^ 200:=by decide
 unfold big at h1
 omega
theorem div60 {i j:Int} (h0:0 <j) (h1:j <big):CDivB i j:=⟨h0,Nat.lt_trans ((Nat.log2_lt (by omega)).mpr (big_nat (Int.le_of_lt h0) h1)) (by decide)⟩
theorem wM {a b:Int} (hb:0 <b):0 <(Int.gcd a b:Int):=by
 have:0 <Int.gcd a b:=Nat.pos_of_ne_zero fun e=>by
  have:=(Int.gcd_eq_zero_iff.mp e).2
  omega
 omega
theorem gcd_le {a b:Int} (hb:0 <b):(Int.gcd a b:Int)≤b:=Int.le_of_dvd hb (Int.gcd_dvd_right ..)
theorem red {a b:Int} (hb:0 <b):(a / Int.gcd a b) * b=a * (b / Int.gcd a b):=by
 have g0:=wM (a:=a) hb
 obtain⟨x,hx⟩:(Int.gcd a b:Int) ∣ a:=Int.gcd_dvd_left ..
 obtain⟨y,hy⟩:(Int.gcd a b:Int) ∣ b:=Int.gcd_dvd_right ..
 have e1:a / Int.gcd a b=x:=by
  conv=>lhs;lhs;rw [hx]
  exact Int.mul_ediv_cancel_left _ (by omega)
 have e2:b / Int.gcd a b=y:=by
  conv=>lhs;lhs;rw [hy]
  exact Int.mul_ediv_cancel_left _ (by omega)
 rw [e1,e2]
 conv=>lhs;rw [hy]
 conv=>rhs;rw [hx]
 generalize (Int.gcd a b:Int)=g
 rw [Int.mul_left_comm,Int.mul_assoc]
def sp_greatest_divisor:Sp:=fun vs H Q _=>∃a b:Int,vs=[.int a,.int b]∧0≤a∧0≤b∧Q (.int (Int.gcd a b)) H
theorem sc_greatest_divisor:FnScope ["one", "other", "left"] ["one", "other"] (az dj):=⟨rfl,rfl,rfl,by decide +kernel,rfl,by decide +kernel,by decide +kernel⟩
theorem ok_greatest_divisor (T:Txt w K mg t):FnOk P w K mg base CX0 1 t.kY t.iZ ["one", "other"] (sp_greatest_divisor):=by
 have sc:=sc_greatest_divisor
 refine T.pP.ok sc (fun vs H Q E h=>?_) (fun cdv A outer s H vs Q E hr h=>?_)
 ·obtain⟨a,b,rfl,_⟩:=h
  rfl
 ·obtain⟨a,b,rfl,h0,h1,k⟩:=h
  refine⟨_,(au (rR PassesOwn.never (bf op_gt (pv 1) aq (bL _))
    (au (aZ (i:=2) sc.nd rfl (Or.inl rfl) (bw cB (pv 0) (pv 1)))
    (au (aZ (i:=0) sc.nd rfl (Or.inl rfl) (pv 1))
    (aB (aZ (i:=1) sc.nd rfl (Or.inl rfl) (pv 2))))))
   (aB (aY (pv 0)))),?_⟩
  refine rO (fun σ H'=>∃(m n:Nat) (l:Option V),σ=[some (.int m),some (.int n),l]∧H'=H∧Nat.gcd m n=Int.gcd a b) (fun σ _=>match σ with | [_,some (.int n),_]=>n.toNat | _=>0)
   ⟨a.toNat,b.toNat,none,by rw [Int.toNat_of_nonneg h0,Int.toNat_of_nonneg h1];rfl,rfl,by rw [Int.gcd];congr 1 <;> omega⟩ ?_ ?_
  ·rintro σ H' ⟨m,n,l,rfl,rfl,hg⟩
   refine⟨_,rfl,_,_,rfl,rfl,_,rfl,?_⟩
   refine oH (fun hn=>?_) (fun hn=>?_)
   ·have hn':(0:Int) <(n:Int):=of_decide_eq_true hn
    refine⟨_,rfl,_,rfl,_,_,rfl,rfl,hn',_,rfl,_,rfl,?_⟩
    refine⟨⟨n,m % n,_,rfl,rfl,?_⟩,?_⟩
    ·rw [←hg,Nat.gcd_comm m n,Nat.gcd_rec n m,Nat.gcd_comm]
    ·show((m:Int) % (n:Int)).toNat <(n:Int).toNat
     have:=Int.emod_lt_of_pos (m:Int) hn'
     have:=Int.emod_nonneg (m:Int) (show(n:Int)≠0 by omega)
     omega
   ·have hn':¬(0:Int) <(n:Int):=fun z=>hn (decide_eq_true z)
    have e:n=0:=by omega
    subst e
    refine⟨_,rfl,?_⟩
    rw [Nat.gcd_zero_right] at hg
    rw [hg]
    exact k
  ·intro σ H' Q' Q'' hm hq
   obtain⟨v,e,i,j,e1,e2,c,e3,q⟩:=hq
   exact⟨v,e,i,j,e1,e2,c,e3,hm _ _ q⟩
def sp_least_terms:Sp:=fun vs H Q _=>∃a b:Int,vs=[.int a,.int b]∧0≤a∧0 <b∧b <big∧∀p,H p=none→Q (.ref p) (upd H p (.tup [.int (a / Int.gcd a b),.int (b / Int.gcd a b)]))
theorem sc_least_terms:FnScope ["top", "bottom", "divisor"] ["top", "bottom"] (az gY):=⟨rfl,rfl,rfl,by decide +kernel,rfl,by decide +kernel,by decide +kernel⟩
theorem ok_least_terms (T:Txt w K mg t):FnOk P w K mg base CX0 2 t.qK t.p7 ["top", "bottom"] (sp_least_terms):=by
 have sc:=sc_least_terms
 refine T.wZ.ok sc (fun vs H Q E h=>?_) (fun cdv A outer s H vs Q E hr h=>?_)
 ·obtain⟨a,b,rfl,_⟩:=h
  rfl
 ·obtain⟨a,b,rfl,h0,h1,h2,k⟩:=h
  refine⟨_,(au (aZ (i:=2) sc.nd rfl (Or.inl rfl) (aJ (ok_greatest_divisor T) (hr.mono (by decide)) (by rfl) T.m_greatest_divisor T.pP.kp T.b_greatest_divisor .nil aO (aa (pv 0) (aa (pv 1) ak aj) aj)))
   (aB (aY (ie (aa (bw Bt (pv 0) (pv 2)) (aa (bw Bt (pv 1) (pv 2)) ak bW) bW))))),?_⟩
  have g0:=wM (a:=a) h1
  have g1:=gcd_le (a:=a) h1
  refine⟨_,rfl,_,rfl,a,b,rfl,h0,by omega,?_⟩
  exact⟨_,rfl,_,rfl,_,_,rfl,rfl,div60 g0 (by omega),_,rfl,_,rfl,_,_,rfl,rfl,div60 g0 (by omega),by show 2≤sizeLine;decide,k⟩
def ig (as:List AA):Int:=(as.map fun a=>a.1.tk).sum
theorem sum_bnd:∀{l:List Int},(∀x∈l,0≤x∧x≤1000000)→0≤l.sum∧l.sum≤1000000 * (l.length:Int)
 | [],_=>by simp
 | a:: r,h=>by
  obtain⟨h1,h2⟩:=sum_bnd (l:=r) fun x hx=>h x (List.mem_cons_of_mem _ hx)
  obtain⟨h3,h4⟩:=h a List.mem_cons_self
  rw [List.sum_cons,List.length_cons]
  omega
structure TkOk (as:List AA):Prop where
 len:as.length≤100
 tk:∀a∈as,0≤a.1.tk∧a.1.tk≤1000000
theorem TkOk.sum {as:List AA} (h:TkOk as):0≤ig as∧ig as≤100000000:=by
 obtain⟨h1,h2⟩:=sum_bnd (l:=as.map fun a=>a.1.tk) fun x hx=>by
  obtain⟨a,ha,rfl⟩:=List.mem_map.mp hx
  exact h.tk a ha
 rw [lM] at h2
 have:=h.len
 unfold ig
 omega
def sp_tokens_of (K:PySem.W.Frag):Sp:=fun vs H Q _=>∃(L:Addr) (as:List AA),vs=[.ref L]∧ArcsR H L as∧TkOk as∧∀H',aW H H'→Q (.int (ig as)) H'
theorem sc_tokens_of:FnScope ["ring"] ["ring"] (az iD):=⟨rfl,rfl,rfl,by decide +kernel,rfl,by decide +kernel,by decide +kernel⟩
theorem ok_tokens_of (T:Txt w K mg t):FnOk P w K mg base CX0 1 t.uN t.sO ["ring"] (sp_tokens_of K):=by
 have sc:=sc_tokens_of
 refine T.zT.ok sc (fun vs H Q E h=>?_) (fun cdv A outer s H vs Q E hr h=>?_)
 ·obtain⟨L,as,rfl,_⟩:=h
  rfl
 ·obtain⟨L,as,rfl,A,ok,k⟩:=h
  refine⟨_,(aB (aY (aV (call_sum rfl) (by rfl) T.n_sum bt_sum (aa (iR [] ["ring"] (az iD) rfl (dg (pv 0)) (fun _ _ _ _ _=>mD) (fun _ _ _ _ _=>(aQ (kO (K:=K) rfl) (pv 0) aq (fun _ _=>rfl)))) ak gP)))),?_⟩
  have hz:sizeLine=16777216:=sizeLine_eq
  have ol:=ok.len
  refine⟨_,rfl,L,rfl,⟨_,SqL.of A.lst⟩,?_⟩
  refine gG (K:=K) (a:=L) (xs:=as.map fun q=>V.ref q.2) (fun i ys H2=>H2=H∧ys=((as.take i).map fun a=>a.1.tk).map V.int) (by rw [lM];omega) ⟨rfl,rfl⟩ (fun i ys H2 ⟨_,e⟩=>by rw [e,lM,lM,List.length_take];omega) (fun i ys H2 _ ⟨e,_⟩=>by rw [e];exact SqL.of A.lst) ?_ ?_
  ·rintro i x ys H2 hx ⟨rfl,rfl⟩
   obtain⟨q,hq,rfl,eq⟩:=A.get hx
   refine yes ⟨_,rfl,q.2,_,2,_,rfl,rfl,SqT.of eq,aK (j:=2) rfl,rfl,?_⟩
   rw [List.take_succ,hq,Option.toList_some,List.map_append,List.map_append]
   rfl
  rintro ys H2 ⟨rfl,rfl⟩ D nD
  rw [lM,List.take_length]
  refine⟨D,as.map (fun a:AA=>a.1.tk),rfl,SqL.of aA,fun x hx=>?_,by rw [lM];omega,k _ (aH nD)⟩
  obtain⟨a,ha,rfl⟩:=List.mem_map.mp hx
  exact ok.tk a ha
def sp_fraction_of (K:PySem.W.Frag):Sp:=fun vs H Q _=>∃(L:Addr) (as:List AA),vs=[.ref L]∧ArcsR H L as∧TkOk as∧as≠[]∧∀H' F,aW H H'→H' F=some (.tup [.int (ig as / Int.gcd (ig as) (as.length:Nat)),.int ((as.length:Nat) / Int.gcd (ig as) (as.length:Nat))])→Q (.ref F) H'
theorem sc_fraction_of:FnScope ["ring"] ["ring"] (az gW):=⟨rfl,rfl,rfl,by decide +kernel,rfl,by decide +kernel,by decide +kernel⟩
theorem pY (T:Txt w K mg t):FnOk P w K mg base CX0 3 t.rC t.pK ["ring"] (sp_fraction_of K):=by
 have sc:=sc_fraction_of
 refine T.m6.ok sc (fun vs H Q E h=>?_) (fun cdv A outer s H vs Q E hr h=>?_)
 ·obtain⟨L,as,rfl,_⟩:=h
  rfl
 ·obtain⟨L,as,rfl,A,ok,ne,k⟩:=h
  refine⟨_,(aB (aY (aJ (ok_least_terms T) (hr.mono (by decide)) (by rfl) T.m_least_terms T.wZ.kp T.b_least_terms .nil aO (aa (aJ (ok_tokens_of T) (hr.mono (by decide)) (by rfl) T.m_tokens_of T.zT.kp T.b_tokens_of .nil aO (aa (pv 0) ak aj)) (aa (aV bN (by rfl) T.du cC (aa (pv 0) ak aj)) ak aX) aX)))),?_⟩
  have ol:=ok.len
  have h1:1≤as.length:=by
   cases as with
   | nil=>exact absurd rfl ne
   | cons a r=>simp
  have hb:(100:Int) <big:=by decide
  refine⟨_,rfl,L,as,rfl,A,ok,fun H1 s1=>?_⟩
  refine⟨_,rfl,.ref L,as.length,rfl,.inl ⟨_,SqL.of (s1 _ _ A.lst),by simp⟩,ig as,(as.length:Nat),rfl,ok.sum.1,by omega,by omega,fun F nF=>?_⟩
  exact k _ F (s1.trans (aH nF)) aA
def lS (lt:List (Str×Int)) (a:Arc):List (Str×Int):=match lkG lt a.fr with
 | none=>lt
 | some v=>if v+a.tk <(lkG lt a.to).getD (v+a.tk+1) then eV lt a.to (v+a.tk) else lt
def lF (arcs:List Arc) (lt:List (Str×Int)):List (Str×Int):=arcs.foldl lS lt
def lN (arcs:List Arc) (s:Str):Nat→List (Str×Int)
 | 0=>[(s,0)]
 | k+1=>lF arcs (lN arcs s k)
def Less (l m:List (Str×Int)):Prop:=∀x v,lkG l x=some v→∃u,lkG m x=some u∧u≤v
theorem Less.refl (l:List (Str×Int)):Less l l:=fun _ v h=>⟨v,h,Int.le_refl _⟩
theorem Less.trans {l m n:List (Str×Int)} (h:Less l m) (g:Less m n):Less l n:=fun x v e=>by
 obtain⟨u,e1,h1⟩:=h x v e
 obtain⟨w,e2,h2⟩:=g x u e1
 exact⟨w,e2,Int.le_trans h2 h1⟩
theorem Bv (lt:List (Str×Int)) (a:Arc):lS lt a=lt∨∃v,lkG lt a.fr=some v∧lS lt a=eV lt a.to (v+a.tk)∧∀u,lkG lt a.to=some u→v+a.tk <u:=by
 unfold lS
 cases e:lkG lt a.fr with
 | none=>exact .inl rfl
 | some v=>
  dsimp only
  split
  ·rename_i h
   refine .inr ⟨v,rfl,rfl,fun u eu=>?_⟩
   rw [eu] at h
   exact h
  ·exact .inl rfl
theorem lS_less (lt:List (Str×Int)) (a:Arc):Less lt (lS lt a):=by
 rcases Bv lt a with h | ⟨v,_,h,hu⟩
 ·rw [h];exact .refl _
 ·rw [h]
  intro x w e
  rw [qe]
  split
  ·rename_i z
   subst z
   exact⟨_,rfl,Int.le_of_lt (hu w e)⟩
  ·exact⟨w,e,Int.le_refl _⟩
theorem Ab:∀(arcs:List Arc) (lt:List (Str×Int)),Less lt (lF arcs lt)
 | [],lt=>.refl _
 | a:: r,lt=>(lS_less lt a).trans (Ab r (lS lt a))
theorem lS_step (lt:List (Str×Int)) (a:Arc) {v:Int} (h:lkG lt a.fr=some v):∃u,lkG (lS lt a) a.to=some u∧u≤v+a.tk:=by
 unfold lS
 rw [h]
 dsimp only
 split
 ·exact⟨_,by rw [qe,if_pos rfl],Int.le_refl _⟩
 ·rename_i hn
  cases e:lkG lt a.to with
  | none=>rw [e] at hn;exact absurd (show v+a.tk <v+a.tk+1 by omega) hn
  | some u=>rw [e] at hn;exact⟨u,rfl,by have:¬v+a.tk <u:=hn;omega⟩
theorem lF_step:∀{arcs:List Arc} {lt:List (Str×Int)} {a:Arc} {v:Int},a∈arcs→lkG lt a.fr=some v→∃u,lkG (lF arcs lt) a.to=some u∧u≤v+a.tk
 | b:: r,lt,a,v,ha,h=>by
  rcases List.mem_cons.mp ha with rfl | ha
  ·obtain⟨u,e,hu⟩:=lS_step lt a h
   obtain⟨w,e2,hw⟩:=Ab r (lS lt a) _ _ e
   exact⟨w,e2,Int.le_trans hw hu⟩
  ·obtain⟨u,e,hu⟩:=lS_less lt b _ _ h
   obtain⟨w,e2,hw⟩:=lF_step (arcs:=r) ha e
   exact⟨w,e2,by omega⟩
theorem lF_same:∀{arcs:List Arc} {lt:List (Str×Int)},Less (lF arcs lt) lt→lF arcs lt=lt
 | [],_,_=>rfl
 | a:: r,lt,h=>by
  have h0:lF (a:: r) lt=lF r (lS lt a):=rfl
  rcases Bv lt a with e | ⟨v,_,e,hu⟩
  ·rw [h0,e] at h ⊢
   exact lF_same h
  ·obtain⟨u,e1,h1⟩:=Ab r (lS lt a) a.to (v+a.tk) (by rw [e,qe,if_pos rfl])
   rw [h0] at h
   obtain⟨w,e2,h2⟩:=h _ _ e1
   have:=hu w e2
   omega
inductive Wk (arcs:List Arc) (s:Str):List Str→Str→Int→Prop
 | nil:Wk arcs s [] s 0
 | step {l:List Str} {c:Int} {a:Arc}:Wk arcs s l a.fr c→a∈arcs→Wk arcs s (a.fr:: l) a.to (c+a.tk)
section
variable {arcs:List Arc} {s:Str}
theorem Wk.cut (pos:∀a∈arcs,0≤a.tk) {l:List Str} {v:Str} {c:Int} (w:Wk arcs s l v c):∀{m n:List Str} {x:Str},l=m ++ x:: n→∃d,d≤c∧Wk arcs s n x d:=by
 induction w with
 | nil=>intro m n x e;simp at e
 | step w' ha ih=>
  rename_i l c a
  intro m n x e
  have:=pos a ha
  cases m with
  | nil=>
   simp only [List.nil_append,List.cons.injEq] at e
   obtain⟨e1,e2⟩:=e
   rw [←e1,←e2]
   exact⟨c,by omega,w'⟩
  | cons y m=>
   simp only [List.cons_append,List.cons.injEq] at e
   obtain⟨d,hd,w2⟩:=ih e.2
   exact⟨d,by omega,w2⟩
theorem Wk.short (pos:∀a∈arcs,0≤a.tk) {l:List Str} {v:Str} {c:Int} (w:Wk arcs s l v c):∃m d,Wk arcs s m v d∧d≤c∧(v:: m).Nodup:=by
 induction w with
 | nil=>exact⟨[],0,.nil,Int.le_refl _,by simp⟩
 | step w' ha ih=>
  rename_i l c a
  obtain⟨m,d,w2,hd,nd⟩:=ih
  have:=pos a ha
  by_cases h:a.to∈a.fr:: m
  ·rcases List.mem_cons.mp h with e | e
   ·rw [e]
    exact⟨m,d,w2,by omega,nd⟩
   ·obtain⟨m1,m2,rfl⟩:=List.append_of_mem e
    obtain⟨d2,h2,w3⟩:=w2.cut pos rfl
    refine⟨m2,d2,w3,by omega,?_⟩
    have:=(List.nodup_cons.mp nd).2
    exact(List.nodup_append.mp this).2.1
  ·exact⟨a.fr:: m,d+a.tk,.step w2 ha,by omega,List.nodup_cons.mpr ⟨h,nd⟩⟩
theorem Wk.mem {N:List Str} (hs:s∈N) (fr:∀a∈arcs,a.fr∈N) (to:∀a∈arcs,a.to∈N) {l:List Str} {v:Str} {c:Int} (w:Wk arcs s l v c):∀x∈v:: l,x∈N:=by
 induction w with
 | nil=>intro x hx;rw [List.mem_singleton] at hx;rw [hx];exact hs
 | step w' ha ih=>
  rename_i l c a
  intro x hx
  rcases List.mem_cons.mp hx with rfl | hx
  ·exact to a ha
  ·exact ih x hx
theorem Wk.low {l:List Str} {v:Str} {c:Int} (w:Wk arcs s l v c):∃u,lkG (lN arcs s l.length) v=some u∧u≤c:=by
 induction w with
 | nil=>exact⟨0,by show lkG [(s,0)] s=some 0;rw [fD,if_pos rfl],Int.le_refl _⟩
 | step w' ha ih=>
  rename_i l c a
  obtain⟨u,e,hu⟩:=ih
  obtain⟨x,ex,hx⟩:=lF_step ha e
  exact⟨x,ex,by omega⟩
theorem lS_wk {lt:List (Str×Int)} (h:∀x v,lkG lt x=some v→∃l,Wk arcs s l x v) {a:Arc} (ha:a∈arcs):∀x v,lkG (lS lt a) x=some v→∃l,Wk arcs s l x v:=by
 rcases Bv lt a with e | ⟨v,ev,e,_⟩
 ·rw [e];exact h
 ·rw [e]
  intro x w ew
  rw [qe] at ew
  split at ew
  ·rename_i z
   cases ew
   rw [z]
   obtain⟨l,wl⟩:=h _ _ ev
   exact⟨_,.step wl ha⟩
  ·exact h x w ew
theorem lF_wk:∀{r:List Arc} {lt:List (Str×Int)},(∀a∈r,a∈arcs)→(∀x v,lkG lt x=some v→∃l,Wk arcs s l x v)→∀x v,lkG (lF r lt) x=some v→∃l,Wk arcs s l x v
 | [],_,_,h=>h
 | a:: r,lt,hr,h=>lF_wk (r:=r) (fun b hb=>hr b (List.mem_cons_of_mem _ hb)) (lS_wk h (hr a List.mem_cons_self))
theorem lN_wk:∀k,∀x v,lkG (lN arcs s k) x=some v→∃l,Wk arcs s l x v
 | 0=>fun x v h=>by
  rw [show lN arcs s 0=[(s,0)] from rfl,fD] at h
  split at h
  ·rename_i z
   have z:s=x:=z
   cases h
   rw [←z]
   exact⟨[],.nil⟩
  ·cases h
 | k+1=>lF_wk (fun _ h=>h) (lN_wk k)
theorem lN_less {j k:Nat} (h:j≤k):Less (lN arcs s j) (lN arcs s k):=by
 induction k with
 | zero=>rw [Nat.le_zero.mp h];exact .refl _
 | succ k ih=>
  rcases Nat.lt_or_ge j (k+1) with z | z
  ·exact(ih (by omega)).trans (Ab arcs _)
  ·rw [Nat.le_antisymm h z];exact .refl _
theorem lN_fix {N:List Str} (pos:∀a∈arcs,0≤a.tk) (hs:s∈N) (fr:∀a∈arcs,a.fr∈N) (to:∀a∈arcs,a.to∈N):lF arcs (lN arcs s N.length)=lN arcs s N.length:=by
 refine lF_same fun x v e=>?_
 obtain⟨l,w⟩:=lN_wk (N.length+1) x v e
 obtain⟨m,d,w2,hd,nd⟩:=w.short pos
 have hl:=Rg.pR nd (w2.mem hs fr to)
 rw [List.length_cons] at hl
 obtain⟨u,e2,hu⟩:=w2.low
 obtain⟨z,e3,hz⟩:=lN_less (arcs:=arcs) (s:=s) (j:=m.length) (k:=N.length) (by omega) x u e2
 exact⟨z,e3,by omega⟩
theorem lN_stay {k:Nat} (h:lF arcs (lN arcs s k)=lN arcs s k):∀j,lN arcs s (k+j)=lN arcs s k
 | 0=>rfl
 | j+1=>by show lF arcs (lN arcs s (k+j))=_;rw [lN_stay h j,h]
theorem lN_meet {k n:Nat} (h:lF arcs (lN arcs s k)=lN arcs s k) (h':lF arcs (lN arcs s n)=lN arcs s n):lN arcs s k=lN arcs s n:=by
 rcases Nat.le_total k n with z | z
 ·have:=lN_stay h (n - k)
  rw [Nat.add_sub_cancel' z] at this
  exact this.symm
 ·have:=lN_stay h' (k - n)
  rw [Nat.add_sub_cancel' z] at this
  exact this
end
structure LtOk (N:List Str) (lt:List (Str×Int)):Prop where
 nd:(lt.map (·.1)).Nodup
 inN:∀x∈lt.map (·.1),x∈N
 v:∀e∈lt,0≤e.2∧e.2+1000000≤1000000 * (lt.length:Int)
def mvK (kvs:List (Key×V)) (x:Str):Nat:=match dY kvs (Sum.inr x) with
 | some (.int v)=>v.toNat
 | _=>17000000
def muK (N:List Str) (kvs:List (Key×V)):Nat:=(N.map (mvK kvs)).sum
theorem sum_lt {f g:Str→Nat}:∀{N:List Str},(∀x∈N,g x≤f x)→(∃x∈N,g x <f x)→(N.map g).sum <(N.map f).sum
 | [],_,h=>by obtain⟨x,hx,_⟩:=h;cases hx
 | a:: r,h,h2=>by
  have le:∀r:List Str,(∀x∈r,g x≤f x)→(r.map g).sum≤(r.map f).sum:=fun r=>by
   induction r with
   | nil=>intro _;exact Nat.le_refl _
   | cons b t ih=>
    intro q
    have h1:=q b List.mem_cons_self
    have h2:=ih fun x hx=>q x (List.mem_cons_of_mem _ hx)
    rw [List.map_cons,List.map_cons,List.sum_cons,List.sum_cons]
    omega
  have ha:=h a List.mem_cons_self
  have hr:=fun x hx=>h x (List.mem_cons_of_mem a hx)
  have l1:=le r hr
  rw [List.map_cons,List.map_cons,List.sum_cons,List.sum_cons]
  obtain⟨x,hx,hlt⟩:=h2
  rcases List.mem_cons.mp hx with rfl | hx
  ·omega
  ·have:=sum_lt hr ⟨x,hx,hlt⟩
   omega
theorem mvK_put (lt:List (Str×Int)) (x:Str) (v:Int) (y:Str):mvK (kvG V.int (eV lt x v)) y=if y=x then v.toNat else mvK (kvG V.int lt) y:=by
 unfold mvK
 rw [uq,uq,qe]
 by_cases h:y=x
 ·rw [if_pos h,if_pos h];rfl
 ·rw [if_neg h,if_neg h]
theorem LtOk.step {N:List Str} {lt:List (Str×Int)} (h:LtOk N lt) (hN:N.length≤16) {x y:Str} {v k:Int} (hx:lkG lt x=some v) (hy:y∈N) (k0:0≤k) (k1:k≤1000000) (hlt:∀w,lkG lt y=some w→v+k <w):
  LtOk N (eV lt y (v+k))∧muK N (kvG V.int (eV lt y (v+k))) <muK N (kvG V.int lt):=by
 obtain⟨v0,v1⟩:=h.v _ (oU hx)
 dsimp only at v0 v1
 have ll:=Rg.pR h.nd h.inN
 rw [lM] at ll
 have lp:lt.length≤(eV lt y (v+k)).length:=by
  by_cases hm:y∈lt.map (·.1)
  ·have:=congrArg List.length (yU (b:=v+k) hm)
   rw [lM,lM] at this
   omega
  ·rw [vQ _ hm,lP];omega
 refine⟨⟨putG_nd h.nd,fun z hz=>?_,fun e he=>?_⟩,sum_lt (fun z _=>?_) ⟨y,hy,?_⟩⟩
 ·obtain⟨e,he,rfl⟩:=List.mem_map.mp hz
  rcases Bb he with h1 | h1
  ·exact h.inN _ (List.mem_map.mpr ⟨e,h1,rfl⟩)
  ·rw [h1];exact hy
 ·rcases Bb he with h1 | h1
  ·have:=h.v e h1
   omega
  ·subst h1
   refine⟨by show 0≤v+k;omega,?_⟩
   show v+k+1000000≤_
   by_cases hm:y∈lt.map (·.1)
   ·obtain⟨w,hw⟩:=Option.isSome_iff_exists.mp (qx.mpr hm)
    have:=hlt w hw
    have:=(h.v _ (oU hw)).2
    dsimp only at this
    omega
   ·rw [vQ _ hm,lP,List.length_singleton]
    omega
 ·rw [mvK_put]
  split
  ·rename_i e
   subst e
   unfold mvK
   rw [uq]
   cases hw:lkG lt z with
   | none=>show(v+k).toNat≤17000000;omega
   | some w=>have:=hlt w hw;show(v+k).toNat≤w.toNat;omega
  ·exact Nat.le_refl _
 ·rw [mvK_put,if_pos rfl]
  unfold mvK
  rw [uq]
  cases hw:lkG lt y with
  | none=>show(v+k).toNat <17000000;omega
  | some w=>have:=hlt w hw;show(v+k).toNat <w.toNat;omega
def sp_least_tokens (K:PySem.W.Frag):Sp:=fun vs H Q _=>∃(L:Addr) (x:Str) (N:List Str) (ra:List AA),vs=[.ref L,.str x]∧ArcsR H L ra∧ra.length≤100∧ArcsIn N ra∧x∈N∧N.length≤16∧∀H' D lt,aW H H'→H D=none→H' D=some (.dK (kvG V.int lt))→LtOk N lt→lt=lN (ra.map (·.1)) x N.length→Q (.ref D) H'
theorem sc_least_tokens:FnScope ["arcs", "start", "least", "grown", "arc"] ["arcs", "start"] (az fP):=⟨rfl,rfl,rfl,by decide +kernel,rfl,by decide +kernel,by decide +kernel⟩
theorem ok_least_tokens (T:Txt w K mg t):FnOk P w K mg base CX0 1 t.pW t.nY ["arcs", "start"] (sp_least_tokens K):=by
 have sc:=sc_least_tokens
 refine T.uV.ok sc (fun vs H Q E h=>?_) (fun cdv A outer s H vs Q E hr h=>?_)
 ·obtain⟨L,x,N,ra,rfl,_⟩:=h
  rfl
 ·obtain⟨L,x,N,ra,rfl,A,hra,AI,hxN,hN,k⟩:=h
  refine⟨_,(au (aZ (i:=2) sc.nd rfl (Or.inl rfl) (pe_disp (BZ (pv 1) aq pps_nil) rfl rfl (by simp) (by decide)))
   (au (aZ (i:=3) sc.nd rfl (Or.inl rfl) fB)
   (au (rR PassesOwn.never (dM (pv 3))
    (au (aZ (i:=3) sc.nd rfl (Or.inl rfl) fB)
    (aB (d9 PassesOwn.never rfl (dg (pv 0)) (bU (i:=4) sc.nd rfl (Or.inl rfl))
     (aB (fj (bT (PW.pt (uy (qR (xK hr.u1 (aQ bJ (pv 4) aq (fun _ _=>rfl)) (pv 2))) (qw (bf rN (bw dm (dh hr.u1 (pv 2) (aQ bJ (pv 4) aq (fun _ _=>rfl)) (fun _ _=>rfl)) (aQ bJ (pv 4) aq (fun _ _=>rfl))) (pe_dget2 hr.u1 (pv 2) (aQ bJ (pv 4) aq (fun _ _=>rfl)) (bw dm (bw dm (dh hr.u1 (pv 2) (aQ bJ (pv 4) aq (fun _ _=>rfl)) (fun _ _=>rfl)) (aQ bJ (pv 4) aq (fun _ _=>rfl))) aq) ⟨rfl,rfl,rfl,rfl⟩) (bL _)))))
      (au (kI hr.u1 (pv 2) (aQ bJ (pv 4) aq (fun _ _=>rfl)) (bw dm (dh hr.u1 (pv 2) (aQ bJ (pv 4) aq (fun _ _=>rfl)) (fun _ _=>rfl)) (aQ bJ (pv 4) aq (fun _ _=>rfl))) rfl)
      (aB (aZ (i:=3) sc.nd rfl (Or.inl rfl) fB)))
      bD)))))))
   (aB (aY (pv 2)))))),?_⟩
  have hz:sizeLine=16777216:=sizeLine_eq
  refine fun D nD=>⟨_,rfl,aA,[((Sum.inr x:Key),V.int 0)],rfl,by show 1≤15;decide,?_⟩
  rw [qj]
  have c0:=yJ (aH (o:=.dK (my [] [((Sum.inr x:Key),V.int 0)])) nD) nD
  have e0:(upd H D (.dK (my [] [((Sum.inr x:Key),V.int 0)]))) D=some (.dK (kvG V.int [(x,0)])):=aA
  generalize upd H D (.dK (my [] [((Sum.inr x:Key),V.int 0)]))=H0 at c0 e0 ⊢
  have ok0:LtOk N [(x,0)]:=⟨by simp,by simpa using hxN,by simp⟩
  refine rO (fun σ H'=>aW H (bj [D] H')∧∃b v4 lt,σ=[some (.ref L),some (.str x),some (.ref D),some (.bl b),v4]∧H' D=some (.dK (kvG V.int lt))∧LtOk N lt∧(∃m,lt=lN (ra.map (·.1)) x m)∧(b=false→lF (ra.map (·.1)) lt=lt))
   (fun σ H'=>match σ with | [_,_,_,some (.bl b),_]=>(if b then 1 else 0)+2 * muK N (jkOf H' D) | _=>0) ⟨c0,true,none,_,rfl,e0,ok0,⟨0,rfl⟩,fun z=>by cases z⟩ ?_ ?_
  ·rintro σ H1 ⟨s1,b,v4,lt,rfl,eD,ok,⟨m,hm⟩,hfx⟩
   have sH:=s1.trans bQ
   cases b with
   | false=>exact⟨_,rfl,_,rfl,cQ ⟨_,rfl,k _ D lt sH nD eD ok (by rw [hm] at hfx ⊢;exact lN_meet (hfx rfl) (lN_fix (fun a ha=>by obtain⟨q,hq,rfl⟩:=List.mem_map.mp ha;exact AI.tk0 q hq) hxN (fun a ha=>by obtain⟨q,hq,rfl⟩:=List.mem_map.mp ha;exact AI.fr q hq) fun a ha=>by obtain⟨q,hq,rfl⟩:=List.mem_map.mp ha;exact AI.to q hq))⟩⟩
   | true=>
    refine⟨_,rfl,_,rfl,tV ?_⟩
    refine⟨_,rfl,L,rfl,⟨_,SqL.of (sH _ _ A.lst)⟩,?_⟩
    refine il (K:=K) (a:=L) (xs:=ra.map fun q=>V.ref q.2) (fun j σ H'=>aW H (bj [D] H')∧∃b v4 lt',σ=[some (.ref L),some (.str x),some (.ref D),some (.bl b),v4]∧H' D=some (.dK (kvG V.int lt'))∧LtOk N lt'∧lt'=lF ((ra.take j).map (·.1)) lt∧((b=false∧lt'=lt)∨(b=true∧muK N (kvG V.int lt') <muK N (kvG V.int lt)))) ⟨s1,false,v4,lt,rfl,eD,ok,rfl,.inl ⟨rfl,rfl⟩⟩ (fun j σ H' _ h=>SqL.of (bQ _ _ (h.1 _ _ A.lst))) ?_ ?_
    ·rintro j y σ H' hx ⟨s',b,v4,lt',rfl,eD',ok',hlF,hv⟩
     obtain⟨a,haj,rfl,ea⟩:=(A.same (s'.trans bQ)).get hx
     have ham:=List.mem_of_getElem? haj
     have hlS:lF ((ra.take (j+1)).map (·.1)) lt=lS lt' a.1:=by
      rw [hlF,List.take_succ,haj,Option.toList_some,List.map_append]
      unfold lF
      rw [List.foldl_append]
      rfl
     refine⟨fun σ2 H2=>aW H (bj [D] H2)∧∃b v4 lt',σ2=[some (.ref L),some (.str x),some (.ref D),some (.bl b),v4]∧H2 D=some (.dK (kvG V.int lt'))∧LtOk N lt'∧lt'=lF ((ra.take (j+1)).map (·.1)) lt∧((b=false∧lt'=lt)∨(b=true∧muK N (kvG V.int lt') <muK N (kvG V.int lt))),?_,fun _ _ h=>h⟩
     have g1:=kW eD' a.1.fr
     have g2:=kW eD' a.1.to
     refine⟨_,rfl,a.2,_,0,_,rfl,rfl,SqT.of ea,aK (j:=0) rfl,_,rfl,D,_,rfl,g1,_,rfl,?_⟩
     cases hf:lkG lt' a.1.fr with
     | none=>exact cQ (cQ ⟨s',b,_,lt',rfl,eD',ok',by rw [hlS];unfold lS;rw [hf],hv⟩)
     | some v=>
      rw [hf] at g1
      refine tV ?_
      refine⟨_,rfl,_,rfl,a.2,_,0,_,rfl,rfl,SqT.of ea,aK (j:=0) rfl,D,_,rfl,g1,_,rfl,a.2,_,2,_,rfl,rfl,SqT.of ea,aK (j:=2) rfl,v,a.1.tk,rfl,rfl,_,rfl,D,rfl,.inl ⟨_,.inl eD'⟩,_,rfl,a.2,_,1,_,rfl,rfl,SqT.of ea,aK (j:=1) rfl,_,rfl,_,rfl,a.2,_,0,_,rfl,rfl,SqT.of ea,aK (j:=0) rfl,D,_,rfl,g1,_,rfl,a.2,_,2,_,rfl,rfl,SqT.of ea,aK (j:=2) rfl,v,a.1.tk,rfl,rfl,v+a.1.tk,1,rfl,rfl,_,g2,?_⟩
      obtain⟨w,hw,hwg,hw2⟩:∃w:Int,((lkG lt' a.1.to).map V.int).getD (.int (v+a.1.tk+1))=.int w∧w=(lkG lt' a.1.to).getD (v+a.1.tk+1)∧(v+a.1.tk <w→∀u,lkG lt' a.1.to=some u→v+a.1.tk <u):=by
       cases e:lkG lt' a.1.to with
       | none=>exact⟨_,rfl,rfl,fun _ u z=>by cases z⟩
       | some u=>exact⟨u,rfl,rfl,fun h u' z=>by cases z;exact h⟩
      rw [hw]
      refine⟨v+a.1.tk,w,rfl,rfl,_,rfl,oH (fun h=>?_) (fun h=>?_)⟩
      ·have h:v+a.1.tk <w:=of_decide_eq_true h
       obtain⟨ok2,lt2⟩:=ok'.step hN hf (AI.to a ham) (AI.tk0 a ham) (AI.tk1 a ham) (hw2 h)
       have ll:=Rg.pR ok'.nd ok'.inN
       rw [lM] at ll
       refine⟨_,rfl,_,rfl,a.2,_,0,_,rfl,rfl,SqT.of ea,aK (j:=0) rfl,D,_,rfl,g1,_,rfl,a.2,_,2,_,rfl,rfl,SqT.of ea,aK (j:=2) rfl,v,a.1.tk,rfl,rfl,_,rfl,_,rfl,a.2,_,1,_,rfl,rfl,SqT.of ea,aK (j:=1) rfl,D,_,rfl,wV.k (k:=Sum.inr a.1.to) eD' (by rw [sZ];omega),?_⟩
       rw [wH]
       refine⟨by rw [cj (by simp)];exact s',true,_,eV lt' a.1.to (v+a.1.tk),rfl,aA,ok2,by rw [hlS];unfold lS;rw [hf];exact(if_pos (by rw [←hwg];exact h)).symm,.inr ⟨rfl,?_⟩⟩
       rcases hv with ⟨_,rfl⟩ | ⟨_,hv⟩
       ·exact lt2
       ·omega
      ·exact⟨s',b,_,lt',rfl,eD',ok',by rw [hlS];unfold lS;rw [hf];exact(if_neg (by rw [←hwg];exact fun z=>h (decide_eq_true z))).symm,hv⟩
    ·rintro σ H' ⟨s',b,v4',lt',rfl,eD',ok',hlF,hv⟩
     rw [lM,List.take_length] at hlF
     refine⟨⟨s',b,v4',lt',rfl,eD',ok',⟨m+1,by rw [hlF,hm];rfl⟩,fun z=>?_⟩,?_⟩
     ·rcases hv with ⟨_,e⟩ | ⟨e,_⟩
      ·rw [e] at hlF ⊢
       exact hlF.symm
      ·rw [e] at z;cases z
     show(if b=true then 1 else 0)+2 * muK N (jkOf _ D) <(if true=true then 1 else 0)+2 * muK N (jkOf _ D)
     rw [zZ eD',zZ eD]
     rcases hv with ⟨rfl,rfl⟩ | ⟨rfl,h⟩
     ·simp
     ·simp;omega
  ·intro σ H' Q' Q'' hm hq
   obtain⟨v,e,b,e2,q⟩:=hq
   exact⟨v,e,b,e2,hm _ _ q⟩
theorem Ao (ls:List LaneD) (ps:List PD) (hl:ls.length≤24) (hp:ps.length≤16):(cX ls ps).length≤64:=by
 unfold cX
 rw [lP,rT,lM]
 omega
def pS (as:List AA):Int:=ig as / Int.gcd (ig as) (as.length:Nat)
def qS (as:List AA):Int:=(as.length:Nat) / Int.gcd (ig as) (as.length:Nat)
theorem len_pos {as:List AA} (ne:as≠[]):1≤as.length:=by
 cases as with
 | nil=>exact absurd rfl ne
 | cons a r=>simp
theorem qS_pos {as:List AA} (ne:as≠[]):0 <qS as:=by
 have h1:=len_pos ne
 have g0:=wM (a:=ig as) (b:=(as.length:Nat)) (by omega)
 have g1:=gcd_le (a:=ig as) (b:=(as.length:Nat)) (by omega)
 unfold qS
 exact Int.ediv_pos_of_pos_of_dvd (by omega) (by omega) (Int.gcd_dvd_right ..)
theorem qS_ok {as:List AA} (ok:TkOk as) (ne:as≠[]):0≤qS as∧qS as≤1000000:=by
 refine⟨Int.le_of_lt (qS_pos ne),?_⟩
 have h1:=len_pos ne
 have g0:=wM (a:=ig as) (b:=(as.length:Nat)) (by omega)
 have h2:=ok.len
 have:qS as≤(as.length:Nat):=Int.ediv_le_self _ (by omega)
 omega
theorem sum_cW (p q:Int):∀as:List AA,(as.map (cW p q)).sum=p * (as.length:Int) - q * ig as
 | []=>by simp [ig]
 | a:: r=>by
  have ih:=sum_cW p q r
  have e:ig (a:: r)=a.1.tk+ig r:=rfl
  rw [List.map_cons,List.sum_cons,ih,e,List.length_cons,Int.mul_add]
  have:p * ((r.length+1:Nat):Int)=p * (r.length:Int)+p:=by rw [Int.natCast_add,Int.mul_add];simp
  rw [this]
  unfold cW
  omega
theorem lcm_tab:∀n:Fin 17,n.val=0∨((n.val:Int) * (720720 / (n.val:Int))=720720∧0 <720720 / (n.val:Int)):=by decide
structure RkOk (ra as:List AA):Prop where
 ne:as≠[]
 len:as.length≤16
 mem:∀a∈as,a∈ra
theorem RkOk.tk {N:List Str} {ra as:List AA} (h:RkOk ra as) (AI:ArcsIn N ra):TkOk as:=⟨by have:=h.len;omega,fun a ha=>⟨AI.tk0 a (h.mem a ha),AI.tk1 a (h.mem a ha)⟩⟩
theorem ring_less {N:List Str} {ra as as':List AA} (AI:ArcsIn N ra) (h:RkOk ra as) (h':RkOk ra as') (pos:0 <(as'.map (cW (pS as) (qS as))).sum):(ig as' * (720720 / (as'.length:Int))).toNat <(ig as * (720720 / (as.length:Int))).toNat:=by
 have l1:=len_pos h.ne
 have l2:=len_pos h'.ne
 have t0:=(h.tk AI).sum.1
 have t0':=(h'.tk AI).sum.1
 have hq:=qS_pos h.ne
 have hp:pS as * (as.length:Int)=ig as * qS as:=red (by omega)
 rw [sum_cW] at pos
 obtain⟨c1,d1⟩:=(lcm_tab ⟨as.length,by have:=h.len;omega⟩).resolve_left (by show ¬as.length=0;omega)
 obtain⟨c2,d2⟩:=(lcm_tab ⟨as'.length,by have:=h'.len;omega⟩).resolve_left (by show ¬as'.length=0;omega)
 dsimp only at c1 c2 d1 d2
 generalize pS as=p at *
 generalize qS as=q at *
 generalize ig as=a at *
 generalize ig as'=a' at *
 generalize 720720 / (as.length:Int)=c at *
 generalize 720720 / (as'.length:Int)=c' at *
 generalize (as.length:Int)=b at *
 generalize (as'.length:Int)=b' at *
 have e1:(q * a') * (c' * 720720) <(p * b') * (c' * 720720):=Int.mul_lt_mul_of_pos_right (by omega) (Int.mul_pos d2 (by decide))
 have e2:(p * b') * (c' * 720720)=(q * 720720) * (a * c):=by
  have x1:(p * b') * (c' * 720720)=p * (b' * c') * 720720:=by ac_rfl
  have x2:(q * 720720) * (a * c)=(a * q) * c * 720720:=by ac_rfl
  have x3:(p * b) * c * 720720=p * (b * c) * 720720:=by ac_rfl
  rw [x1,x2,←hp,x3,c1,c2]
 have e3:(q * a') * (c' * 720720)=(q * 720720) * (a' * c'):=by ac_rfl
 rw [e2,e3] at e1
 have e4:a' * c' <a * c:=Int.lt_of_mul_lt_mul_left e1 (by omega)
 have e5:0≤a' * c':=Int.mul_nonneg t0' (Int.le_of_lt d2)
 omega
def Am (H:Hp) (L:Addr):Nat:=match H L with
 | some (.lst xs)=>((xs.map fun v=>match v with | .ref q=>(match H q with | some (.tup (_:: _:: .int k:: _))=>k | _=>0) | _=>0).sum * (720720 / (xs.length:Int))).toNat
 | _=>0
theorem yl {H:Hp} {L:Addr} {as:List AA} (A:ArcsR H L as):Am H L=(ig as * (720720 / (as.length:Int))).toNat:=by
 unfold Am
 rw [A.lst]
 dsimp only
 rw [List.map_map,lM]
 congr 2
 unfold ig
 congr 1
 refine List.map_congr_left fun a ha=>?_
 dsimp only [Function.comp]
 rw [A.at_ a ha]
 rfl
theorem yR {ls:List LaneD} {ps:List PD} {ra:List AA} (F:Fit ls ps) (era:ra.map (·.1)=cX ls ps):ArcsIn (ps.map (·.name)) ra:=by
 have ono:(ps.flatMap (·.outs)).Nodup:=F.whole.outs.nodup_iff.mpr F.whole.nod
 have ini:(ps.flatMap (·.ins)).Nodup:=F.whole.ins.nodup_iff.mpr F.whole.nod
 have eo:∀l∈ls,gA (·.outs) ps l.name∈ps.map (·.name):=fun l hl=>by
  obtain⟨p,hp,lp⟩:=List.mem_flatMap.mp (F.whole.outs.mem_iff.mpr (List.mem_map.mpr ⟨l,hl,rfl⟩))
  rw [m7 ono hp lp]
  exact List.mem_map.mpr ⟨p,hp,rfl⟩
 have ei:∀l∈ls,gA (·.ins) ps l.name∈ps.map (·.name):=fun l hl=>by
  obtain⟨p,hp,lp⟩:=List.mem_flatMap.mp (F.whole.ins.mem_iff.mpr (List.mem_map.mpr ⟨l,hl,rfl⟩))
  rw [m7 ini hp lp]
  exact List.mem_map.mpr ⟨p,hp,rfl⟩
 have key:∀a∈ra,a.1.fr∈ps.map (·.name)∧a.1.to∈ps.map (·.name)∧0≤a.1.tk∧a.1.tk≤1000000:=fun a ha=>by
  have h1:a.1∈cX ls ps:=by rw [←era];exact List.mem_map.mpr ⟨a,ha,rfl⟩
  unfold cX at h1
  rcases List.mem_append.mp h1 with h | h
  ·obtain⟨l,hl,h⟩:=List.mem_flatMap.mp h
   obtain⟨r1,r2,r3,_⟩:=F.lok l hl
   unfold vh at h
   simp only [List.mem_cons,List.not_mem_nil,or_false] at h
   rcases h with h | h <;> rw [h]
   ·exact⟨eo l hl,ei l hl,by show(0:Int)≤(l.first.length:Nat);omega,by show((l.first.length:Nat):Int)≤_;omega⟩
   ·exact⟨ei l hl,eo l hl,by show(0:Int)≤l.room - (l.first.length:Nat);omega,by show l.room - ((l.first.length:Nat):Int)≤_;omega⟩
  ·obtain⟨p,hp,h⟩:=List.mem_map.mp h
   rw [←h]
   exact⟨List.mem_map.mpr ⟨p,hp,rfl⟩,List.mem_map.mpr ⟨p,hp,rfl⟩,by show(0:Int)≤1;decide,by show(1:Int)≤1000000;decide⟩
 exact⟨⟨fun a ha=>(key a ha).1,fun a ha=>(key a ha).2.1⟩,fun a ha=>(key a ha).2.2.1,fun a ha=>(key a ha).2.2.2⟩
def tokA (cs:List Arc):Int:=(cs.map (·.tk)).sum
def pA (cs:List Arc):Int:=tokA cs / Int.gcd (tokA cs) (cs.length:Nat)
def qA (cs:List Arc):Int:=(cs.length:Nat) / Int.gcd (tokA cs) (cs.length:Nat)
theorem tok_arcs (as:List AA):ig as=tokA (as.map (·.1)):=by unfold ig tokA;rw [List.map_map];rfl
theorem Ae (as:List AA):pS as=pA (as.map (·.1)):=by unfold pS pA;rw [tok_arcs,lM]
theorem Ac (as:List AA):qS as=qA (as.map (·.1)):=by unfold qS qA;rw [tok_arcs,lM]
def ShN (arcs:List Arc) (names:List Str):Nat→List Arc→Prop
 | 0,cs=>cs=arcs.getLast?.toList
 | m+1,cs=>∃ds,ShN arcs names m ds∧qJ (pA ds) (qA ds) arcs names cs
theorem ShN.one {arcs:List Arc} {names:List Str}:∀{m:Nat} {cs ds:List Arc},ShN arcs names m cs→ShN arcs names m ds→cs=ds
 | 0,_,_,h,h'=>h.trans h'.symm
 | m+1,_,_,⟨_,h1,h2⟩,⟨_,h3,h4⟩=>by
  rw [ShN.one h3 h1] at h4
  exact h2.one h4
theorem ShN.down {arcs:List Arc} {names:List Str} {m:Nat}:∀{n:Nat} {cs:List Arc},ShN arcs names n cs→m <n→∃ds es,ShN arcs names m ds∧qJ (pA ds) (qA ds) arcs names es
 | n+1,cs,⟨ds,h1,h2⟩,h=>by
  rcases Nat.eq_or_lt_of_le (Nat.le_of_lt_succ h) with z | z
  ·subst z;exact⟨ds,cs,h1,h2⟩
  ·exact h1.down z
def Af (arcs:List Arc) (names:List Str) (cs:List Arc) (tm:List (Str×Int)):Prop:=∃m,ShN arcs names m cs∧qg (pA cs) (qA cs) arcs names tm
theorem Af.one {arcs:List Arc} {names:List Str} {cs ds:List Arc} {tm tn:List (Str×Int)} (h:Af arcs names cs tm) (h':Af arcs names ds tn):cs=ds∧tm=tn:=by
 obtain⟨m,s,t⟩:=h
 obtain⟨n,s',t'⟩:=h'
 have e:m=n:=by
  rcases Nat.lt_trichotomy m n with z | z | z
  ·obtain⟨d1,e1,q1,q2⟩:=s'.down z
   rw [q1.one s] at q2
   exact(t.no q2).elim
  ·exact z
  ·obtain⟨d1,e1,q1,q2⟩:=s.down z
   rw [q1.one s'] at q2
   exact(t'.no q2).elim
 subst e
 have:=s.one s'
 subst this
 exact⟨rfl,t.one t'⟩
structure ShOk (ns:List Str) (ra as:List AA):Prop extends RkOk ra as where
 cyc:Cyc (as.map (·.1))
 le:ig as≤(as.length:Nat)
 sh:∃m,ShN (ra.map (·.1)) ns m (as.map (·.1))
structure TmOk (p q:Int) (ns:List Str) (ra:List AA) (tm:List (Str×Int)):Prop where
 keys:tm.map (·.1)=ns
 sat:∀a∈ra,tF tm a.1.fr+cW p q a≤tF tm a.1.to
 pos:∀x,0≤tF tm x
 is:qg p q (ra.map (·.1)) ns tm
theorem frac_le {as:List AA} (ne:as≠[]) (h:ig as≤(as.length:Nat)):pS as≤qS as:=by
 have h1:=len_pos ne
 have g0:=wM (a:=ig as) (b:=(as.length:Nat)) (by omega)
 unfold pS qS
 exact Int.ediv_le_ediv (by omega) h
theorem ShOk.next {ns:List Str} {ra as as2:List AA} (h:ShOk ns ra as) (hl:ns.length≤16) (r:RingA (pS as) (qS as) ns ra as2) (o:qJ (pS as) (qS as) (ra.map (·.1)) ns (as2.map (·.1))) (c:Cyc (as2.map (·.1))):ShOk ns ra as2:=by
 have hp:=frac_le h.ne h.le
 have hq:=qS_pos h.ne
 have pos:=r.pos
 rw [sum_cW] at pos
 obtain⟨m,hm⟩:=h.sh
 rw [Ae,Ac] at o
 refine⟨⟨r.ne,by have:=r.len;omega,r.mem⟩,c,Int.not_lt.mp fun z=>?_,m+1,_,hm,o⟩
 have h1:pS as * (as2.length:Int)≤qS as * (as2.length:Int):=Int.mul_le_mul_of_nonneg_right hp (by omega)
 have h2:qS as * (as2.length:Int)≤qS as * ig as2:=Int.mul_le_mul_of_nonneg_left (Int.le_of_lt z) (Int.le_of_lt hq)
 omega
structure Paper (H H':Hp) (R D1 D2:Addr) (ls:List LaneD) (ps:List PD) (as:List AA) (tm lt:List (Str×Int)):Prop where
 arcs:ArcsR H' R as
 nR:H R=none
 n1:H D1=none
 n2:H D2=none
 nD:D1≠D2
 e1:H' D1=some (.dK (kvG V.int tm))
 e2:H' D2=some (.dK (kvG V.int lt))
 ne:as≠[]
 len:as.length≤16
 mem:∀a∈as,a.1∈cX ls ps
 cyc:Cyc (as.map (·.1))
 le:ig as≤(as.length:Nat)
 keys:tm.map (·.1)=ps.map (·.name)
 pos:∀x,0≤tF tm x
 sat:∀a∈cX ls ps,tF tm a.fr+(pS as - qS as * a.tk)≤tF tm a.to
 is:Af (cX ls ps) (ps.map (·.name)) (as.map (·.1)) tm
 lok:LtOk (ps.map (·.name)) lt
 lt_:∀a r,as=a:: r→lt=lN (cX ls ps) a.1.fr (ps.map (·.name)).length
def sp_share (K:PySem.W.Frag) (t:Adr):Sp:=fun vs H Q _=>∃(n:Addr) (ls:List LaneD) (ps:List PD),vs=[.ref n]∧vW K t H n ls ps∧oddN ps=.non∧∀H' T R D1 D2 as tm lt,aW H H'→H' T=some (.tup [.int (pS as),.int (qS as),.ref R,.ref D1,.ref D2])→Paper H H' R D1 D2 ls ps as tm lt→Q (.ref T) H'
theorem sc_share:FnScope ["net", "arcs", "ring", "told", "fraction"] ["net"] (az wC):=⟨rfl,rfl,rfl,by decide +kernel,rfl,by decide +kernel,by decide +kernel⟩
theorem ok_share (T:Txt w K mg t):FnOk P w K mg base CX0 6 t.f_share t.Al ["net"] (sp_share K t):=by
 have sc:=sc_share
 refine T.F_share.ok sc (fun vs H Q E h=>?_) (fun cdv A outer s H vs Q E hr h=>?_)
 ·obtain⟨n,ls,ps,rfl,_⟩:=h
  rfl
 ·obtain⟨n,ls,ps,rfl,N,ho,k⟩:=h
  refine⟨_,(au (aZ (i:=1) sc.nd rfl (Or.inl rfl) (aJ (ok_arcs_of T) (hr.mono (by decide)) (by rfl) T.m_arcs_of T.F_arcs_of.kp T.b_arcs_of .nil aO (aa (pv 0) ak aj)))
   (au (aZ (i:=2) sc.nd rfl (Or.inl rfl) (bO (aa (aQ bA (pv 1) (pe_un un_neg aq) (fun _ _=>rfl)) ak aF)))
   (au (fj (aZ (i:=3) sc.nd rfl (Or.inl rfl) (aJ (rY T) (hr.mono (by decide)) (by rfl) T.uH T.oA.kp T.uE .nil aO (aa (rG (pv 0) T.cP T.lW (mC T) (hr.mono (by decide)) T.mR .nil aO) (aa (pv 1) (aa (aJ (pY T) (hr.mono (by decide)) (by rfl) T.qW T.m6.kp T.qM .nil aO (aa (pv 2) ak aj)) ak aX) aj) aX))))
   (au (rR PassesOwn.never (bf iG (aQ bJ (pv 3) aq (fun _ _=>rfl)) bM (bL _))
    (au (aZ (i:=2) sc.nd rfl (Or.inl rfl) (aQ bJ (pv 3) aq (fun _ _=>rfl)))
    (aB (aZ (i:=3) sc.nd rfl (Or.inl rfl) (aJ (rY T) (hr.mono (by decide)) (by rfl) T.uH T.oA.kp T.uE .nil aO (aa (rG (pv 0) T.cP T.lW (mC T) (hr.mono (by decide)) T.mR .nil aO) (aa (pv 1) (aa (aJ (pY T) (hr.mono (by decide)) (by rfl) T.qW T.m6.kp T.qM .nil aO (aa (pv 2) ak aj)) ak aX) aj) aX))))))
   (au (aZ (i:=4) sc.nd rfl (Or.inl rfl) (aJ (pY T) (hr.mono (by decide)) (by rfl) T.qW T.m6.kp T.qM .nil aO (aa (pv 2) ak aj)))
   (aB (aY (ie (aa (aQ bJ (pv 4) aq (fun _ _=>rfl)) (aa (aQ bJ (pv 4) aq (fun _ _=>rfl)) (aa (pv 2) (aa (aQ bJ (pv 3) aq (fun _ _=>rfl)) (aa (aJ (ok_least_tokens T) (hr.mono (by decide)) (by rfl) T.m_least_tokens T.uV.kp T.b_least_tokens .nil aO (aa (pv 1) (aa (aQ bJ (aQ bA (pv 2) aq (fun _ _=>rfl)) aq (fun _ _=>rfl)) ak aF) aj)) ak aX) aF) aj) aF) aF))))))))),?_⟩
  obtain⟨dx,fs,R,F,Pd,G,Tk,FL,PL,W⟩:=id N
  have hz:sizeLine=16777216:=sizeLine_eq
  have p16:=W.fit.p16
  have p1:=W.fit.p1
  refine hide fun u hu=>?_
  refine⟨_,rfl,n,ls,ps,rfl,N,.inl ⟨ho,fun H1 L ra s1 nL A era=>?_⟩⟩
  have hra:ra.length≤100:=by
   have:=congrArg List.length era
   rw [lM] at this
   rw [this]
   exact Nat.le_trans (Ao _ _ W.fit.l24 p16) (by decide)
  have AI:=yR W.fit era
  have en:ps.map (fun x=>V.str x.name)=(ps.map (·.name)).map V.str:=by rw [List.map_map];rfl
  obtain⟨ns,hns⟩:∃ns,ps.map (·.name)=ns:=⟨_,rfl⟩
  have n16:ns.length≤16:=by rw [←hns,lM];exact p16
  have n1:1≤ns.length:=by rw [←hns,lM];exact p1
  have nnd:ns.Nodup:=by rw [←hns];exact W.fit.pnd
  rw [hns] at AI en
  obtain⟨rb,la,hla⟩:∃rb la,ra=rb ++ [la]:=by
   have:ra≠[]:=fun z=>by
    rw [z] at era
    have:=congrArg List.length era
    unfold cX at this
    rw [lP,lM,lM,List.length_nil] at this
    omega
   exact⟨ra.dropLast,ra.getLast this,(List.dropLast_concat_getLast this).symm⟩
  have mla:la∈ra:=by rw [hla];simp
  refine bx (v:=u) hu fun u hu=>?_
  refine⟨_,rfl,_,rfl,L,_, -1,.ref la.2,rfl,rfl,SqL.of A.lst,by rw [hla,List.map_append];exact atI_last _ _,by show 1≤sizeLine;exact szl,fun R nR=>?_⟩
  have tR:=aH (o:=.lst [.ref la.2]) nR
  have AR:ArcsR (upd H1 R (.lst [.ref la.2])) R [la]:=⟨aA,fun q hq=>by rw [List.mem_singleton] at hq;subst hq;exact tR _ _ (A.at_ _ mla)⟩
  have rk0:RkOk ra [la]:=⟨by simp,by simp,fun a ha=>by rw [List.mem_singleton] at ha;subst ha;exact mla⟩
  have A:=A.same tR
  have s2:=s1.trans tR
  generalize upd H1 R (.lst [.ref la.2])=H2 at tR AR A s2 ⊢
  have nR0:H R=none:=s1.free nR
  have last:la.1.fr=la.1.to∧la.1.tk=1∧(ra.map (·.1)).getLast?.toList=[la.1]:=by
   have e1:(ra.map (·.1)).getLast?=some la.1:=by rw [hla,List.map_append];exact List.getLast?_concat ..
   refine⟨?_,?_,by rw [e1];rfl⟩
   all_goals
    rw [era] at e1
    unfold cX at e1
    have hne:ps≠[]:=fun z=>by rw [z] at p1;simp at p1
    rw [List.getLast?_append,List.getLast?_map,List.getLast?_eq_some_getLast hne] at e1
    have e2:selfA (ps.getLast hne)=la.1:=Option.some.inj e1
    rw [←e2]
    rfl
  have sk0:ShOk ns ra [la]:=⟨rk0,(fun i c hc=>by
   cases i with
   | zero=>cases hc;exact⟨la.1,rfl,last.1⟩
   | succ i=>cases hc),by show la.1.tk+0≤((1:Nat):Int);rw [last.2.1];decide,0,last.2.2.symm⟩
  refine bx (v:=u) hu fun u hu=>?_
  refine⟨fun σ H'=>aW H H'∧ArcsR H' L ra∧∃(R Td:Addr) (as:List AA),(∃v4,σ=[some (.ref n),some (.ref L),some (.ref R),some (.ref Td),v4])∧ArcsR H' R as∧H R=none∧ShOk ns ra as∧((∃D tm,H' Td=some (.tup [.str "times",.ref D])∧H D=none∧H' D=some (.dK (kvG V.int tm))∧TmOk (pS as) (qS as) ns ra tm)∨∃Lr as2,H' Td=some (.tup [.str "ring",.ref Lr])∧H Lr=none∧ArcsR H' Lr as2∧RingA (pS as) (qS as) ns ra as2∧qJ (pS as) (qS as) (ra.map (·.1)) ns (as2.map (·.1))∧Cyc (as2.map (·.1))),?_,?_⟩
  ·have Wx:=W.same s2
   refine⟨_,rfl,n,dx,fs,rfl,Wx.obj,Wx.fl.no _ (by decide +kernel),n,ls,ps,rfl,Wx.s,fun Ln nLn=>?_⟩
   rw [en]
   have tn:=aH (o:=.lst (ns.map V.str)) nLn
   have An:=A.same tn
   have ARn:=(AR).same tn
   have sn:=(s2).trans tn
   have eLn:upd H2 Ln (.lst (ns.map V.str)) Ln=some (.lst (ns.map V.str)):=aA
   generalize upd H2 Ln (.lst (ns.map V.str))=Hn at tn An ARn sn eLn ⊢
   refine⟨_,rfl,_,rfl,R,[la],rfl,ARn,(rk0).tk AI,(rk0).ne,fun Hf F sf eF=>?_⟩
   have qk:=qS_ok ((rk0).tk AI) (rk0).ne
   refine⟨Ln,L,F,ns,ra,pS [la],qS [la],rfl,sf _ _ eLn,nnd,n1,n16,An.same sf,hra,eF,qk.1,qk.2,AI.toArcsN,fun Hk Td D tm sk eTd nD eD hk hsat h0 hti=>?_,fun Hk Td Lx ax sk eTd nLr Ax RAx hro hcy=>?_⟩
   ·exact⟨sn.trans (sf.trans sk),An.same (sf.trans sk),R,Td,[la],⟨_,rfl⟩,ARn.same (sf.trans sk),nR0,sk0,.inl ⟨D,tm,eTd,(sn.trans sf).free nD,eD,⟨hk,hsat,h0,hti⟩⟩⟩
   ·exact⟨sn.trans (sf.trans sk),An.same (sf.trans sk),R,Td,[la],⟨_,rfl⟩,ARn.same (sf.trans sk),nR0,sk0,.inr ⟨Lx,ax,eTd,(sn.trans sf).free nLr,Ax,RAx,hro,hcy⟩⟩
  rintro σ H3 hJ
  refine bx (v:=u) hu fun u hu=>?_
  refine rO (fun σ H'=>aW H H'∧ArcsR H' L ra∧∃(R Td:Addr) (as:List AA),(∃v4,σ=[some (.ref n),some (.ref L),some (.ref R),some (.ref Td),v4])∧ArcsR H' R as∧H R=none∧ShOk ns ra as∧((∃D tm,H' Td=some (.tup [.str "times",.ref D])∧H D=none∧H' D=some (.dK (kvG V.int tm))∧TmOk (pS as) (qS as) ns ra tm)∨∃Lr as2,H' Td=some (.tup [.str "ring",.ref Lr])∧H Lr=none∧ArcsR H' Lr as2∧RingA (pS as) (qS as) ns ra as2∧qJ (pS as) (qS as) (ra.map (·.1)) ns (as2.map (·.1))∧Cyc (as2.map (·.1)))) (fun σ H'=>match σ with | [_,_,some (.ref R),_,_]=>Am H' R | _=>0) hJ ?_ ?_
  ·rintro σ H' ⟨s',A,R,Td,as,⟨v4,rfl⟩,AR,nR0,rk,hT⟩
   rcases hT with ⟨D,tm,eTd,nD,eD,tmk⟩ | ⟨Lr,as2,eTd,nLr0,A2,RA,hro,hcy⟩
   ·refine⟨_,rfl,Td,_,0,_,rfl,rfl,SqT.of eTd,aK (j:=0) rfl,rfl,_,rfl,cY (by decide +kernel) ?_⟩
    refine bx (v:=u) hu fun u hu=>?_
    refine⟨_,rfl,R,as,rfl,AR,rk.toRkOk.tk AI,rk.ne,fun H4 F s4 eF=>?_⟩
    obtain⟨a0,ar,has⟩:=List.exists_cons_of_ne_nil rk.ne
    have AR4:=AR.same s4
    have ma:a0∈as:=by rw [has];exact List.mem_cons_self
    have m0:=rk.mem a0 ma
    have l0:(as.map fun q=>V.ref q.2)[0]?=some (.ref a0.2):=by rw [has];rfl
    subst hu
    refine⟨_,rfl,F,_,0,_,rfl,rfl,SqT.of eF,aK (j:=0) rfl,_,rfl,F,_,1,_,rfl,rfl,SqT.of eF,aK (j:=1) rfl,_,rfl,_,rfl,Td,_,1,_,rfl,rfl,SqT.of (s4 _ _ eTd),aK (j:=1) rfl,_,rfl,_,rfl,R,_,0,_,rfl,rfl,SqL.of AR4.lst,aK (j:=0) l0,a0.2,_,0,_,rfl,rfl,SqT.of (AR4.at_ a0 ma),aK (j:=0) rfl,L,a0.1.fr,ns,ra,rfl,A.same s4,hra,AI,AI.fr a0 m0,n16,fun H5 D5 lt s5 nD5 eD5 ok5 hlt=>⟨by show 5≤sizeLine;exact szl,fun T' nT=>?_⟩⟩
    have tT:=aH (o:=.tup [.int (pS as),.int (qS as),.ref R,.ref D,.ref D5]) nT
    have s45:=s4.trans (s5.trans tT)
    obtain⟨m,hm⟩:=rk.sh
    have is:=tmk.is
    rw [Ae,Ac] at is
    rw [era] at hm is hlt
    rw [←hns] at hm is hlt ok5
    refine k _ T' R D D5 as tm lt (s'.trans s45) aA ⟨AR.same s45,nR0,nD,(s'.trans s4).free nD5,aD (s4 _ _ eD) nD5,s45 _ _ eD,tT _ _ eD5,rk.ne,rk.len,fun a ha=>?_,rk.cyc,rk.le,by rw [tmk.keys,hns],tmk.pos,fun a ha=>?_,⟨m,hm,is⟩,ok5,fun b r e=>?_⟩
    ·rw [←era]
     exact List.mem_map.mpr ⟨a,rk.mem a ha,rfl⟩
    ·rw [←era] at ha
     obtain⟨q,hq,rfl⟩:=List.mem_map.mp ha
     exact tmk.sat q hq
    ·rw [has] at e
     cases e
     exact hlt
   ·refine⟨_,rfl,Td,_,0,_,rfl,rfl,SqT.of eTd,aK (j:=0) rfl,rfl,_,rfl,uK rfl ?_⟩
    refine hideW fun De hD u hu=>?_
    refine⟨_,rfl,Td,_,1,_,rfl,rfl,SqT.of eTd,aK (j:=1) rfl,?_⟩
    have rk2:=rk.next n16 RA hro hcy
    have less:=ring_less AI rk.toRkOk rk2.toRkOk RA.pos
    have Wx:=W.same s'
    subst hu
    refine⟨_,rfl,n,dx,fs,rfl,Wx.obj,Wx.fl.no _ (by decide +kernel),n,ls,ps,rfl,Wx.s,fun Ln nLn=>?_⟩
    rw [en]
    have tn:=aH (o:=.lst (ns.map V.str)) nLn
    have An:=A.same tn
    have ARn:=(A2).same tn
    have sn:=(s').trans tn
    have eLn:upd H' Ln (.lst (ns.map V.str)) Ln=some (.lst (ns.map V.str)):=aA
    generalize upd H' Ln (.lst (ns.map V.str))=Hn at tn An ARn sn eLn ⊢
    refine⟨_,rfl,_,rfl,Lr,as2,rfl,ARn,(rk2.toRkOk).tk AI,(rk2.toRkOk).ne,fun Hf F sf eF=>?_⟩
    have qk:=qS_ok ((rk2.toRkOk).tk AI) (rk2.toRkOk).ne
    refine⟨Ln,L,F,ns,ra,pS as2,qS as2,rfl,sf _ _ eLn,nnd,n1,n16,An.same sf,hra,eF,qk.1,qk.2,AI.toArcsN,fun Hk Td D tm sk eTd nD eD hk hsat h0 hti=>?_,fun Hk Td Lx ax sk eTd nLr Ax RAx hro hcy=>?_⟩
    ·subst hD
     refine⟨⟨sn.trans (sf.trans sk),An.same (sf.trans sk),Lr,Td,as2,⟨_,rfl⟩,ARn.same (sf.trans sk),nLr0,rk2,.inl ⟨D,tm,eTd,(sn.trans sf).free nD,eD,⟨hk,hsat,h0,hti⟩⟩⟩,?_⟩
     show Am _ Lr <Am _ R
     rw [yl (ARn.same (sf.trans sk)),yl AR]
     exact less
    ·subst hD
     refine⟨⟨sn.trans (sf.trans sk),An.same (sf.trans sk),Lr,Td,as2,⟨_,rfl⟩,ARn.same (sf.trans sk),nLr0,rk2,.inr ⟨Lx,ax,eTd,(sn.trans sf).free nLr,Ax,RAx,hro,hcy⟩⟩,?_⟩
     show Am _ Lr <Am _ R
     rw [yl (ARn.same (sf.trans sk)),yl AR]
     exact less
  ·intro σ H' Q' Q'' hm hq
   obtain⟨v,e,p',xs,i,u,e1,e2,h1,h2,h3,b,e4,q⟩:=hq
   exact⟨v,e,p',xs,i,u,e1,e2,h1,h2,h3,b,e4,hm _ _ q⟩
theorem end_head {f:PD→List Str} {ps:List PD} {x:Str} (h:x∈ps.flatMap f):∃r,((ps.filter fun p=>decide (x∈f p)).map fun p=>V.str p.name)=V.str (gA f ps x):: r:=by
 obtain⟨p,hp,hx⟩:=List.mem_flatMap.mp h
 have hh:(ps.filter fun p=>decide (x∈f p)).head?=ps.find? fun p=>decide (x∈f p):=by rw [List.head?_filter]
 unfold gA
 cases e:ps.filter fun p=>decide (x∈f p) with
 | nil=>
  have:=(List.mem_filter (p:=fun p=>decide (x∈f p))).mpr ⟨hp,decide_eq_true hx⟩
  rw [e] at this
  cases this
 | cons a r=>
  rw [e] at hh
  rw [←hh]
  exact⟨_,rfl⟩
def sp__law_arcs (K:PySem.W.Frag):Sp:=fun vs H Q _=>∃(L P:Addr) (ls:List LaneD) (ps:List PD),vs=[.ref L,.ref P]∧NetAt H L P ls ps∧Fit ls ps∧∀H' D ra,aW H H'→ArcsR H' D ra→ra.map (·.1)=cX ls ps→Q (.ref D) H'
theorem sc__law_arcs:FnScope ["_law_lanes", "_law_parts", "_law_arcs_here", "_law_name", "_law_room", "_law_first", "_law_giver", "_law_taker"] ["_law_lanes", "_law_parts"] (az fC):=⟨rfl,rfl,rfl,by decide +kernel,rfl,by decide +kernel,by decide +kernel⟩
theorem ok__law_arcs (T:Txt w K mg t):FnOk P w K mg base CX0 1 t.vX t.tQ ["_law_lanes", "_law_parts"] (sp__law_arcs K):=by
 have sc:=sc__law_arcs
 refine T.zV.ok sc (fun vs H Q E h=>?_) (fun cdv A outer s H vs Q E hr h=>?_)
 ·obtain⟨L,P,ls,ps,rfl,_⟩:=h
  rfl
 ·obtain⟨L,P,ls,ps,rfl,N,hF,k⟩:=h
  refine⟨_,(au (aZ (i:=2) sc.nd rfl (Or.inl rfl) (bO ak))
   (au (d9 PassesOwn.never rfl (dg (pv 0)) (pg_tup rfl (gh (bU (i:=3) sc.nd rfl (Or.inr rfl)) (gh (bU (i:=4) sc.nd rfl (Or.inl rfl)) (gh (bU (i:=5) sc.nd rfl (Or.inl rfl)) Aa))))
    (au (aZ (i:=6) sc.nd rfl (Or.inl rfl) (aQ bA (iR [3] ["_law_lanes", "_law_parts", "_law_arcs_here", "_law_name", "_law_room", "_law_first", "_law_giver", "_law_taker"] (az fC) rfl (dg (pv 1)) (fun _ _ _ _ _=>(pf_one (bf (Bo (K:=K) rfl) (pv 1) (aQ (kO (K:=K) rfl) (pv 0) aq (fun _ _=>rfl)) (by with_unfolding_all rfl)))) (fun _ _ _ _ _=>(aQ (kO (K:=K) rfl) (pv 0) aq (fun _ _=>rfl)))) aq (fun _ _=>rfl)))
    (au (aZ (i:=7) sc.nd rfl (Or.inl rfl) (aQ bA (iR [3] ["_law_lanes", "_law_parts", "_law_arcs_here", "_law_name", "_law_room", "_law_first", "_law_giver", "_law_taker"] (az fC) rfl (dg (pv 1)) (fun _ _ _ _ _=>(pf_one (bf (Bo (K:=K) rfl) (pv 1) (aQ (kO (K:=K) rfl) (pv 0) aq (fun _ _=>rfl)) (by with_unfolding_all rfl)))) (fun _ _ _ _ _=>(aQ (kO (K:=K) rfl) (pv 0) aq (fun _ _=>rfl)))) aq (fun _ _=>rfl)))
    (au (bH (mJ PySem.F.plainAttrs_list PySem.F.slot_list_append PySem.F.type_list_append gK (pv 2) (aa (ie (aa (pv 6) (aa (pv 7) (aa (aV bN (by rfl) T.du cC (aa (pv 5) ak aj)) (aa (pv 3) (aa bM ak ao) aj) aX) aj) aj)) ak iB)))
    (aB (bH (mJ PySem.F.plainAttrs_list PySem.F.slot_list_append PySem.F.type_list_append gK (pv 2) (aa (ie (aa (pv 7) (aa (pv 6) (aa (bw xR (pv 4) (aV bN (by rfl) T.du cC (aa (pv 5) ak aj))) (aa (pv 3) (aa bM ak ao) aj) bW) aj) aj)) ak iB))))))))
   (aB (aY (bw op_cat (pv 2) (iR [] ["_law_lanes", "_law_parts", "_law_arcs_here", "_law_name", "_law_room", "_law_first", "_law_giver", "_law_taker"] (az fC) rfl (dg (pv 1)) (fun _ _ _ _ _=>mD) (fun _ _ _ _ _=>(ie (aa (aQ (kO (K:=K) rfl) (pv 0) aq (fun _ _=>rfl)) (aa (aQ (kO (K:=K) rfl) (pv 0) aq (fun _ _=>rfl)) (aa aq (aa bM (aa bM ak ao) ao) ao) aF) aF))))))))),?_⟩
  have hz:sizeLine=16777216:=sizeLine_eq
  have l24:=hF.l24
  have p16:=hF.p16
  obtain⟨⟨xs,eL,aL⟩,⟨ys,eP,aP⟩⟩:=id N
  have lx:=aL.length
  have ly:=aP.length
  refine⟨by show 0≤sizeLine;exact szl,fun A nA=>?_⟩
  have tA:=aH (o:=.lst []) nA
  have eA:upd H A (.lst []) A=some (.lst (([]:List AA).map fun q=>V.ref q.2)):=aA
  have c0:=yJ tA nA
  generalize upd H A (.lst [])=H0 at tA eA c0 ⊢
  refine⟨_,rfl,L,rfl,⟨_,SqL.of (tA _ _ eL)⟩,?_⟩
  refine il (K:=K) (a:=L) (xs:=xs) (fun j σ H'=>(∃v3 v4 v5 v6 v7,σ=[some (.ref L),some (.ref P),some (.ref A),v3,v4,v5,v6,v7])∧aW H (bj [A] H')∧∃ra:List AA,H' A=some (.lst (ra.map fun q=>V.ref q.2))∧(∀q∈ra,bj [A] H' q.2=some (.tup (Bs q.1)))∧ra.map (·.1)=(ls.take j).flatMap (vh ps)) ⟨⟨_,_,_,_,_,rfl⟩,c0,[],eA,by simp,rfl⟩ (fun j σ H' _ h=>SqL.of (bQ _ _ (h.2.1 _ _ eL))) ?_ ?_
  ·rintro j x σ H' hx ⟨⟨v3,v4,v5,v6,v7,rfl⟩,s',ra,eA',hra,era⟩
   obtain⟨l,hlj,q,f,rfl,hq,hf⟩:=aL.get hx
   have hm0:=List.mem_of_getElem? hlj
   have hj:=(List.getElem?_eq_some_iff.mp hlj).1
   have lra:ra.length≤48:=by
    have:=congrArg List.length era
    rw [lM,rT,List.length_take] at this
    omega
   have sH:=s'.trans bQ
   refine⟨q,_,rfl,SqT.of (sH _ _ hq),rfl,_,_,rfl,_,_,rfl,_,_,rfl,rfl,?_⟩
   refine hideW fun De hD u hu=>?_
   refine⟨_,rfl,P,rfl,⟨_,SqL.of (sH _ _ eP)⟩,?_⟩
   refine gG (K:=K) (a:=P) (xs:=ys) (fun i zs H2=>H2=H'∧zs=(((ps.take i).filter fun p=>decide (l.name∈p.outs)).map fun p=>V.str p.name)) (by omega) ⟨rfl,rfl⟩ (fun i zs H2 ⟨_,e⟩=>by rw [e,lM];exact Nat.le_trans (List.length_filter_le _ _) (by rw [List.length_take];omega)) (fun i zs H2 _ ⟨e,_⟩=>by rw [e];exact SqL.of (sH _ _ eP)) ?_ ?_
   ·rintro i x zs H2 hx ⟨e2,rfl⟩
    subst e2
    obtain⟨p,hpi,q',b1,b2,b3,rfl,hq',w1,w2,w3⟩:=aP.get hx
    refine⟨_,rfl,_,rfl,q',_,4,_,rfl,rfl,SqT.of (sH _ _ hq'),aK (j:=4) rfl,b3,_,rfl,.inl (SqL.of (sH _ _ w3)),rfl,rZ _,_,rfl,?_⟩
    rw [yK,List.take_succ,hpi,Option.toList_some,List.filter_append]
    by_cases hm:l.name∈p.outs
    ·rw [decide_eq_true hm,f1T (p:=fun p:PD=>decide (l.name∈p.outs)) (decide_eq_true hm),List.map_append]
     exact tV ⟨_,rfl,q',_,1,_,rfl,rfl,SqT.of (sH _ _ hq'),aK (j:=1) rfl,rfl,rfl⟩
    ·rw [decide_eq_false hm,f1F (p:=fun p:PD=>decide (l.name∈p.outs)) (decide_eq_false hm),List.append_nil]
     exact cQ ⟨rfl,rfl⟩
   rintro zs H2 ⟨e2,rfl⟩ D1 nD1
   subst e2
   rw [ly,List.take_length]
   obtain⟨rD1,hD1⟩:=end_head (f:=(·.outs)) (ps:=ps) (x:=l.name) (hF.whole.outs.mem_iff.mpr (List.mem_map.mpr ⟨l,hm0,rfl⟩))
   rw [hD1]
   refine⟨D1,_,0,_,rfl,rfl,SqL.of aA,aK (j:=0) rfl,?_⟩
   have t1:=aH (o:=.lst (V.str (gA (·.outs) ps l.name):: rD1)) nD1
   have s1:=sH.trans t1
   have u1:=gB t1 eA'
   have eA1:=t1 _ _ eA'
   generalize upd H2 D1 (.lst (V.str (gA (·.outs) ps l.name):: rD1))=H3 at t1 s1 u1 eA1 ⊢
   refine bx (v:=u) hu fun u hu=>?_
   refine⟨_,rfl,P,rfl,⟨_,SqL.of (s1 _ _ eP)⟩,?_⟩
   refine gG (K:=K) (a:=P) (xs:=ys) (fun i zs H2=>H2=H3∧zs=(((ps.take i).filter fun p=>decide (l.name∈p.ins)).map fun p=>V.str p.name)) (by omega) ⟨rfl,rfl⟩ (fun i zs H2 ⟨_,e⟩=>by rw [e,lM];exact Nat.le_trans (List.length_filter_le _ _) (by rw [List.length_take];omega)) (fun i zs H2 _ ⟨e,_⟩=>by rw [e];exact SqL.of (s1 _ _ eP)) ?_ ?_
   ·rintro i x zs H2 hx ⟨e2,rfl⟩
    subst e2
    obtain⟨p,hpi,q',b1,b2,b3,rfl,hq',w1,w2,w3⟩:=aP.get hx
    refine⟨_,rfl,_,rfl,q',_,3,_,rfl,rfl,SqT.of (s1 _ _ hq'),aK (j:=3) rfl,b2,_,rfl,.inl (SqL.of (s1 _ _ w2)),rfl,rZ _,_,rfl,?_⟩
    rw [yK,List.take_succ,hpi,Option.toList_some,List.filter_append]
    by_cases hm:l.name∈p.ins
    ·rw [decide_eq_true hm,f1T (p:=fun p:PD=>decide (l.name∈p.ins)) (decide_eq_true hm),List.map_append]
     exact tV ⟨_,rfl,q',_,1,_,rfl,rfl,SqT.of (s1 _ _ hq'),aK (j:=1) rfl,rfl,rfl⟩
    ·rw [decide_eq_false hm,f1F (p:=fun p:PD=>decide (l.name∈p.ins)) (decide_eq_false hm),List.append_nil]
     exact cQ ⟨rfl,rfl⟩
   rintro zs H2 ⟨e2,rfl⟩ D2 nD2
   subst e2
   rw [ly,List.take_length]
   obtain⟨rD2,hD2⟩:=end_head (f:=(·.ins)) (ps:=ps) (x:=l.name) (hF.whole.ins.mem_iff.mpr (List.mem_map.mpr ⟨l,hm0,rfl⟩))
   rw [hD2]
   refine⟨D2,_,0,_,rfl,rfl,SqL.of aA,aK (j:=0) rfl,?_⟩
   have t2:=aH (o:=.lst (V.str (gA (·.ins) ps l.name):: rD2)) nD2
   have s2:=s1.trans t2
   have u2:=u1.trans (gB t2 eA1)
   have eA2:=t2 _ _ eA1
   generalize upd H2 D2 (.lst (V.str (gA (·.ins) ps l.name):: rD2))=H5 at t2 s2 u2 eA2 ⊢
   refine bx (v:=u) hu fun u hu=>?_
   refine⟨_,rfl,.inl ⟨rfl,_,SqL.of eA2⟩,_,rfl,_,rfl,_,rfl,.ref f,l.first.length,rfl,.inl ⟨_,SqL.of (s2 _ _ hf),by simp⟩,_,rfl,by show 5≤sizeLine;exact szl,fun q1 n1=>?_⟩
   have t3:=aH (o:=.tup [.str (gA (·.outs) ps l.name),.str (gA (·.ins) ps l.name),.int (l.first.length:Nat),.str l.name,.str "along"]) n1
   have eq1:upd H5 q1 (.tup [.str (gA (·.outs) ps l.name),.str (gA (·.ins) ps l.name),.int (l.first.length:Nat),.str l.name,.str "along"]) q1=some (.tup [.str (gA (·.outs) ps l.name),.str (gA (·.ins) ps l.name),.int (l.first.length:Nat),.str l.name,.str "along"]):=aA
   have s3:=s2.trans t3
   have u3:=u2.trans (gB t3 eA2)
   have eA3:=t3 _ _ eA2
   generalize upd H5 q1 (.tup [.str (gA (·.outs) ps l.name),.str (gA (·.ins) ps l.name),.int (l.first.length:Nat),.str l.name,.str "along"])=H6 at t3 eq1 s3 u3 eA3 ⊢
   refine⟨A,_,_,rfl,rfl,eA3,by rw [lM];omega,?_⟩
   have eA4:upd H6 A (.lst (ra.map (fun q=>V.ref q.2) ++ [.ref q1])) A=some (.lst (ra.map (fun q=>V.ref q.2) ++ [.ref q1])):=aA
   have u4:bj [A] (upd H6 A (.lst (ra.map (fun q=>V.ref q.2) ++ [.ref q1])))=bj [A] H6:=cj (by simp)
   have cf:bj [A] H6 f=some (.lst (l.first.map V.int)):=u3 _ _ (s' _ _ hf)
   have cq1:bj [A] H6 q1=some (.tup [.str (gA (·.outs) ps l.name),.str (gA (·.ins) ps l.name),.int (l.first.length:Nat),.str l.name,.str "along"]):=lst_cut eA3 eq1 (by intro _ z;cases z)
   rw [←u4] at cf cq1 u3
   generalize upd H6 A (.lst (ra.map (fun q=>V.ref q.2) ++ [.ref q1]))=H7 at eA4 u3 cf cq1 ⊢
   subst hu
   refine⟨_,rfl,.inl ⟨rfl,_,SqL.of eA4⟩,_,rfl,_,rfl,_,rfl,_,rfl,.ref f,l.first.length,rfl,.inl ⟨_,SqL.of (bQ _ _ cf),by simp⟩,_,_,rfl,rfl,_,rfl,by show 5≤sizeLine;exact szl,fun q2 n2=>?_⟩
   have t5:=aH (o:=.tup [.str (gA (·.ins) ps l.name),.str (gA (·.outs) ps l.name),.int (l.room - (l.first.length:Nat)),.str l.name,.str "against"]) n2
   have eq2:upd H7 q2 (.tup [.str (gA (·.ins) ps l.name),.str (gA (·.outs) ps l.name),.int (l.room - (l.first.length:Nat)),.str l.name,.str "against"]) q2=some (.tup [.str (gA (·.ins) ps l.name),.str (gA (·.outs) ps l.name),.int (l.room - (l.first.length:Nat)),.str l.name,.str "against"]):=aA
   have u5:=gB t5 eA4
   have eA5:=t5 _ _ eA4
   generalize upd H7 q2 (.tup [.str (gA (·.ins) ps l.name),.str (gA (·.outs) ps l.name),.int (l.room - (l.first.length:Nat)),.str l.name,.str "against"])=H8 at t5 eq2 u5 eA5 ⊢
   subst hD
   refine⟨A,_,_,rfl,rfl,eA5,by rw [lP,lM,List.length_singleton];omega,⟨_,_,_,_,_,rfl⟩,?_,ra ++ [(⟨gA (·.outs) ps l.name,gA (·.ins) ps l.name,(l.first.length:Nat),l.name, "along"⟩,q1),(⟨gA (·.ins) ps l.name,gA (·.outs) ps l.name,l.room - (l.first.length:Nat),l.name, "against"⟩,q2)],?_,fun z hz'=>?_,?_⟩
   ·rw [cj (by simp)]
    exact s'.trans (u3.trans u5)
   ·rw [aA,List.append_assoc,List.map_append]
    rfl
   ·rw [cj (by simp)]
    rcases List.mem_append.mp hz' with h | h
    ·exact u5 _ _ (u3 _ _ (hra z h))
    ·simp only [List.mem_cons,List.not_mem_nil,or_false] at h
     rcases h with rfl | rfl
     ·exact u5 _ _ cq1
     ·exact lst_cut eA5 eq2 (by intro _ z;cases z)
   ·rw [List.map_append,era,List.take_succ,hlj,Option.toList_some,List.flatMap_append,List.flatMap_cons,List.flatMap_nil,List.append_nil]
    rfl
  rintro σ H3 ⟨⟨v3,v4,v5,v6,v7,rfl⟩,s',ra,eA',hra,era⟩
  rw [lx,List.take_length] at era
  have lra:ra.length≤48:=by
   have:=congrArg List.length era
   rw [lM,rT] at this
   omega
  have sH:=s'.trans bQ
  refine⟨_,rfl,_,rfl,P,rfl,⟨_,SqL.of (sH _ _ eP)⟩,?_⟩
  refine gG (K:=K) (a:=P) (xs:=ys) (fun j zs H'=>aW H3 H'∧∃rb:List AA,zs=rb.map (fun q=>V.ref q.2)∧rb.length=j∧(∀q∈rb,H' q.2=some (.tup (Bs q.1)))∧rb.map (·.1)=(ps.take j).map selfA) (by omega) ⟨aW.refl _,[],rfl,rfl,by simp,rfl⟩ (fun j zs H' ⟨_,rb,e,e2,_⟩=>by rw [e,lM];omega) (fun j zs H' _ h=>(sH.trans h.1).seq (SqL.of eP)) ?_ ?_
  ·rintro j x zs H' hx ⟨s5,rb,rfl,hlen,hrb,erb⟩
   obtain⟨p,hpj,q,b1,b2,b3,rfl,hq,w1,w2,w3⟩:=aP.get hx
   have eq:=sH.trans s5 _ _ hq
   refine yes ⟨_,rfl,q,_,1,_,rfl,rfl,SqT.of eq,aK (j:=1) rfl,_,rfl,q,_,1,_,rfl,rfl,SqT.of eq,aK (j:=1) rfl,by show 5≤sizeLine;exact szl,fun u nu=>?_⟩
   have tq:=aH (o:=.tup [.str p.name,.str p.name,.int 1,.str "",.str "again"]) nu
   refine⟨s5.trans tq,rb ++ [(selfA p,u)],by rw [List.map_append];rfl,by rw [lP,List.length_singleton];omega,fun z hz'=>?_,?_⟩
   ·rcases List.mem_append.mp hz' with h | h
    ·exact tq _ _ (hrb z h)
    ·rw [List.mem_singleton] at h;subst h;exact aA
   ·rw [List.map_append,erb,List.take_succ,hpj,Option.toList_some,List.map_append]
    rfl
  rintro zs H5 ⟨s5,rb,rfl,hlen,hrb,erb⟩ D nD
  rw [ly,List.take_length] at erb
  have tD:=aH (o:=.lst (rb.map fun q=>V.ref q.2)) nD
  have s35:=s5.trans tD
  refine⟨A,D,_,_,rfl,rfl,s35 _ _ eA',aA,by rw [lM,lM];omega,fun L' nL=>?_⟩
  rw [←List.map_append]
  have tL:=aH (o:=.lst ((ra ++ rb).map fun q=>V.ref q.2)) nL
  refine k _ L' (ra ++ rb) (sH.trans (s35.trans tL)) ⟨aA,fun q hq=>?_⟩ ?_
  ·rcases List.mem_append.mp hq with h | h
   ·exact tL _ _ (s35 _ _ (bQ _ _ (hra q h)))
   ·exact tL _ _ (tD _ _ (hrb q h))
  ·rw [List.map_append,era,erb]
   rfl
theorem Fit.inA {ls:List LaneD} {ps:List PD} (F:Fit ls ps):∀a∈cX ls ps,a.fr∈ps.map (·.name)∧a.to∈ps.map (·.name):=fun a ha=>by
 unfold cX at ha
 rcases List.mem_append.mp ha with h | h
 ·obtain⟨l,hl,h⟩:=List.mem_flatMap.mp h
  obtain⟨e1,e2⟩:=F.ends hl
  unfold vh at h
  simp only [List.mem_cons,List.not_mem_nil,or_false] at h
  rcases h with h | h <;> rw [h]
  ·exact⟨e1,e2⟩
  ·exact⟨e2,e1⟩
 ·obtain⟨p,hp,h⟩:=List.mem_map.mp h
  rw [←h]
  exact⟨List.mem_map.mpr ⟨p,hp,rfl⟩,List.mem_map.mpr ⟨p,hp,rfl⟩⟩
theorem nd_perm {α:Type} [DecidableEq α]:∀{l m:List α},l.Nodup→(∀x∈l,x∈m)→m.length≤l.length→l.Perm m
 | [],m,_,_,h=>by rw [List.length_eq_zero_iff.mp (Nat.le_zero.mp h)]
 | a:: r,m,nd,hs,h=>by
  rw [List.nodup_cons] at nd
  have ha:=hs a List.mem_cons_self
  refine(List.Perm.cons a (nd_perm (m:=m.erase a) nd.2 (fun x hx=>(List.mem_erase_of_ne (fun z=>nd.1 (by rw [←z];exact hx))).mpr (hs x (List.mem_cons_of_mem _ hx))) ?_)).trans (List.perm_cons_erase ha).symm
  rw [List.length_erase_of_mem ha]
  rw [List.length_cons] at h
  omega
theorem atI_prev {α:Type} {xs:List α} {j:Nat} {v:α} (hj:j <xs.length) (h:xs[if j=0 then xs.length - 1 else j - 1]?=some v):atI xs (0+(j:Int) - 1)=some v:=by
 unfold atI ixN
 by_cases h0:j=0
 ·subst h0
  rw [if_pos rfl] at h
  rw [if_neg (by omega),if_pos (by omega)]
  show xs[((0+((0:Nat):Int) - 1)+(xs.length:Int)).toNat]?=some v
  rw [←h]
  congr 1
  omega
 ·rw [if_neg h0] at h
  rw [if_pos (by omega),if_pos (by omega)]
  show xs[(0+(j:Int) - 1).toNat]?=some v
  rw [←h]
  congr 1
  omega
theorem xV:Gd 1 (.list []):=Gd.list (n:=0) (by simp)
structure NetC (H:Hp) (L P:Addr) (ls:List LaneD) (ps:List PD):Prop where
 lanes:∃xs,H L=some (.lst xs)∧All2 (xq (bj [L] H)) xs ls
 parts:∃ys,bj [L] H P=some (.lst ys)∧All2 (Be (bj [L] H)) ys ps
theorem NetC.net {H:Hp} {L P:Addr} {ls:List LaneD} {ps:List PD} (h:NetC H L P ls ps):NetAt H L P ls ps:=by
 obtain⟨⟨xs,e1,a1⟩,⟨ys,e2,a2⟩⟩:=h
 exact⟨⟨xs,e1,a1.imp fun _ _ h=>h.same bQ⟩,⟨ys,bQ _ _ e2,a2.imp fun _ _ h=>h.same bQ⟩⟩
theorem NetC.same {H H':Hp} {L P:Addr} {ls:List LaneD} {ps:List PD} (h:NetC H L P ls ps) (s:aW H H'):NetC H' L P ls ps:=by
 obtain⟨⟨xs,e1,a1⟩,⟨ys,e2,a2⟩⟩:=h
 have c:=gB s e1
 exact⟨⟨xs,s _ _ e1,a1.imp fun _ _ h=>h.same c⟩,⟨ys,c _ _ e2,a2.imp fun _ _ h=>h.same c⟩⟩
theorem no_refI (ws:List Int) (q:Addr) (r:List V):HO.lst (ws.map V.int)≠.lst (.ref q:: r):=by cases ws <;> intro z <;> cases z
theorem no_refS (ws:List Str) (q:Addr) (r:List V):HO.lst (ws.map V.str)≠.lst (.ref q:: r):=by cases ws <;> intro z <;> cases z
theorem NetAt.cutL {H:Hp} {L P:Addr} {ls:List LaneD} {ps:List PD} (h:NetAt H L P ls ps) (l1:1≤ls.length) (ne:L≠P):NetC H L P ls ps:=by
 obtain⟨⟨xs,e1,a1⟩,⟨ys,e2,a2⟩⟩:=h
 obtain⟨q0,r0,hx⟩:∃q r,xs=.ref q:: r:=by
  cases id a1 with
  | nil=>simp at l1
  | cons h _=>
   obtain⟨q,f,e,_⟩:=h
   exact⟨q,_,by rw [e]⟩
 have away:∀{b:Addr} {o:HO},H b=some o→(∀r,o≠.lst (.ref q0:: r))→bj [L] H b=some o:=fun {b o} e hn=>dw e (by
  rw [List.mem_singleton]
  rintro rfl
  rw [e1] at e
  exact hn r0 (by rw [←Option.some.inj e,hx]))
 refine⟨⟨xs,e1,a1.imp fun x l h=>?_⟩,⟨ys,dw e2 (by rw [List.mem_singleton];exact ne.symm),a2.imp fun x p h=>?_⟩⟩
 ·obtain⟨q,f,e,h1,h2⟩:=h
  exact⟨q,f,e,away h1 (by intro r z;cases z),away h2 (no_refI _ _)⟩
 ·obtain⟨q,b1,b2,b3,e,h1,h2,h3,h4⟩:=h
  exact⟨q,b1,b2,b3,e,away h1 (by intro r z;cases z),away h2 (no_refI _ _),away h3 (no_refS _ _),away h4 (no_refS _ _)⟩
theorem All2.set {α β:Type} {R:α→β→Prop}:∀{xs:List α} {ls:List β} (_:All2 R xs ls) {x:α} {l:β} (_:R x l) (j:Nat),All2 R (xs.set j x) (ls.set j l)
 | _,_,.nil,_,_,_,_=>.nil
 | _,_,.cons _ t,_,_,hx,0=>.cons hx t
 | _,_,.cons h t,_,_,hx,j+1=>.cons h (t.set hx j)
theorem NetC.put {H H2:Hp} {L P:Addr} {ls:List LaneD} {ps:List PD} {xs:List V} (h:NetC H L P ls ps) (eL:H L=some (.lst xs)) (s:aW H H2) {q f:Addr} {l:LaneD} (hq:bj [L] H2 q=some (.tup [.str l.name,.int l.room,.ref f])) (hf:bj [L] H2 f=some (.lst (l.first.map V.int))) (j:Nat):NetC (upd H2 L (.lst (xs.set j (.ref q)))) L P (ls.set j l) ps:=by
 obtain⟨⟨xs',e1,a1⟩,⟨ys,e2,a2⟩⟩:=h
 rw [eL] at e1
 cases e1
 have c:=gB s eL
 have u:bj [L] (upd H2 L (.lst (xs.set j (.ref q))))=bj [L] H2:=cj (by simp)
 refine⟨⟨_,aA,?_⟩,⟨ys,by rw [u];exact c _ _ e2,?_⟩⟩
 ·rw [u]
  exact(a1.imp fun _ _ h=>h.same c).set ⟨q,f,rfl,hq,hf⟩ j
 ·rw [u]
  exact a2.imp fun _ _ h=>h.same c
theorem map_set_same {α β:Type} (ls:List α) (f:α→β) {l l':α} {j:Nat} (hj:ls[j]?=some l) (hn:f l'=f l):(ls.set j l').map f=ls.map f:=by
 rw [List.map_set,hn]
 refine List.ext_getElem? fun i=>?_
 rw [List.getElem?_set]
 by_cases h:j=i
 ·subst h
  have:=(List.getElem?_eq_some_iff.mp hj).1
  rw [if_pos rfl,if_pos (by rw [lM];exact this),List.getElem?_map,hj]
  rfl
 ·rw [if_neg h]
theorem Fit.set {ls:List LaneD} {ps:List PD} (F:Fit ls ps) {j:Nat} {l l':LaneD} (hj:ls[j]?=some l) (hn:l'.name=l.name) (ok:1≤l'.room∧l'.room≤199∧(l'.first.length:Int)≤l'.room∧∀v∈l'.first,0≤v∧v <1000000000):Fit (ls.set j l') ps:=by
 have hm:∀m∈ls.set j l',m∈ls∨m=l':=fun m hm=>List.mem_or_eq_of_mem_set hm
 refine⟨fun m h=>(hm m h).elim (F.lok m) fun e=>by rw [e];exact ok,F.pok,fun m h=>(hm m h).elim (F.lnm m) fun e=>by rw [e,hn];exact F.lnm l (List.mem_of_getElem? hj),F.pnm,F.pnd,by rw [map_set_same ls (·.name) hj hn];exact F.whole,by rw [List.length_set];exact F.l1,by rw [List.length_set];exact F.l24,F.p1,F.p16⟩
theorem cutV_mid (xs:List V) (a b:Nat):ym xs (some (a:Int)) (some (b:Int))=(xs.drop (min a xs.length)).take (min b xs.length - min a xs.length):=by
 unfold ym
 rw [HT.Ad,HT.Ad]
theorem Calm.odd {ps:List PD} (h:Calm ps):oddN ps=.non:=by
 have key:∀i,i <9→(decide (fL i= "choose") || decide (fL i= "split"))=false:=by decide +kernel
 unfold oddN
 rw [List.find?_eq_none.mpr fun p hp=>by unfold oddB;rw [key _ (h p hp)];exact Bool.false_ne_true]
theorem ArcsR.off {H:Hp} {L B:Addr} {as:List AA} {xs:List V} (h:ArcsR H L as) (ne:L≠B) (eB:H B=some (.lst xs)):ArcsR (upd H B (.lst [])) L as:=⟨by rw [aM ne];exact h.lst,fun q hq=>by
 have:=gC (h.at_ q hq) eB (by intro z;cases z)
 rw [aM this]
 exact h.at_ q hq⟩
theorem kv_int (m:List (Str×Int)):∀kv∈kvG V.int m,∃n:Int,kv.2=.int n:=fun kv h=>by
 unfold kvG at h
 obtain⟨e,_,rfl⟩:=List.mem_map.mp h
 exact⟨_,rfl⟩
theorem gcd_cop {a b d:Int} (g0:0 <(Int.gcd a b:Int)) (hd:2≤d) (h1:d ∣ a / Int.gcd a b) (h2:d ∣ b / Int.gcd a b):False:=by
 have e1:a / (Int.gcd a b:Int) * Int.gcd a b=a:=Int.ediv_mul_cancel (Int.gcd_dvd_left ..)
 have e2:b / (Int.gcd a b:Int) * Int.gcd a b=b:=Int.ediv_mul_cancel (Int.gcd_dvd_right ..)
 have mv:∀c g:Int,d * c * g=d * g * c:=fun c g=>by rw [Int.mul_assoc,Int.mul_comm c,←Int.mul_assoc]
 have k1:d * (Int.gcd a b:Int) ∣ a:=by obtain⟨c,hc⟩:=h1;rw [hc,mv] at e1;exact⟨c,e1.symm⟩
 have k2:d * (Int.gcd a b:Int) ∣ b:=by obtain⟨c,hc⟩:=h2;rw [hc,mv] at e2;exact⟨c,e2.symm⟩
 have k:=Int.le_of_dvd g0 (Int.dvd_coe_gcd k1 k2)
 have:2 * (Int.gcd a b:Int)≤d * Int.gcd a b:=Int.mul_le_mul_of_nonneg_right hd (by omega)
 omega
theorem Fit.arcGL {ls:List LaneD} {ps:List PD} (F:Fit ls ps) {cs:List Arc} (h:∀c∈cs,c∈cX ls ps):Gd 2 (.list (cs.map zq)):=Gd.list fun d hd=>by
 obtain⟨c,hc,rfl⟩:=List.mem_map.mp hd
 exact F.arcG c (h c hc)
theorem Fit.reach {ls:List LaneD} {ps:List PD} (F:Fit ls ps) {P:Str→Prop} (hc:∀a∈cX ls ps,P a.fr→P a.to) {s:Str} (hs:s∈ps.map (·.name)) (h0:P s):∀x∈ps.map (·.name),P x:=by
 obtain⟨y,hang⟩:=F.whole.hang
 have ono:(ps.flatMap (·.outs)).Nodup:=F.whole.outs.nodup_iff.mpr F.whole.nod
 have ini:(ps.flatMap (·.ins)).Nodup:=F.whole.ins.nodup_iff.mpr F.whole.nod
 have arc:∀p∈ps,∀q∈ps,∀l,l∈p.outs→l∈q.ins→(P p.name→P q.name)∧(P q.name→P p.name):=fun p hp q hq l h1 h2=>by
  obtain⟨ln,hln,rfl⟩:=List.mem_map.mp (F.whole.outs.mem_iff.mp (List.mem_flatMap.mpr ⟨p,hp,h1⟩))
  have e1:=m7 ono hp h1
  have e2:=m7 ini hq h2
  have m:∀a∈vh ps ln,a∈cX ls ps:=fun a ha=>List.mem_append.mpr (.inl (List.mem_flatMap.mpr ⟨ln,hln,ha⟩))
  unfold vh at m
  rw [e1,e2] at m
  exact⟨hc _ (m _ List.mem_cons_self),hc _ (m _ (List.mem_cons_of_mem _ List.mem_cons_self))⟩
 have one:∀{f:PD→List Str},(ps.flatMap f).Nodup→∀p∈ps,∀q∈ps,∀l,l∈f p→l∈f q→p.name=q.name:=fun nd p hp q hq l h1 h2=>(m7 nd hp h1).symm.trans (m7 nd hq h2)
 obtain⟨p0,hp0,rfl⟩:=List.mem_map.mp hs
 have all:=Drawn.Ay (J:=fun p=>P p.name) (fun l p q hp hq h1 h2 j=>by
  rcases List.mem_append.mp h1 with a | a <;> rcases List.mem_append.mp h2 with b | b
  ·rw [←one ini p hp q hq l a b];exact j
  ·exact(arc q hq p hp l b a).2 j
  ·exact(arc p hp q hq l a b).1 j
  ·rw [←one ono p hp q hq l a b];exact j) hang hp0 h0
 intro x hx
 obtain⟨q,hq,rfl⟩:=List.mem_map.mp hx
 exact all q hq
theorem lt_all {ls:List LaneD} {ps:List PD} (F:Fit ls ps) {s:Str} (hs:s∈ps.map (·.name)) (tk:∀a∈cX ls ps,0≤a.tk):∀x∈ps.map (·.name),∃v,lkG (lN (cX ls ps) s (ps.map (·.name)).length) x=some v:=by
 have fx:=lN_fix (arcs:=cX ls ps) (s:=s) (N:=ps.map (·.name)) tk hs (fun a ha=>(F.inA a ha).1) fun a ha=>(F.inA a ha).2
 refine F.reach (P:=fun x=>∃v,lkG (lN (cX ls ps) s (ps.map (·.name)).length) x=some v) (fun a ha ⟨v,hv⟩=>?_) hs ?_
 ·obtain⟨u,hu,_⟩:=lF_step ha hv
  rw [fx] at hu
  exact⟨u,hu⟩
 ·obtain⟨u,hu,_⟩:=lN_less (arcs:=cX ls ps) (s:=s) (Nat.zero_le (ps.map (·.name)).length) s 0 (by show lkG [(s,0)] s=some 0;rw [fD,if_pos rfl])
  exact⟨u,hu⟩
theorem Fit.tks {ls:List LaneD} {ps:List PD} (F:Fit ls ps):∀a∈cX ls ps,0≤a.tk∧a.tk≤1000000:=fun a ha=>by
 have:=yR (ra:=(cX ls ps).map fun c=>(c,0)) F (by rw [List.map_map];exact List.map_id _)
 have hm:((a,0):AA)∈(cX ls ps).map fun c=>((c,0):AA):=List.mem_map.mpr ⟨a,ha,rfl⟩
 exact⟨this.tk0 _ hm,this.tk1 _ hm⟩
theorem pickR (m:Int):∃c:Int,atI [V.int 1,.int 2,.int 3,.int 4,.int 5,.int 199] (m % 6)=some (.int c)∧1≤c∧c≤199:=by
 have key:∀j,j <6→atI [V.int 1,.int 2,.int 3,.int 4,.int 5,.int 199] ((j:Nat):Int)=some (.int (([1,2,3,4,5,199]:List Int).getD j 0))∧1≤([1,2,3,4,5,199]:List Int).getD j 0∧([1,2,3,4,5,199]:List Int).getD j 0≤199:=by decide +kernel
 obtain⟨j,e,hj⟩:=zf m (n:=6) (k:=6) (by decide) rfl
 rw [e]
 exact⟨_,key j hj⟩
def sp__law_whole (K:PySem.W.Frag):Sp:=fun vs H Q _=>∃n:Int,vs=[.int n]∧Q (.bl true) H
theorem sc__law_whole:FnScope ["_law_found"] ["_law_found"] (az iU):=⟨rfl,rfl,rfl,by decide +kernel,rfl,by decide +kernel,by decide +kernel⟩
theorem qX (T:Txt w K mg t):FnOk P w K mg base CX0 1 t.ud t.rE ["_law_found"] (sp__law_whole K):=by
 have sc:=sc__law_whole
 refine T.oM.ok sc (fun vs H Q E h=>?_) (fun cdv A outer s H vs Q E hr h=>?_)
 ·obtain⟨n,rfl,_⟩:=h
  rfl
 ·obtain⟨n,rfl,k⟩:=h
  refine⟨_,(aB (aY (pe_and (aV lY (by rfl) T.dN dq (aa (pv 0) (aa (oV (by rfl) T.n_int bt_int) ak aj) aj)) (Bk (pe_not (aV lY (by rfl) T.dN dq (aa (pv 0) (aa (oV (by rfl) T.n_bool bt_bool) ak aj) aj))))))),?_⟩
  exact⟨_,rfl,_, "int", "int",true,rfl,rfl,by decide,by decide,true,rfl,tV ⟨_,rfl,_, "int", "bool",false,rfl,rfl,by decide,by decide,_,rfl,k⟩⟩
def sp__law_ring (K:PySem.W.Frag):Sp:=fun vs H Q _=>∃(L A:Addr) (as bs:List AA),vs=[.ref L,.ref A]∧ArcsR H L as∧ArcsR H A bs∧as≠[]∧as.length≤64∧(∀a∈as,a.1∈bs.map (·.1))∧(∀a∈bs,Gd 1 (zq a.1))∧(∀i c,(as.map (·.1))[i]?=some c→∃c',(as.map (·.1))[if i=0 then(as.map (·.1)).length - 1 else i - 1]?=some c'∧c.fr=c'.to)∧∀H',aW H H'→Q (.bl true) H'
theorem sc__law_ring:FnScope ["_law_ring_here", "_law_arcs_here", "_law_k"] ["_law_ring_here", "_law_arcs_here"] (az lw):=⟨rfl,rfl,rfl,by decide +kernel,rfl,by decide +kernel,by decide +kernel⟩
theorem ok__law_ring (T:Txt w K mg t):FnOk P w K mg base CX0 1 t.uU t.sV ["_law_ring_here", "_law_arcs_here"] (sp__law_ring K):=by
 have sc:=sc__law_ring
 refine T.zA.ok sc (fun vs H Q E h=>?_) (fun cdv A outer s H vs Q E hr h=>?_)
 ·obtain⟨L,A,as,bs,rfl,_⟩:=h
  rfl
 ·obtain⟨L,A,as,bs,rfl,AL,AB,ne,l64,hin,gb,hnext,k⟩:=h
  refine⟨_,(au (bT (PW.pt (mH (dZ (dM (aV lY (by rfl) T.dN dq (aa (pv 0) (aa (oV (by rfl) T.zb wJ) ak aj) aj)))) (mz (bf (op_eqD hr.units) (pv 0) (bO ak) (bL _)))))
    (aB (aY fB))
    bD)
   (au (d9 PassesOwn.never rfl (gU rfl T.lV (aa (aV bN (by rfl) T.du cC (aa (pv 0) ak aj)) ak aX)) (bU (i:=2) sc.nd rfl (Or.inl rfl))
    (aB (bT (PW.pt (mH (dZ (dM (aV lY (by rfl) T.dN dq (aa (aQ bA (pv 0) (pv 2) (fun _ _=>rfl)) (aa (oV (by rfl) T.wN rM) ak aj) aF)))) (mH (bf (op_notInD hr.u100) (aQ bA (pv 0) (pv 2) (fun _ _=>rfl)) (pv 1) (by with_unfolding_all rfl)) (mz (bf zM (aQ bJ (aQ bA (pv 0) (pv 2) (fun _ _=>rfl)) aq (fun _ _=>rfl)) (aQ bJ (aQ bA (pv 0) (bw xR (pv 2) aq) (fun _ _=>rfl)) aq (fun _ _=>rfl)) (bL _))))))
     (aB (aY fB))
     bD)))
   (aB (aY fB)))),?_⟩
  have hz:sizeLine=16777216:=sizeLine_eq
  have ga:∀a∈as,Gd 1 (zq a.1):=fun a ha=>by
   obtain⟨b,hb,e⟩:=List.mem_map.mp (hin a ha)
   rw [←e]
   exact gb b hb
  have lgd:∀{l:List AA},(∀a∈l,Gd 1 (zq a.1))→Gd 2 (.list ((l.map (·.1)).map zq)):=fun {l} h=>Gd.list fun d hd=>by
   obtain⟨c,hc,rfl⟩:=List.mem_map.mp hd
   obtain⟨a,ha,rfl⟩:=List.mem_map.mp hc
   exact h a ha
  refine⟨_,rfl,_, "list", "list",true,rfl,.inl ⟨rfl,_,SqL.of AL.lst⟩,by decide,by decide,true,rfl,cQ ?_⟩
  refine⟨_,rfl,by show 0≤sizeLine;exact szl,fun u nu=>?_⟩
  have tu:=aH (o:=.lst []) nu
  have eu:upd H u (.lst []) u=some (.lst []):=aA
  have AL:=AL.same tu
  have AB:=AB.same tu
  generalize upd H u (.lst [])=H1 at tu eu AL AB ⊢
  refine⟨_,_,AL.dt,.list (SqL.of eu) .nil,(lgd ga).shaped (by decide),xV.shaped (by decide),false,?_,cQ ?_⟩
  ·cases as with
   | nil=>exact absurd rfl ne
   | cons a r=>simp [PyData.eqv,PyData.eqvAll]
  refine⟨_,rfl,.ref L,as.length,rfl,.inl ⟨_,SqL.of AL.lst,by simp⟩,(as.length:Int),rfl,by omega,by omega,?_⟩
  rw [Int.toNat_natCast]
  refine oX (n:=as.length) (fun j σ H'=>(∃v2,σ=[some (.ref L),some (.ref A),v2])∧H'=H1) ⟨⟨_,rfl⟩,rfl⟩ ?_ ?_
  ·rintro j σ H' hj ⟨⟨v2,rfl⟩,rfl⟩
   obtain⟨q,hq⟩:∃q,as[j]?=some q:=⟨_,List.getElem?_eq_getElem hj⟩
   have mq:=List.mem_of_getElem? hq
   have eq:=AL.at_ q mq
   obtain⟨c',hc',ef⟩:=hnext j q.1 (by rw [List.getElem?_map,hq];rfl)
   rw [List.getElem?_map,lM] at hc'
   obtain⟨q',hq',rfl⟩:=Option.map_eq_some_iff.mp hc'
   have eq':=AL.at_ q' (List.mem_of_getElem? hq')
   have at1:atI (as.map fun q=>V.ref q.2) (((0+j:Nat):Int))=some (.ref q.2):=aK (by rw [Nat.zero_add,List.getElem?_map,hq];rfl)
   have at2:atI (as.map fun q=>V.ref q.2) (0+(j:Int) - 1)=some (.ref q'.2):=atI_prev (by rw [lM];exact hj) (by rw [List.getElem?_map,lM,hq'];rfl)
   have hany:(((bs.map (·.1)).map zq).any fun z=>PyData.eqv z (zq q.1))=true:=List.any_eq_true.mpr ⟨zq q.1,List.mem_map.mpr ⟨q.1,hin q mq,rfl⟩,(ga q mq).eq⟩
   refine⟨_,rfl,_,rfl,L,_,((0+j:Nat):Int),_,rfl,rfl,SqL.of AL.lst,at1,_, "tuple", "tuple",true,rfl,.inr (.inl ⟨rfl,_,SqT.of eq⟩),by decide,by decide,true,rfl,cQ ?_⟩
   refine⟨_,rfl,_,rfl,L,_,((0+j:Nat):Int),_,rfl,rfl,SqL.of AL.lst,at1,_,rfl,_,_,arc_dt eq,AB.dt,(ga q mq).shaped (by decide),(lgd gb).shaped (by decide),false,congrArg (fun b=>V.bl (!b)) hany,cQ ?_⟩
   refine⟨_,rfl,_,rfl,L,_,((0+j:Nat):Int),_,rfl,rfl,SqL.of AL.lst,at1,q.2,_,0,_,rfl,rfl,SqT.of eq,aK (j:=0) rfl,_,rfl,_,rfl,_,_,rfl,rfl,L,_,_,_,rfl,rfl,SqL.of AL.lst,at2,q'.2,_,1,_,rfl,rfl,SqT.of eq',aK (j:=1) rfl,rfl,false,by simp [ef],cQ ⟨⟨_,rfl⟩,rfl⟩⟩
  rintro σ H' ⟨⟨v2,rfl⟩,rfl⟩
  exact k _ tu
def sp__law_changed (K:PySem.W.Frag):Sp:=fun vs H Q _=>∃(L P:Addr) (c:Int) (ls:List LaneD) (ps:List PD),vs=[.ref L,.int c]∧NetC H L P ls ps∧Fit ls ps∧∀H' ls',aW (bj [L] H) (bj [L] H')→NetC H' L P ls' ps→Fit ls' ps→Q .non H'
theorem sc__law_changed:FnScope ["_law_lanes", "_law_cell_here", "_law_at", "_law_name", "_law_room", "_law_first"] ["_law_lanes", "_law_cell_here"] (az dX):=⟨rfl,rfl,rfl,by decide +kernel,rfl,by decide +kernel,by decide +kernel⟩
theorem ok__law_changed (T:Txt w K mg t):FnOk P w K mg base CX0 3 t.pJ t.nW ["_law_lanes", "_law_cell_here"] (sp__law_changed K):=by
 have sc:=sc__law_changed
 refine T.uX.ok sc (fun vs H Q E h=>?_) (fun cdv A outer s H vs Q E hr h=>?_)
 ·obtain⟨L,P,c,ls,ps,rfl,_⟩:=h
  rfl
 ·obtain⟨L,Pp,c,ls,ps,rfl,C,F,k⟩:=h
  refine⟨_,(au (aZ (i:=2) sc.nd rfl (Or.inl rfl) (bw cB (aJ (bc T) (hr.mono (by decide)) (by rfl) T.bC T.bz.kp T.bB .nil aO (aa (pv 1) (aa aq ak ao) aj)) (aV bN (by rfl) T.du cC (aa (pv 0) ak aj))))
   (au (ps_asg (aQ bA (pv 0) (pv 2) (fun _ _=>rfl)) (pg_tup rfl (gh (bU (i:=3) sc.nd rfl (Or.inl rfl)) (gh (bU (i:=4) sc.nd rfl (Or.inl rfl)) (gh (bU (i:=5) sc.nd rfl (Or.inl rfl)) Aa)))))
   (au (aZ (i:=4) sc.nd rfl (Or.inl rfl) (aV (call_max3 rfl) (by rfl) T.n_max bt_max (aa aq (aa (aV bN (by rfl) T.du cC (aa (pv 5) ak aj)) (aa (aQ bA (bO (aa aq (aa aq (aa aq (aa aq (aa aq (aa aq ak ao) ao) ao) ao) ao) ao)) (bw cB (aJ (bc T) (hr.mono (by decide)) (by rfl) T.bC T.bz.kp T.bB .nil aO (aa (pv 1) (aa aq ak ao) aj)) aq) (fun _ _=>rfl)) ak aF) aX) ao)))
   (au (fj (bT (bf iG (bw cB (aJ (bc T) (hr.mono (by decide)) (by rfl) T.bC T.bz.kp T.bB .nil aO (aa (pv 1) (aa aq ak ao) aj)) aq) aq (bL _))
    (au (yg (i:=5) [1] ["_law_lanes", "_law_cell_here", "_law_at", "_law_name", "_law_room", "_law_first"] (az dX) rfl sc.nd rfl (gU rfl T.lV (aa (bw cB (aJ (bc T) (hr.mono (by decide)) (by rfl) T.bC T.bz.kp T.bB .nil aO (aa (pv 1) (aa aq ak ao) aj)) aq) ak bW)) (fun _ _ _ _ _=>mD) (fun _ _ _ _ _=>(aJ (kE T) (hr.mono (by decide)) (by rfl) T.mj T.iV.kp T.mG .nil aO (aa (pv 1) (aa (bw dm aq (pv 0)) ak bW) aj))))
    (aB (aZ (i:=4) sc.nd rfl (Or.inl rfl) (aV (call_max3 rfl) (by rfl) T.n_max bt_max (aa (pv 4) (aa (aV bN (by rfl) T.du cC (aa (pv 5) ak aj)) (aa aq ak ao) aX) aj)))))
    bD))
   (aB (ps_asg (ie (aa (pv 3) (aa (pv 4) (aa (pv 5) ak aj) aj) aj)) (pg_sub (pv 0) (pv 2) set_list))))))),?_⟩
  have hz:sizeLine=16777216:=sizeLine_eq
  obtain⟨xs,eL,aL⟩:=C.lanes
  have lx:=aL.length
  have l1:=F.l1
  refine⟨_,rfl,_,_,rfl,_,rfl,.ref L,ls.length,rfl,.inl ⟨_,SqL.of eL,lx.symm⟩,cg c 0,(ls.length:Int),rfl,rfl,by omega,?_⟩
  obtain⟨r,er,hr⟩:=zf (cg c 0) (n:=(ls.length:Int)) (k:=ls.length) (by omega) rfl
  dsimp only
  rw [er]
  obtain⟨x,hxr⟩:∃x,xs[r]?=some x:=⟨_,List.getElem?_eq_getElem (by omega)⟩
  obtain⟨l,hlr,q,f,rfl,hq,hf⟩:=aL.get hxr
  obtain⟨o1,o2,o3,o4⟩:=F.lok l (List.mem_of_getElem? hlr)
  have hix:ixN xs.length ((r:Nat):Int)=some r:=by unfold ixN;rw [if_pos (by omega),if_pos (by omega)];simp
  refine⟨_,rfl,_,rfl,L,_,((r:Nat):Int),_,rfl,rfl,SqL.of eL,aK hxr,q,_,rfl,SqT.of (bQ _ _ hq),rfl,_,_,rfl,_,_,rfl,_,_,rfl,rfl,?_⟩
  refine⟨_,rfl,.ref f,l.first.length,rfl,.inl ⟨_,SqL.of (bQ _ _ hf),by simp⟩,by show 6≤sizeLine;exact szl,fun a0 n0=>?_⟩
  obtain⟨rm,erm,rm1,rm2⟩:=pickR (cg c 1)
  have t0:=aH (o:=.lst [.int 1,.int 2,.int 3,.int 4,.int 5,.int 199]) n0
  refine⟨_,rfl,_,_,rfl,_,_,rfl,rfl,by show(0:Int) <6;decide,a0,_,_,_,rfl,rfl,SqL.of aA,erm,1,(l.first.length:Int),rm,rfl,fun room h1 h2 h3 h4=>?_⟩
  have eL0:=t0 _ _ eL
  have hf0:=gB t0 eL _ _ hf
  have C0:=C.same t0
  have c0:=gB t0 eL
  generalize upd H a0 (.lst [.int 1,.int 2,.int 3,.int 4,.int 5,.int 199])=H0 at t0 eL0 hf0 C0 c0 ⊢
  refine⟨fun σ H9=>∃(rm:Int) (ff:Addr) (fi:List Int),σ=[some (.ref L),some (.int c),some (.int (r:Nat)),some (.str l.name),some (.int rm),some (.ref ff)]∧aW H0 H9∧bj [L] H9 ff=some (.lst (fi.map V.int))∧1≤rm∧rm≤199∧(fi.length:Int)≤rm∧∀v∈fi,0≤v∧v <1000000000,?_,?_⟩
  ·refine⟨_,rfl,_,_,rfl,_,_,rfl,rfl,by show(0:Int) <3;decide,rfl,_,rfl,oH (fun _=>?_) (fun _=>?_)⟩
   ·refine⟨_,rfl,_,_,rfl,_,_,rfl,rfl,by show(0:Int) <4;decide,?_⟩
    obtain⟨m,em,hm⟩:=zf (cg c 8) (n:=4) (k:=4) (by decide) rfl
    dsimp only
    rw [em]
    refine⟨(m:Int),rfl,by omega,by omega,?_⟩
    rw [Int.toNat_natCast]
    refine o9 (fun i ys H'=>H'=H0∧∃ws:List Int,ys=ws.map V.int∧ws.length=i∧∀v∈ws,0≤v∧v <1000000000) (by omega) ⟨rfl,[],rfl,rfl,by simp⟩ (fun i ys H' ⟨_,ws,e,e2,_⟩=>by rw [e,lM];omega) ?_ ?_
    ·rintro i ys H' hi ⟨e9,ws,rfl,hw,hB⟩
     subst e9
     refine yes ⟨_,rfl,_,rfl,_,_,rfl,rfl,c,3+(0+(i:Int)),rfl,rfl,ws ++ [rF c (3+(0+(i:Int)))],by simp,by simp [hw],fun v hv=>?_⟩
     rcases List.mem_append.mp hv with hv | hv
     ·exact hB v hv
     ·rw [List.mem_singleton] at hv
      subst hv
      exact rW _ _
    rintro ys H' ⟨e9,ws,rfl,hw,hB⟩ Fn nF
    subst e9
    have t1:=aH (o:=.lst (ws.map V.int)) nF
    have eF:upd H' Fn (.lst (ws.map V.int)) Fn=some (.lst (ws.map V.int)):=aA
    have nFL:Fn∉[L]:=by rw [List.mem_singleton];exact Ne.symm (aD eL0 nF)
    refine⟨_,rfl,_,rfl,.ref Fn,ws.length,rfl,.inl ⟨_,SqL.of eF,by simp⟩,room,(ws.length:Int),1,rfl,fun room2 g1 g2 g3 g4=>⟨room2,Fn,ws,rfl,t1,dw eF nFL,g3,by omega,g2,hB⟩⟩
   ·exact⟨room,f,l.first,rfl,aW.refl _,hf0,h1,by omega,h2,o4⟩
  rintro σ H9 ⟨rm2,ff,fi,rfl,s9,hff,r1,r2,r3,r4⟩
  have eL9:=s9 _ _ eL0
  refine⟨_,rfl,_,rfl,_,rfl,by show 3≤sizeLine;exact szl,fun q' nq=>?_⟩
  have t2:=aH (o:=.tup [.str l.name,.int rm2,.ref ff]) nq
  have nqL:q'∉[L]:=by rw [List.mem_singleton];exact Ne.symm (aD eL9 nq)
  have q1:=dw (aA (H:=H9) (a:=q') (o:=.tup [.str l.name,.int rm2,.ref ff])) nqL
  refine⟨_,rfl,_,rfl,L,_,((r:Nat):Int),r,rfl,rfl,t2 _ _ eL9,hix,?_⟩
  refine k _ (ls.set r ⟨l.name,rm2,fi⟩) ?_ (C0.put eL0 (s9.trans t2) (l:=⟨l.name,rm2,fi⟩) q1 (gB t2 eL9 _ _ hff) r) (F.set hlr rfl ⟨r1,r2,r3,r4⟩)
  rw [cj (by simp)]
  exact c0.trans (gB (s9.trans t2) eL0)
def sp__law_divides:Sp:=fun vs H Q _=>∃p q:Int,vs=[.int p,.int q]∧(∀d:Int,2≤d→d ∣ p→d ∣ q→False)∧Q (.bl false) H
theorem sc__law_divides:FnScope ["_law_top", "_law_bottom", "_law_number"] ["_law_top", "_law_bottom"] (az fU):=⟨rfl,rfl,rfl,by decide +kernel,rfl,by decide +kernel,by decide +kernel⟩
theorem ok__law_divides (T:Txt w K mg t):FnOk P w K mg base CX0 1 t.pH t.nU ["_law_top", "_law_bottom"] (sp__law_divides):=by
 have sc:=sc__law_divides
 refine T.uQ.ok sc (fun vs H Q E h=>?_) (fun cdv A outer s H vs Q E hr h=>?_)
 ·obtain⟨p,q,rfl,_⟩:=h
  rfl
 ·obtain⟨p,q,rfl,hd,k⟩:=h
  refine⟨_,(au (d9 PassesOwn.never rfl (pi_range2 rfl T.lV (aa aq (aa aq ak ao) ao)) (bU (i:=2) sc.nd rfl (Or.inl rfl))
    (aB (bT (PW.pt (uy (bf iG (bw cB (pv 0) (pv 2)) aq (bL _)) (qw (bf iG (bw cB (pv 1) (pv 2)) aq (bL _)))))
     (aB (aY fB))
     bD)))
   (aB (aY fB))),?_⟩
  refine⟨2,17,rfl,⟨by decide,by decide,by decide,by decide⟩,?_⟩
  refine oX (lo:=2) (n:=15) (fun j σ H'=>(∃v2,σ=[some (.int p),some (.int q),v2])∧H'=H) ⟨⟨_,rfl⟩,rfl⟩ ?_ ?_
  ·rintro j σ H' hj ⟨⟨v2,rfl⟩,e9⟩
   subst e9
   refine⟨_,rfl,_,rfl,_,_,rfl,rfl,by show(0:Int) <2+(j:Int);omega,rfl,_,rfl,oH (fun e1=>?_) (fun _=>cQ ⟨⟨_,rfl⟩,rfl⟩)⟩
   refine⟨_,rfl,_,rfl,_,_,rfl,rfl,by show(0:Int) <2+(j:Int);omega,rfl,_,rfl,oH (fun e2=>?_) (fun _=>⟨⟨_,rfl⟩,rfl⟩)⟩
   have e1:p % (2+(j:Int))=0:=by simpa using of_decide_eq_true e1
   have e2:q % (2+(j:Int))=0:=by simpa using of_decide_eq_true e2
   exact(hd (2+(j:Int)) (by omega) (Int.dvd_of_emod_eq_zero e1) (Int.dvd_of_emod_eq_zero e2)).elim
  rintro σ H' ⟨⟨v2,rfl⟩,e9⟩
  subst e9
  exact k
def sp__law_numbers (K:PySem.W.Frag):Sp:=fun vs H Q _=>∃(D Ln:Addr) (rk:List (Str×Int)) (names:List Str),vs=[.ref D,.ref Ln]∧H D=some (.dK (kvG V.int rk))∧H Ln=some (.lst (names.map V.str))∧names.length≤16∧(∀x∈names,PyData.strOk x=true)∧(rk.map (·.1)).Perm names∧(∀x∈names,∃v,lkG rk x=some v∧0≤v)∧∀H',aW H H'→Q (.bl true) H'
theorem sc__law_numbers:FnScope ["_law_told", "_law_names"] ["_law_told", "_law_names"] (az eO):=⟨rfl,rfl,rfl,by decide +kernel,rfl,by decide +kernel,by decide +kernel⟩
theorem uG (T:Txt w K mg t):FnOk P w K mg base CX0 2 t.pL t.n8 ["_law_told", "_law_names"] (sp__law_numbers K):=by
 have sc:=sc__law_numbers
 refine T.pF.ok sc (fun vs H Q E h=>?_) (fun cdv A outer s H vs Q E hr h=>?_)
 ·obtain⟨D,Ln,rk,names,rfl,_⟩:=h
  rfl
 ·obtain⟨D,Ln,rk,names,rfl,eD,eLn,n16,nok,perm,all,k⟩:=h
  refine⟨_,(au (bT (PW.pt (mH (dZ (dM (aV lY (by rfl) T.dN dq (aa (pv 0) (aa (oV (by rfl) T.n_dict bt_dict) ak aj) aj)))) (mz (bf (op_neD hr.units) (aV (call_sortD rfl) (by rfl) T.n_sorted bt_sorted (aa (pv 0) ak aj)) (aV call_sortS (by rfl) T.n_sorted bt_sorted (aa (pv 1) ak aj)) (bL _)))))
    (aB (aY fB))
    bD)
   (aB (aY (wK (op_eqD hr.units) (iR [0] ["_law_told", "_law_names"] (az eO) rfl (dg (pv 1)) (fun _ _ _ _ _=>(pf_one (PW.pt (mH (dZ (dM (aJ (qX T) (hr.mono (by decide)) (by rfl) T.ug T.oM.kp T.tY .nil aO (aa (dh hr.u1 (pv 1) (pv 0) (fun _ _=>rfl)) ak aF)))) (mz (bf rN (dh hr.u1 (pv 1) (pv 0) (fun _ _=>rfl)) aq (bL _))))))) (fun _ _ _ _ _=>(pv 0))) (bO ak) (bL _))))),?_⟩
  have hz:sizeLine=16777216:=sizeLine_eq
  have pl:=perm.length_eq
  rw [lM] at pl
  refine⟨_,rfl,_, "dict", "dict",true,rfl,.inr (.inr ⟨rfl,_,eD⟩),by decide,by decide,true,rfl,cQ ?_⟩
  refine⟨_,rfl,D,_,rk.map (·.1),rfl,.inl eD,by unfold kvG;rw [List.map_map,List.map_map];rfl,by rw [lM];omega,fun l1 z1 n1 p1 o1=>?_⟩
  have t1:=aH (o:=.lst (z1.map V.str)) n1
  have e1:upd H l1 (.lst (z1.map V.str)) l1=some (.lst (z1.map V.str)):=aA
  have eD:=t1 _ _ eD
  have eLn:=t1 _ _ eLn
  generalize upd H l1 (.lst (z1.map V.str))=H1 at t1 e1 eD eLn ⊢
  refine⟨_,rfl,Ln,names,rfl,SqL.of eLn,by omega,fun l2 z2 n2 p2 o2=>?_⟩
  have ez:z1=z2:=Aq o1 o2 (p1.trans (perm.trans p2.symm))
  subst ez
  have t2:=aH (o:=.lst (z1.map V.str)) n2
  have e2:upd H1 l2 (.lst (z1.map V.str)) l2=some (.lst (z1.map V.str)):=aA
  have e1:=t2 _ _ e1
  have eD:=t2 _ _ eD
  have eLn:=t2 _ _ eLn
  have s2:=t1.trans t2
  generalize upd H1 l2 (.lst (z1.map V.str))=H2 at t2 e1 e2 eD eLn s2 ⊢
  have g1:=Gd.list (Gd.strs 0 (xs:=z1) fun x hx=>nok x (p2.mem_iff.mp hx))
  refine⟨_,_,.list (SqL.of e1) (dts_str _),.list (SqL.of e2) (dts_str _),g1.shaped (by decide),g1.shaped (by decide),false,by rw [g1.eq];rfl,cQ ?_⟩
  refine⟨_,rfl,Ln,rfl,⟨_,SqL.of eLn⟩,?_⟩
  refine gG (K:=K) (a:=Ln) (xs:=names.map V.str) (fun i ys H9=>H9=H2∧ys=[]) (by rw [lM];omega) ⟨rfl,rfl⟩ (fun i ys H9 ⟨_,e⟩=>by rw [e];exact Nat.zero_le _) (fun i ys H9 _ ⟨e,_⟩=>by rw [e];exact SqL.of eLn) ?_ ?_
  ·rintro i x ys H9 hx ⟨e9,rfl⟩
   subst e9
   rw [List.getElem?_map] at hx
   obtain⟨y,hy,rfl⟩:=Option.map_eq_some_iff.mp hx
   obtain⟨v,hv,v0⟩:=all y (List.mem_of_getElem? hy)
   have g:=kW eD y
   rw [hv] at g
   refine⟨_,rfl,_,rfl,D,_,rfl,g,v,rfl,true,rfl,cQ ?_⟩
   exact⟨_,rfl,_,rfl,D,_,rfl,g,_,_,rfl,rfl,_,rfl,cY (by omega) ⟨rfl,rfl⟩⟩
  rintro ys H9 ⟨e9,rfl⟩ Lz nLz
  subst e9
  have t3:=aH (o:=.lst []) nLz
  refine⟨by show 0≤sizeLine;exact szl,fun u nu=>?_⟩
  have t4:=aH (o:=.lst []) nu
  refine⟨_,_,.list (SqL.of (t4 _ _ aA)) .nil,.list (SqL.of aA) .nil,xV.shaped (by decide),xV.shaped (by decide),?_⟩
  rw [xV.eq]
  exact k _ (s2.trans (t3.trans t4))
def sp__law_least (K:PySem.W.Frag):Sp:=fun vs H Q _=>∃(L:Addr) (x:Str) (n:Nat) (N:List Str) (ra:List AA),vs=[.ref L,.str x,.int (n:Nat)]∧ArcsR H L ra∧ra.length≤100∧ArcsIn N ra∧x∈N∧N.length≤16∧n≤16∧∀H' D,aW H H'→H D=none→H' D=some (.dK (kvG V.int (lN (ra.map (·.1)) x n)))→Q (.ref D) H'
theorem sc__law_least:FnScope ["_law_arcs_here", "_law_start", "_law_many", "_law_least_here", "_law_k", "_law_arc", "_law_number"] ["_law_arcs_here", "_law_start", "_law_many"] (az iW):=⟨rfl,rfl,rfl,by decide +kernel,rfl,by decide +kernel,by decide +kernel⟩
theorem ok__law_least (T:Txt w K mg t):FnOk P w K mg base CX0 1 t.ul t.qU ["_law_arcs_here", "_law_start", "_law_many"] (sp__law_least K):=by
 have sc:=sc__law_least
 refine T.yf.ok sc (fun vs H Q E h=>?_) (fun cdv A outer s H vs Q E hr h=>?_)
 ·obtain⟨L,x,n,N,ra,rfl,_⟩:=h
  rfl
 ·obtain⟨L,x,n,N,ra,rfl,A,hra,AI,hxN,hN,n16,k⟩:=h
  refine⟨_,(au (aZ (i:=3) sc.nd rfl (Or.inl rfl) (pe_disp (BZ (pv 1) aq pps_nil) rfl rfl (by simp) (by decide)))
   (au (d9 PassesOwn.never rfl (gU rfl T.lV (aa (pv 2) ak aj)) (bU (i:=4) sc.nd rfl (Or.inl rfl))
    (aB (d9 PassesOwn.never rfl (dg (pv 0)) (bU (i:=5) sc.nd rfl (Or.inl rfl))
     (aB (fj (bT (qR (xK hr.u1 (aQ bJ (pv 5) aq (fun _ _=>rfl)) (pv 3)))
      (au (aZ (i:=6) sc.nd rfl (Or.inl rfl) (bw dm (dh hr.u1 (pv 3) (aQ bJ (pv 5) aq (fun _ _=>rfl)) (fun _ _=>rfl)) (aQ bJ (pv 5) aq (fun _ _=>rfl))))
      (aB (fj (bT (bf rN (pv 6) (pe_dget2 hr.u1 (pv 3) (aQ bJ (pv 5) aq (fun _ _=>rfl)) (bw dm (pv 6) aq) ⟨rfl,rfl,rfl,rfl⟩) (bL _))
       (aB (kI hr.u1 (pv 3) (aQ bJ (pv 5) aq (fun _ _=>rfl)) (pv 6) rfl))
       bD))))
      bD))))))
   (aB (aY (pv 3))))),?_⟩
  have hz:sizeLine=16777216:=sizeLine_eq
  refine fun D nD=>⟨_,rfl,aA,[((Sum.inr x:Key),V.int 0)],rfl,by show 1≤15;decide,?_⟩
  rw [qj]
  have c0:=yJ (aH (o:=.dK (my [] [((Sum.inr x:Key),V.int 0)])) nD) nD
  have e0:(upd H D (.dK (my [] [((Sum.inr x:Key),V.int 0)]))) D=some (.dK (kvG V.int [(x,0)])):=aA
  generalize upd H D (.dK (my [] [((Sum.inr x:Key),V.int 0)]))=H0 at c0 e0 ⊢
  have ok0:LtOk N [(x,0)]:=⟨by simp,by simpa using hxN,by simp⟩
  refine⟨_,rfl,(n:Int),rfl,by omega,by omega,?_⟩
  rw [Int.toNat_natCast]
  refine oX (n:=n) (fun j σ H'=>aW H (bj [D] H')∧(∃v4 v5 v6,σ=[some (.ref L),some (.str x),some (.int (n:Nat)),some (.ref D),v4,v5,v6])∧H' D=some (.dK (kvG V.int (lN (ra.map (·.1)) x j)))∧LtOk N (lN (ra.map (·.1)) x j)) ⟨c0,⟨_,_,_,rfl⟩,e0,ok0⟩ ?_ ?_
  ·rintro j σ H1 hj ⟨s1,⟨v4,v5,v6,rfl⟩,eD,ok⟩
   obtain⟨lt,hlt⟩:∃lt,lN (ra.map (·.1)) x j=lt:=⟨_,rfl⟩
   rw [hlt] at eD ok
   have sH:=s1.trans bQ
   refine⟨_,rfl,L,rfl,⟨_,SqL.of (sH _ _ A.lst)⟩,?_⟩
   refine il (K:=K) (a:=L) (xs:=ra.map fun q=>V.ref q.2) (fun i σ H'=>aW H (bj [D] H')∧(∃v4 v5 v6,σ=[some (.ref L),some (.str x),some (.int (n:Nat)),some (.ref D),v4,v5,v6])∧∃lt',H' D=some (.dK (kvG V.int lt'))∧LtOk N lt'∧lt'=lF ((ra.take i).map (·.1)) lt) ⟨s1,⟨_,_,_,rfl⟩,lt,eD,ok,rfl⟩ (fun i σ H' _ h=>SqL.of (bQ _ _ (h.1 _ _ A.lst))) ?_ ?_
   ·rintro i y σ H' hx ⟨s',⟨v4,v5,v6,rfl⟩,lt',eD',ok',hlF⟩
    obtain⟨a,haj,rfl,ea⟩:=(A.same (s'.trans bQ)).get hx
    have ham:=List.mem_of_getElem? haj
    have hlS:lF ((ra.take (i+1)).map (·.1)) lt=lS lt' a.1:=by
     rw [hlF,List.take_succ,haj,Option.toList_some,List.map_append]
     unfold lF
     rw [List.foldl_append]
     rfl
    have J:∀{σ2:St} {H2:Hp},(∃v4 v5 v6,σ2=[some (.ref L),some (.str x),some (.int (n:Nat)),some (.ref D),v4,v5,v6])→aW H (bj [D] H2)→(∃lt',H2 D=some (.dK (kvG V.int lt'))∧LtOk N lt'∧lt'=lF ((ra.take (i+1)).map (·.1)) lt)→aW H (bj [D] H2)∧(∃v4 v5 v6,σ2=[some (.ref L),some (.str x),some (.int (n:Nat)),some (.ref D),v4,v5,v6])∧∃lt',H2 D=some (.dK (kvG V.int lt'))∧LtOk N lt'∧lt'=lF ((ra.take (i+1)).map (·.1)) lt:=fun a b c=>⟨b,a,c⟩
    refine⟨fun σ2 H2=>aW H (bj [D] H2)∧(∃v4 v5 v6,σ2=[some (.ref L),some (.str x),some (.int (n:Nat)),some (.ref D),v4,v5,v6])∧∃lt',H2 D=some (.dK (kvG V.int lt'))∧LtOk N lt'∧lt'=lF ((ra.take (i+1)).map (·.1)) lt,?_,fun _ _ h=>h⟩
    have g1:=kW eD' a.1.fr
    have g2:=kW eD' a.1.to
    refine⟨_,rfl,a.2,_,0,_,rfl,rfl,SqT.of ea,aK (j:=0) rfl,_,rfl,D,_,rfl,g1,_,rfl,?_⟩
    cases hf:lkG lt' a.1.fr with
    | none=>exact cQ (J ⟨_,_,_,rfl⟩ s' ⟨lt',eD',ok',by rw [hlS];unfold lS;rw [hf]⟩)
    | some v=>
     rw [hf] at g1
     refine tV ?_
     refine⟨_,rfl,_,rfl,a.2,_,0,_,rfl,rfl,SqT.of ea,aK (j:=0) rfl,D,_,rfl,g1,_,rfl,a.2,_,2,_,rfl,rfl,SqT.of ea,aK (j:=2) rfl,v,a.1.tk,rfl,rfl,?_⟩
     refine⟨fun σ2 H2=>aW H (bj [D] H2)∧(∃v4 v5 v6,σ2=[some (.ref L),some (.str x),some (.int (n:Nat)),some (.ref D),v4,v5,v6])∧∃lt',H2 D=some (.dK (kvG V.int lt'))∧LtOk N lt'∧lt'=lF ((ra.take (i+1)).map (·.1)) lt,?_,fun _ _ h=>h⟩
     refine⟨_,rfl,_,rfl,D,rfl,.inl ⟨_,.inl eD'⟩,_,rfl,a.2,_,1,_,rfl,rfl,SqT.of ea,aK (j:=1) rfl,_,rfl,v+a.1.tk,1,rfl,rfl,_,g2,?_⟩
     obtain⟨w,hw,hwg,hw2⟩:∃w:Int,((lkG lt' a.1.to).map V.int).getD (.int (v+a.1.tk+1))=.int w∧w=(lkG lt' a.1.to).getD (v+a.1.tk+1)∧(v+a.1.tk <w→∀u,lkG lt' a.1.to=some u→v+a.1.tk <u):=by
      cases e:lkG lt' a.1.to with
      | none=>exact⟨_,rfl,rfl,fun _ u z=>by cases z⟩
      | some u=>exact⟨u,rfl,rfl,fun h u' z=>by cases z;exact h⟩
     rw [hw]
     refine⟨v+a.1.tk,w,rfl,rfl,_,rfl,oH (fun h=>?_) (fun h=>?_)⟩
     ·have h:v+a.1.tk <w:=of_decide_eq_true h
      obtain⟨ok2,lt2⟩:=ok'.step hN hf (AI.to a ham) (AI.tk0 a ham) (AI.tk1 a ham) (hw2 h)
      have ll:=Rg.pR ok'.nd ok'.inN
      rw [lM] at ll
      refine⟨_,rfl,_,rfl,_,rfl,a.2,_,1,_,rfl,rfl,SqT.of ea,aK (j:=1) rfl,D,_,rfl,wV.k (k:=Sum.inr a.1.to) eD' (by rw [sZ];omega),?_⟩
      rw [wH]
      exact J ⟨_,_,_,rfl⟩ (by rw [cj (by simp)];exact s') ⟨eV lt' a.1.to (v+a.1.tk),aA,ok2,by rw [hlS];unfold lS;rw [hf];exact(if_pos (by rw [←hwg];exact h)).symm⟩
     ·exact J ⟨_,_,_,rfl⟩ s' ⟨lt',eD',ok',by rw [hlS];unfold lS;rw [hf];exact(if_neg (by rw [←hwg];exact fun z=>h (decide_eq_true z))).symm⟩
   ·rintro σ H' ⟨s',hσ,lt',eD',ok',hlF⟩
    rw [lM,List.take_length] at hlF
    have e:lt'=lN (ra.map (·.1)) x (j+1):=by rw [hlF,←hlt];rfl
    rw [e] at eD' ok'
    exact⟨s',hσ,eD',ok'⟩
  rintro σ H' ⟨s',⟨v4,v5,v6,rfl⟩,eD',ok'⟩
  exact⟨_,rfl,k _ D (s'.trans bQ) nD eD'⟩
theorem tF_lk {tm:List (Str×Int)} {x:Str} {v:Int} (h:lkG tm x=some v):tF tm x=v:=by unfold tF;rw [h];rfl
def sp__law_paper (K:PySem.W.Frag):Sp:=fun vs H Q _=>∃(Tp A Ln R D1 D2:Addr) (ls:List LaneD) (ps:List PD) (as ra:List AA) (tm lt:List (Str×Int)) (H0:Hp),vs=[.ref Tp,.ref A,.ref Ln]∧H Tp=some (.tup [.int (pS as),.int (qS as),.ref R,.ref D1,.ref D2])∧Paper H0 H R D1 D2 ls ps as tm lt∧ArcsR H A ra∧ra.map (·.1)=cX ls ps∧H Ln=some (.lst ((ps.map (·.name)).map V.str))∧Fit ls ps∧∀H',aW H H'→Q (.bl true) H'
theorem sc__law_paper:FnScope ["_law_paper_here", "_law_arcs_here", "_law_names", "_law_top", "_law_bottom", "_law_ring_here", "_law_times", "_law_ahead"] ["_law_paper_here", "_law_arcs_here", "_law_names"] (az fH):=⟨rfl,rfl,rfl,by decide +kernel,rfl,by decide +kernel,by decide +kernel⟩
theorem ok__law_paper (T:Txt w K mg t):FnOk P w K mg base CX0 3 t.uw t.qH ["_law_paper_here", "_law_arcs_here", "_law_names"] (sp__law_paper K):=by
 have sc:=sc__law_paper
 refine T.yx.ok sc (fun vs H Q E h=>?_) (fun cdv A outer s H vs Q E hr h=>?_)
 ·obtain⟨Tp,A,Ln,R,D1,D2,ls,ps,as,ra,tm,lt,H0,rfl,_⟩:=h
  rfl
 ·obtain⟨Tp,A,Ln,R,D1,D2,ls,ps,as,ra,tm,lt,H0,rfl,eT,PA,AR,era,eLn,F,k⟩:=h
  refine⟨_,(au (bT (PW.pt (mH (dZ (dM (aV lY (by rfl) T.dN dq (aa (pv 0) (aa (oV (by rfl) T.wN rM) ak aj) aj)))) (mz (bf zM (aV bN (by rfl) T.du cC (aa (pv 0) ak aj)) aq (bL _)))))
    (aB (aY fB))
    bD)
   (au (ps_asg (pv 0) (pg_tup rfl (gh (bU (i:=3) sc.nd rfl (Or.inr rfl)) (gh (bU (i:=4) sc.nd rfl (Or.inr rfl)) (gh (bU (i:=5) sc.nd rfl (Or.inl rfl)) (gh (bU (i:=6) sc.nd rfl (Or.inr rfl)) (gh (bU (i:=7) sc.nd rfl (Or.inl rfl)) Aa)))))))
   (au (bT (PW.pt (mH (dZ (dM (aJ (qX T) (hr.mono (by decide)) (by rfl) T.ug T.oM.kp T.tY .nil aO (aa (pv 3) ak aj)))) (mH (dZ (dM (aJ (qX T) (hr.mono (by decide)) (by rfl) T.ug T.oM.kp T.tY .nil aO (aa (pv 4) ak aj)))) (mH (dZ (pt_chain3 uI uI uI aq (pv 3) (pv 4) aq)) (mz (dM (aJ (ok__law_divides T) (hr.mono (by decide)) (by rfl) T.m__law_divides T.uQ.kp T.b__law_divides .nil aO (aa (pv 3) (aa (pv 4) ak aj) aj))))))))
    (aB (aY fB))
    bD)
   (au (bT (PW.pt (mH (PW.pt (uy (bf iG (pv 3) aq (bL _)) (qw (bf zM (pv 4) aq (bL _))))) (mH (dZ (dM (aJ (ok__law_ring T) (hr.mono (by decide)) (by rfl) T.m__law_ring T.zA.kp T.b__law_ring .nil aO (aa (pv 5) (aa (pv 1) ak aj) aj)))) (mz (bf op_gt (aV bN (by rfl) T.du cC (aa (pv 5) ak aj)) aq (bL _))))))
    (aB (aY fB))
    bD)
   (au (bT (bf zM (bw mF (pv 4) (aV (call_sum rfl) (by rfl) T.n_sum bt_sum (aa (iR [] ["_law_paper_here", "_law_arcs_here", "_law_names", "_law_top", "_law_bottom", "_law_ring_here", "_law_times", "_law_ahead"] (az fH) rfl (dg (pv 5)) (fun _ _ _ _ _=>mD) (fun _ _ _ _ _=>(aQ (kO (K:=K) rfl) (pv 0) aq (fun _ _=>rfl)))) ak gP))) (bw mF (pv 3) (aV bN (by rfl) T.du cC (aa (pv 5) ak aj))) (bL _))
    (aB (aY fB))
    bD)
   (au (bT (PW.pt (mH (dZ (dM (aJ (uG T) (hr.mono (by decide)) (by rfl) T.uL T.pF.kp T.wz .nil aO (aa (pv 6) (aa (pv 2) ak aj) aj)))) (mz (dZ (dM (aJ (uG T) (hr.mono (by decide)) (by rfl) T.uL T.pF.kp T.wz .nil aO (aa (pv 7) (aa (pv 2) ak aj) aj)))))))
    (aB (aY fB))
    bD)
   (au (bT (bf (op_neD hr.units) (iR [3,4,6] ["_law_paper_here", "_law_arcs_here", "_law_names", "_law_top", "_law_bottom", "_law_ring_here", "_law_times", "_law_ahead"] (az fH) rfl (dg (pv 1)) (fun _ _ _ _ _=>(pf_one (bf rN (dh hr.u1 (pv 3) (aQ (kO (K:=K) rfl) (pv 0) aq (fun _ _=>rfl)) (fun _ _=>rfl)) (bw xR (bw dm (dh hr.u1 (pv 3) (aQ (kO (K:=K) rfl) (pv 0) aq (fun _ _=>rfl)) (fun _ _=>rfl)) (pv 1)) (bw mF (pv 2) (aQ (kO (K:=K) rfl) (pv 0) aq (fun _ _=>rfl)))) (bL _)))) (fun _ _ _ _ _=>(pv 0))) (bO ak) (bL _))
    (aB (aY fB))
    bD)
   (aB (aY (wK (op_eqKK hr.u100) (pv 7) (aJ (ok__law_least T) (hr.mono (by decide)) (by rfl) T.m__law_least T.yf.kp T.b__law_least .nil aO (aa (pv 1) (aa (aQ bJ (aQ bA (pv 5) aq (fun _ _=>rfl)) aq (fun _ _=>rfl)) (aa (aV bN (by rfl) T.du cC (aa (pv 2) ak aj)) ak aX) aF) aj)) (bL _))))))))))),?_⟩
  have hz:sizeLine=16777216:=sizeLine_eq
  have l1:=len_pos PA.ne
  have l16:=PA.len
  have tks:TkOk as:=⟨by omega,fun a ha=>F.tks a.1 (PA.mem a ha)⟩
  have t0:=tks.sum.1
  have g0:=wM (a:=ig as) (b:=(as.length:Nat)) (by omega)
  have q0:=qS_pos PA.ne
  have p0:0≤pS as:=Int.ediv_nonneg t0 (by omega)
  have pq:=frac_le PA.ne PA.le
  have q16:qS as≤16:=by
   have:qS as≤(as.length:Nat):=Int.ediv_le_self _ (by omega)
   omega
  have cop:∀d:Int,2≤d→d ∣ pS as→d ∣ qS as→False:=fun d hd h1 h2=>gcd_cop g0 hd h1 h2
  have pz:pS as=0→qS as=1:=fun z=>Classical.byContradiction fun h=>cop (qS as) (by omega) (by rw [z];exact Int.dvd_zero _) (Int.dvd_refl _)
  have hp:pS as * (as.length:Int)=ig as * qS as:=red (by omega)
  have rl:ra.length≤64:=by
   have:=congrArg List.length era
   rw [lM] at this
   rw [this]
   exact Ao _ _ F.l24 F.p16
  have p16:=F.p16
  have nl:(ps.map (·.name)).length≤16:=by rw [lM];exact p16
  have nok:∀x∈ps.map (·.name),PyData.strOk x=true:=fun x hx=>by
   obtain⟨p,hp,rfl⟩:=List.mem_map.mp hx
   exact sy (F.pnm p hp)
  obtain⟨a0,ar,has⟩:=List.exists_cons_of_ne_nil PA.ne
  have ma:a0∈as:=by rw [has];exact List.mem_cons_self
  have hlt:=PA.lt_ a0 ar has
  have hfr:=(F.inA a0.1 (PA.mem a0 ma)).1
  have all2:=lt_all F hfr fun a ha=>(F.tks a ha).1
  rw [←hlt] at all2
  have perm2:(lt.map (·.1)).Perm (ps.map (·.name)):=nd_perm PA.lok.nd PA.lok.inN (Rg.pR F.pnd fun x hx=>by
   obtain⟨v,hv⟩:=all2 x hx
   exact qx.mp (by rw [hv];rfl))
  have val1:∀x∈ps.map (·.name),∃v,lkG tm x=some v∧0≤v:=fun x hx=>by
   obtain⟨v,hv⟩:=Option.isSome_iff_exists.mp (qx.mpr (by rw [PA.keys];exact hx))
   refine⟨v,hv,?_⟩
   rw [←tF_lk hv]
   exact PA.pos x
  have val2:∀x∈ps.map (·.name),∃v,lkG lt x=some v∧0≤v:=fun x hx=>by
   obtain⟨v,hv⟩:=all2 x hx
   exact⟨v,hv,(PA.lok.v _ (oU hv)).1⟩
  refine hide fun u hu=>?_
  refine⟨_,rfl,_, "tuple", "tuple",true,rfl,.inr (.inl ⟨rfl,_,SqT.of eT⟩),by decide,by decide,true,rfl,cQ ?_⟩
  refine⟨_,rfl,.ref Tp,5,rfl,.inr ⟨_,SqT.of eT,rfl⟩,rfl,false,rfl,cQ ?_⟩
  refine bx (v:=u) hu fun u hu=>?_
  refine⟨_,rfl,Tp,_,rfl,SqT.of eT,rfl,_,_,rfl,_,_,rfl,_,_,rfl,_,_,rfl,_,_,rfl,rfl,?_⟩
  refine bx (v:=u) hu fun u hu=>?_
  refine⟨_,rfl,pS as,rfl,true,rfl,cQ ?_⟩
  refine⟨_,rfl,qS as,rfl,true,rfl,cQ ?_⟩
  refine⟨_,rfl,_,_,rfl,rfl,_,rfl,uK p0 ⟨_,rfl,_,_,rfl,rfl,_,rfl,uK pq ⟨_,_,rfl,rfl,_,rfl,iteNS q16 ?_⟩⟩⟩
  refine⟨_,rfl,_,rfl,pS as,qS as,rfl,cop,false,rfl,cQ ?_⟩
  refine bx (v:=u) hu fun u hu=>?_
  refine⟨_,rfl,rfl,_,rfl,Ag ?_ (fun e b=>⟨_,rfl,rfl,_,rfl,iteNS (by rw [pz (by simpa using of_decide_eq_true e)]) b⟩) (fun b=>cQ b)⟩
  refine⟨_,rfl,_,rfl,R,A,as,ra,rfl,PA.arcs,AR,PA.ne,by omega,fun a ha=>by rw [era];exact PA.mem a ha,fun a ha=>F.arcG a.1 (by rw [←era];exact List.mem_map.mpr ⟨a,ha,rfl⟩),PA.cyc,fun H1 s1=>⟨true,rfl,cQ ?_⟩⟩
  have AL:=PA.arcs.same s1
  have AR:=AR.same s1
  have eLn:=s1 _ _ eLn
  have e1:=s1 _ _ PA.e1
  have e2:=s1 _ _ PA.e2
  refine⟨_,rfl,.ref R,as.length,rfl,.inl ⟨_,SqL.of AL.lst,by simp⟩,_,_,rfl,rfl,_,rfl,cY (by omega) ?_⟩
  refine bx (v:=u) hu fun u hu=>?_
  refine⟨_,rfl,_,rfl,R,rfl,⟨_,SqL.of AL.lst⟩,?_⟩
  refine gG (K:=K) (a:=R) (xs:=as.map fun q=>V.ref q.2) (fun i ys H2=>H2=H1∧ys=((as.take i).map fun a=>a.1.tk).map V.int) (by rw [lM];omega) ⟨rfl,rfl⟩ (fun i ys H2 ⟨_,e⟩=>by rw [e,lM,lM,List.length_take];omega) (fun i ys H2 _ ⟨e,_⟩=>by rw [e];exact SqL.of AL.lst) ?_ ?_
  ·rintro i x ys H2 hx ⟨e9,rfl⟩
   subst e9
   obtain⟨q,hq,rfl,eq⟩:=AL.get hx
   refine yes ⟨_,rfl,q.2,_,2,_,rfl,rfl,SqT.of eq,aK (j:=2) rfl,rfl,?_⟩
   rw [List.take_succ,hq,Option.toList_some,List.map_append,List.map_append]
   rfl
  rintro ys H2 ⟨e9,rfl⟩ Ls nLs
  subst e9
  rw [lM,List.take_length]
  have t2:=aH (o:=.lst ((as.map fun a:AA=>a.1.tk).map V.int)) nLs
  have eLs:upd H2 Ls (.lst ((as.map fun a:AA=>a.1.tk).map V.int)) Ls=some (.lst ((as.map fun a:AA=>a.1.tk).map V.int)):=aA
  have AL:=AL.same t2
  have AR:=AR.same t2
  have eLn:=t2 _ _ eLn
  have e1:=t2 _ _ e1
  have e2:=t2 _ _ e2
  have s2:=s1.trans t2
  generalize upd H2 Ls (.lst ((as.map fun a:AA=>a.1.tk).map V.int))=H3 at t2 eLs AL AR eLn e1 e2 s2 ⊢
  refine⟨Ls,as.map (fun a:AA=>a.1.tk),rfl,SqL.of eLs,fun x hx=>by
   obtain⟨a,ha,rfl⟩:=List.mem_map.mp hx
   exact tks.tk a ha,by rw [lM];omega,qS as,ig as,rfl,rfl,.of_left (intBits_le_64 (by omega) (by omega)),?_⟩
  refine⟨_,rfl,_,rfl,.ref R,as.length,rfl,.inl ⟨_,SqL.of AL.lst,by simp⟩,pS as,(as.length:Int),rfl,rfl,.of_left (intBits_le_64 (by omega) (by omega)),rfl,false,by show V.bl (!decide (V.int (qS as * ig as)=V.int (pS as * (as.length:Int))))=V.bl false;rw [hp,Int.mul_comm (qS as)];simp,cQ ?_⟩
  refine bx (v:=u) hu fun u hu=>?_
  refine⟨_,rfl,_,rfl,D1,Ln,tm,ps.map (·.name),rfl,e1,eLn,nl,nok,by rw [PA.keys],val1,fun H4 s4=>⟨true,rfl,cQ ?_⟩⟩
  refine⟨_,rfl,_,rfl,D2,Ln,lt,ps.map (·.name),rfl,s4 _ _ e2,s4 _ _ eLn,nl,nok,perm2,val2,fun H5 s5=>⟨true,rfl,cQ ?_⟩⟩
  have s45:=s4.trans s5
  have AL:=AL.same s45
  have AR:=AR.same s45
  have eLn:=s45 _ _ eLn
  have e1:=s45 _ _ e1
  have e2:=s45 _ _ e2
  have s6:=s2.trans s45
  refine bx (v:=u) hu fun u hu=>?_
  refine⟨_,rfl,A,rfl,⟨_,SqL.of AR.lst⟩,?_⟩
  refine gG (K:=K) (a:=A) (xs:=ra.map fun q=>V.ref q.2) (fun i ys H9=>H9=H5∧ys=[]) (by rw [lM];omega) ⟨rfl,rfl⟩ (fun i ys H9 ⟨_,e⟩=>by rw [e];exact Nat.zero_le _) (fun i ys H9 _ ⟨e,_⟩=>by rw [e];exact SqL.of AR.lst) ?_ ?_
  ·rintro i x ys H9 hx ⟨e9,rfl⟩
   subst e9
   obtain⟨a,hq,rfl,ea⟩:=AR.get hx
   have mq:a.1∈cX ls ps:=by rw [←era];exact List.mem_map.mpr ⟨a,List.mem_of_getElem? hq,rfl⟩
   obtain⟨i1,i2⟩:=F.inA a.1 mq
   obtain⟨vt,hvt,_⟩:=val1 _ i2
   obtain⟨vf,hvf,_⟩:=val1 _ i1
   have gt:=kW e1 a.1.to
   have gf:=kW e1 a.1.fr
   rw [hvt] at gt
   rw [hvf] at gf
   have sat:=PA.sat a.1 mq
   rw [tF_lk hvt,tF_lk hvf] at sat
   have tkb:=F.tks a.1 mq
   exact⟨_,rfl,_,rfl,a.2,_,1,_,rfl,rfl,SqT.of ea,aK (j:=1) rfl,D1,_,rfl,gt,_,rfl,_,rfl,a.2,_,0,_,rfl,rfl,SqT.of ea,aK (j:=0) rfl,D1,_,rfl,gf,_,rfl,vf,pS as,rfl,rfl,_,rfl,_,rfl,a.2,_,2,_,rfl,rfl,SqT.of ea,aK (j:=2) rfl,qS as,a.1.tk,rfl,rfl,.of_left (intBits_le_64 (by omega) (by omega)),vf+pS as,qS as * a.1.tk,rfl,rfl,vt,vf+pS as - qS as * a.1.tk,rfl,rfl,_,rfl,cY (by omega) ⟨rfl,rfl⟩⟩
  rintro ys H9 ⟨e9,rfl⟩ Lz nLz
  subst e9
  have t3:=aH (o:=.lst []) nLz
  refine⟨by show 0≤sizeLine;exact szl,fun u nu=>?_⟩
  have t4:=aH (o:=.lst []) nu
  refine⟨_,_,.list (SqL.of (t4 _ _ aA)) .nil,.list (SqL.of aA) .nil,xV.shaped (by decide),xV.shaped (by decide),?_⟩
  rw [xV.eq]
  have t34:=t3.trans t4
  have AL:=AL.same t34
  have AR:=AR.same t34
  have eLn:=t34 _ _ eLn
  have e2:=t34 _ _ e2
  have s7:=s6.trans t34
  generalize upd (upd H9 Lz (.lst [])) u (.lst [])=H7 at t34 AL AR eLn e2 s7 ⊢
  refine⟨false,rfl,cQ ?_⟩
  subst hu
  have l0:(as.map fun q=>V.ref q.2)[0]?=some (.ref a0.2):=by rw [has];rfl
  have AI:=yR F era
  refine⟨_,rfl,_,rfl,_,rfl,R,_,0,_,rfl,rfl,SqL.of AL.lst,aK (j:=0) l0,a0.2,_,0,_,rfl,rfl,SqT.of (AL.at_ a0 ma),aK (j:=0) rfl,_,rfl,.ref Ln,(ps.map (·.name)).length,rfl,.inl ⟨_,SqL.of eLn,by simp⟩,A,a0.1.fr,(ps.map (·.name)).length,ps.map (·.name),ra,rfl,AR,by omega,AI,hfr,nl,nl,fun H8 D8 s8 nD8 eD8=>?_⟩
  rw [era,←hlt] at eD8
  refine⟨⟨D2,D8,_,rfl,rfl,aD e2 nD8,.inl (s8 _ _ e2),.inl eD8,fun kv hkv=>?_⟩,k _ (s7.trans s8)⟩
  obtain⟨v,hv⟩:=kv_int _ kv hkv
  rw [hv]
  exact⟨_,.int v,(Gd.int 0 v).shaped (by decide),(Gd.int 0 v).eq⟩
def sp_law (K:PySem.W.Frag):Sp:=fun vs H Q _=>∃(a:Addr) (ns:List Int),vs=[.ref a]∧SqL K H a (ns.map V.int)∧ns.length≤63∧∀H',Q (.bl true) H'
theorem sc_law:FnScope ["_law_script", "_law_lanes", "_law_parts", "_law_cell_here", "_law_names", "_law_net_here", "_law_arcs_here", "_law_paper_here", "_law_held", "_law_thing"] ["_law_script"] (az BL):=⟨rfl,rfl,rfl,by decide +kernel,rfl,by decide +kernel,by decide +kernel⟩
theorem ok_law (T:Txt w K mg t):FnOk P w K mg base CX0 8 t.f_law t.fd_law ["_law_script"] (sp_law K):=by
 have sc:=sc_law
 refine T.F_law.ok sc (fun vs H Q E h=>?_) (fun cdv A outer s H vs Q E hr h=>?_)
 ·obtain⟨a,ns,rfl,_⟩:=h
  rfl
 ·obtain⟨a,ns,rfl,hS,hlen,k⟩:=h
  refine⟨_,(au (ps_asg (aJ (ok__law_net T) (hr.mono (by decide)) (by rfl) T.m__law_net T.Aj.kp T.b__law_net .nil aO (aa (pv 0) (aa aq (aa aq (aa fB ak ao) ao) ao) aj)) (pg_tup rfl (gh (bU (i:=1) sc.nd rfl (Or.inl rfl)) (gh (bU (i:=2) sc.nd rfl (Or.inl rfl)) Aa))))
   (au (d9 PassesOwn.never rfl (dg (pQ z8 (pv 0) (qp aq) (qp aq))) (bU (i:=3) sc.nd rfl (Or.inl rfl))
    (aB (bH (aJ (ok__law_changed T) (hr.mono (by decide)) (by rfl) T.m__law_changed T.uX.kp T.b__law_changed .nil aO (aa (pv 1) (aa (pv 3) ak aj) aj)))))
   (au (yg (i:=4) [] ["_law_script", "_law_lanes", "_law_parts", "_law_cell_here", "_law_names", "_law_net_here", "_law_arcs_here", "_law_paper_here", "_law_held", "_law_thing"] (az BL) rfl sc.nd rfl (dg (pv 2)) (fun _ _ _ _ _=>mD) (fun _ _ _ _ _=>(aQ (kO (K:=K) rfl) (pv 0) aq (fun _ _=>rfl))))
   (au (aZ (i:=5) sc.nd rfl (Or.inl rfl) (kJ T.M_Net (ok_Net___init__ T) (hr.mono (by decide)) (by rfl) T.mc_Net T.b_Net___init__ .nil aO (aa (pv 1) (aa (pv 2) ak aj) aj)))
   (au (aZ (i:=6) sc.nd rfl (Or.inl rfl) (aJ (ok__law_arcs T) (hr.mono (by decide)) (by rfl) T.m__law_arcs T.zV.kp T.b__law_arcs .nil aO (aa (pv 1) (aa (pv 2) ak aj) aj)))
   (au (aZ (i:=7) sc.nd rfl (Or.inl rfl) (aJ (ok_share T) (hr.mono (by decide)) (by rfl) T.m_share T.F_share.kp T.b_share .nil aO (aa (pv 5) ak aj)))
   (au (bT (dZ (dM (aJ (ok__law_paper T) (hr.mono (by decide)) (by rfl) T.m__law_paper T.yx.kp T.b__law_paper .nil aO (aa (pv 7) (aa (pv 6) (aa (pv 4) ak aj) aj) aj))))
    (aB (aY fB))
    bD)
   (au (aZ (i:=8) sc.nd rfl (Or.inl rfl) (ie (aa (aQ bJ (pv 7) aq (fun _ _=>rfl)) (aa (aQ bJ (pv 7) aq (fun _ _=>rfl)) (aa (eY yI (by rfl) T.zb wJ (aa (aQ bJ (pv 7) aq (fun _ _=>rfl)) ak aF)) (aa (eY ye (by rfl) T.n_dict bt_dict (aa (aQ bJ (pv 7) aq (fun _ _=>rfl)) ak aF)) (aa (eY ye (by rfl) T.n_dict bt_dict (aa (aQ bJ (pv 7) aq (fun _ _=>rfl)) ak aF)) ak aX) aX) aX) aF) aF)))
   (au (d9 PassesOwn.never rfl (pi_tup (pQ sl_tup (pv 7) (qp aq) wL)) (bU (i:=9) sc.nd rfl (Or.inl rfl))
    (aB (bH (pe_alt (BX PySem.F.plainAttrs_list PySem.F.slot_list_clear PySem.F.type_list_clear mt_clear (pv 9)) (BX PySem.F.plainAttrs_dict PySem.F.slot_dict_clear PySem.F.type_dict_clear mt_dclear (pv 9))))))
   (aB (aY (wK (op_eqA hr.u100) (aJ (ok_share T) (hr.mono (by decide)) (by rfl) T.m_share T.F_share.kp T.b_share .nil aO (aa (pv 5) ak aj)) (pv 8) (bL _))))))))))))),?_⟩
  have hz:sizeLine=16777216:=sizeLine_eq
  refine hide fun u hu=>?_
  refine⟨_,rfl,a,ns,0,4,rfl,hS,by omega,fun T' L P ls0 ps H1 s1 nL nP nLP eT A D=>?_⟩
  refine⟨T',_,rfl,SqT.of eT,rfl,_,_,rfl,_,_,rfl,rfl,?_⟩
  have F0:=D.fit
  have ho:=D.calm.odd
  have p16:=F0.p16
  have C1:=A.cutL F0.l1 nLP
  clear A D nL nP
  refine bx (v:=u) hu fun u hu=>?_
  refine⟨_,rfl,_,rfl,_,rfl,a,_,rfl,s1.seq hS,fun p np=>⟨p,rfl,⟨_,SqL.of aA⟩,?_⟩⟩
  obtain⟨cs,ecs,lcs⟩:∃cs:List Int,ym (ns.map V.int) (some 6) (some 26)=cs.map V.int∧cs.length≤20:=by
   refine⟨(ns.drop (min 6 ns.length)).take (min 26 ns.length - min 6 ns.length),(cutV_mid (ns.map V.int) 6 26).trans ?_,?_⟩
   ·rw [List.map_take,List.map_drop,lM]
   ·rw [List.length_take];omega
  rw [ecs]
  have tp:=aH (o:=.lst (cs.map V.int)) np
  have ep:upd H1 p (.lst (cs.map V.int)) p=some (.lst (cs.map V.int)):=aA
  have C2:=C1.same tp
  have nLp:p≠L:=by
   obtain⟨xs,e,_⟩:=C1.lanes
   exact Ne.symm (aD e np)
  generalize upd H1 p (.lst (cs.map V.int))=H2 at tp ep C2 ⊢
  have ep2:bj [L] H2 p=some (.lst (cs.map V.int)):=dw ep (by rw [List.mem_singleton];exact nLp)
  refine il (K:=K) (a:=p) (xs:=cs.map V.int) (fun j σ H'=>(∃v3,σ=[some (.ref a),some (.ref L),some (.ref P),v3,none,none,none,none,none,none])∧bj [L] H' p=some (.lst (cs.map V.int))∧∃ls,NetC H' L P ls ps∧Fit ls ps) ⟨⟨_,rfl⟩,ep2,ls0,C2,F0⟩ (fun j σ H' _ h=>SqL.of (bQ _ _ h.2.1)) ?_ ?_
  ·rintro j x σ H' hx ⟨⟨v3,rfl⟩,ep',ls,C,F⟩
   rw [List.getElem?_map] at hx
   obtain⟨c,hc,rfl⟩:=Option.map_eq_some_iff.mp hx
   exact⟨_,rfl,_,rfl,L,P,c,ls,ps,rfl,C,F,fun H9 ls' s9 C9 F9=>⟨⟨_,rfl⟩,s9 _ _ ep',ls',C9,F9⟩⟩
  rintro σ H3 ⟨⟨v3,rfl⟩,_,ls,C,F⟩
  have A:=C.net
  clear C C1 C2 ep2 ep tp
  obtain⟨⟨xs,eL,aL⟩,⟨ys,eP,aP⟩⟩:=id A
  have ly:=aP.length
  refine bx (v:=u) hu fun u hu=>?_
  refine⟨_,rfl,P,rfl,⟨_,SqL.of eP⟩,?_⟩
  refine gG (K:=K) (a:=P) (xs:=ys) (fun i zs H9=>H9=H3∧zs=((ps.take i).map (·.name)).map V.str) (by omega) ⟨rfl,rfl⟩ (fun i zs H9 ⟨_,e⟩=>by rw [e,lM,lM,List.length_take];omega) (fun i zs H9 _ ⟨e,_⟩=>by rw [e];exact SqL.of eP) ?_ ?_
  ·rintro i x zs H9 hx ⟨e9,rfl⟩
   subst e9
   obtain⟨p',hpi,q',b1,b2,b3,rfl,hq',w1,w2,w3⟩:=aP.get hx
   refine yes ⟨_,rfl,q',_,1,_,rfl,rfl,SqT.of hq',aK (j:=1) rfl,rfl,?_⟩
   rw [List.take_succ,hpi,Option.toList_some,List.map_append,List.map_append]
   rfl
  rintro zs H9 ⟨e9,rfl⟩ Ln nLn
  subst e9
  rw [ly,List.take_length]
  have tn:=aH (o:=.lst ((ps.map (·.name)).map V.str)) nLn
  have eLn:upd H9 Ln (.lst ((ps.map (·.name)).map V.str)) Ln=some (.lst ((ps.map (·.name)).map V.str)):=aA
  have A:=A.same tn
  generalize upd H9 Ln (.lst ((ps.map (·.name)).map V.str))=G3 at tn eLn A ⊢
  refine bx (v:=u) hu fun u hu=>?_
  refine⟨_,rfl,_,rfl,fun n dxn nn ndn nen=>?_⟩
  have g4:aW G3 (upd (upd G3 dxn (.own n)) n (.ins t.bK dxn [])):=fun b o e=>by rw [aM (aD e nn),aM (aD e ndn)];exact e
  have hH:Hand K (upd (upd G3 dxn (.own n)) n (.ins t.bK dxn [])) L P ls ps:=by
   obtain⟨⟨x1,x2,x3⟩,⟨y1,y2,y3⟩⟩:=A.same g4
   refine⟨⟨x1,SqL.of x2,x3.imp fun _ _ h=>?_⟩,⟨y1,SqL.of y2,y3.imp fun _ _ h=>?_⟩⟩
   ·obtain⟨q,f,e,h1,h2⟩:=h
    exact⟨q,f,e,h1,.inl (SqL.of h2)⟩
   ·obtain⟨q,a1,a2,a3,e,h1,h2,h3,h4⟩:=h
    exact⟨q,a1,a2,a3,e,h1,.inl (SqL.of h2),.inl (SqL.of h3),.inl (SqL.of h4)⟩
  refine⟨n,dxn,L,P,ls,ps,rfl,aA,hH,F,fun H4 b4 N4=>⟨rfl,?_⟩⟩
  have s34:aW G3 H4:=fun b o e=>b4 b o (aD e nn) (g4 b o e)
  have A:=A.same s34
  have eLn:=s34 _ _ eLn
  clear hH g4 b4 s34
  refine bx (v:=u) hu fun u hu=>?_
  refine⟨_,rfl,_,rfl,L,P,ls,ps,rfl,A,F,fun H5 Ar ra s5 AR era=>?_⟩
  have N5:=N4.same s5
  have eLn:=s5 _ _ eLn
  refine bx (v:=u) hu fun u hu=>?_
  refine⟨_,rfl,n,ls,ps,rfl,N5,ho,fun H6 T6 R D1 D2 as tm lt s6 eT PA=>?_⟩
  refine bx (v:=u) hu fun u hu=>?_
  refine⟨_,rfl,_,rfl,_,rfl,T6,Ar,Ln,R,D1,D2,ls,ps,as,ra,tm,lt,H5,rfl,eT,PA,AR.same s6,era,s6 _ _ eLn,F,fun H7 s7=>⟨true,rfl,cQ ?_⟩⟩
  have s57:=s6.trans s7
  have eT7:=s7 _ _ eT
  have AL:=PA.arcs.same s7
  have e1:=s7 _ _ PA.e1
  have e2:=s7 _ _ PA.e2
  have ga:=F.arcGL (cs:=as.map (·.1)) fun c hc=>by
   obtain⟨q,hq,rfl⟩:=List.mem_map.mp hc
   exact PA.mem q hq
  refine bx (v:=u) hu fun u hu=>?_
  refine⟨_,rfl,T6,_,0,_,rfl,rfl,SqT.of eT7,aK (j:=0) rfl,_,rfl,T6,_,1,_,rfl,rfl,SqT.of eT7,aK (j:=1) rfl,_,rfl,T6,_,2,_,rfl,rfl,SqT.of eT7,aK (j:=2) rfl,R,_,rfl,.inl (SqL.of AL.lst),fun Rh nRh=>?_⟩
  have t1:=aH (o:=.lst (as.map fun q=>V.ref q.2)) nRh
  have Ah:ArcsR (upd H7 Rh (.lst (as.map fun q=>V.ref q.2))) Rh as:=⟨aA,fun q hq=>t1 _ _ (AL.at_ q hq)⟩
  have eT7:=t1 _ _ eT7
  have f1:=t1 _ _ e1
  have f2:=t1 _ _ e2
  have fR:=t1 _ _ AL.lst
  have zR:R≠Rh:=aD AL.lst nRh
  generalize upd H7 Rh (.lst (as.map fun q=>V.ref q.2))=K1 at t1 Ah eT7 f1 f2 fR ⊢
  refine⟨_,rfl,T6,_,3,_,rfl,rfl,SqT.of eT7,aK (j:=3) rfl,D1,_,rfl,.inl f1,fun D1h n1h=>?_⟩
  have t2:=aH (o:=.dK (kvG V.int tm)) n1h
  have g1:upd K1 D1h (.dK (kvG V.int tm)) D1h=some (.dK (kvG V.int tm)):=aA
  have eT7:=t2 _ _ eT7
  have Ah:=Ah.same t2
  have fR:=t2 _ _ fR
  have z11:D1≠D1h:=aD f1 n1h
  have z21:D2≠D1h:=aD f2 n1h
  have f1:=t2 _ _ f1
  have f2:=t2 _ _ f2
  generalize upd K1 D1h (.dK (kvG V.int tm))=K2 at t2 Ah eT7 f1 f2 fR g1 ⊢
  refine⟨_,rfl,T6,_,4,_,rfl,rfl,SqT.of eT7,aK (j:=4) rfl,D2,_,rfl,.inl f2,fun D2h n2h=>?_⟩
  have t3:=aH (o:=.dK (kvG V.int lt)) n2h
  have g2:upd K2 D2h (.dK (kvG V.int lt)) D2h=some (.dK (kvG V.int lt)):=aA
  have eT7:=t3 _ _ eT7
  have Ah:=Ah.same t3
  have fR:=t3 _ _ fR
  have z12:D1≠D2h:=aD f1 n2h
  have z22:D2≠D2h:=aD f2 n2h
  have g1:=t3 _ _ g1
  have f1:=t3 _ _ f1
  have f2:=t3 _ _ f2
  generalize upd K2 D2h (.dK (kvG V.int lt))=K3 at t3 Ah eT7 f1 f2 fR g1 g2 ⊢
  refine⟨by show 5≤sizeLine;exact szl,fun Th nTh=>?_⟩
  have t4:=aH (o:=.tup [.int (pS as),.int (qS as),.ref Rh,.ref D1h,.ref D2h]) nTh
  have eTh:upd K3 Th (.tup [.int (pS as),.int (qS as),.ref Rh,.ref D1h,.ref D2h]) Th=some (.tup [.int (pS as),.int (qS as),.ref Rh,.ref D1h,.ref D2h]):=aA
  have eT7:=t4 _ _ eT7
  have Ah:=Ah.same t4
  have fR:=t4 _ _ fR
  have g1:=t4 _ _ g1
  have g2:=t4 _ _ g2
  have f1:=t4 _ _ f1
  have f2:=t4 _ _ f2
  have s58:=s57.trans (t1.trans (t2.trans (t3.trans t4)))
  generalize upd K3 Th (.tup [.int (pS as),.int (qS as),.ref Rh,.ref D1h,.ref D2h])=K4 at t4 Ah eT7 f1 f2 fR g1 g2 eTh s58 ⊢
  refine bx (v:=u) hu fun u hu=>?_
  refine⟨_,rfl,_,rfl,T6,_,rfl,SqT.of eT7,fun⟨z,_⟩=>absurd z (by show ¬HT.sIx 5 0 (some 2)=0;decide),fun tp ntp=>⟨tp,rfl,⟨_,SqT.of aA⟩,?_⟩⟩
  rw [show ym [.int (pS as),.int (qS as),.ref R,.ref D1,.ref D2] (some 2) none=[.ref R,.ref D1,.ref D2] from zg _ 2]
  have t5:=aH (o:=.tup [.ref R,.ref D1,.ref D2]) ntp
  have etp:upd K4 tp (.tup [.ref R,.ref D1,.ref D2]) tp=some (.tup [.ref R,.ref D1,.ref D2]):=aA
  have Ah:=Ah.same t5
  have fR:=t5 _ _ fR
  have g1:=t5 _ _ g1
  have g2:=t5 _ _ g2
  have f1:=t5 _ _ f1
  have f2:=t5 _ _ f2
  have eTh:=t5 _ _ eTh
  have s59:=s58.trans t5
  generalize upd K4 tp (.tup [.ref R,.ref D1,.ref D2])=K5 at t5 Ah f1 f2 fR g1 g2 eTh etp s59 ⊢
  have y1:R≠D1:=gC fR f1 (by intro z;cases z)
  have y2:R≠D2:=gC fR f2 (by intro z;cases z)
  have u0:=gC etp fR (by intro z;cases z)
  have u1:=gC etp f1 (by intro z;cases z)
  have u2:=gC etp f2 (by intro z;cases z)
  refine for_tup (K:=K) (a:=tp) (xs:=[.ref R,.ref D1,.ref D2]) (fun j σ H'=>(∃v9,σ=[some (.ref a),some (.ref L),some (.ref P),v3,some (.ref Ln),some (.ref n),some (.ref Ar),some (.ref T6),some (.ref Th),v9])∧H'=match j with | 0=>K5 | 1=>upd K5 R (.lst []) | 2=>upd (upd K5 R (.lst [])) D1 (.dK []) | _=>upd (upd (upd K5 R (.lst [])) D1 (.dK [])) D2 (.dK [])) ⟨⟨_,rfl⟩,rfl⟩ (fun j σ H' hj h=>?_) ?_ ?_
  ·rw [h.2]
   refine SqT.of ?_
   rcases j with _ | _ | _ | j
   ·exact etp
   ·exact(aM u0).trans etp
   ·exact(aM u1).trans ((aM u0).trans etp)
   ·exact(aM u2).trans ((aM u1).trans ((aM u0).trans etp))
  ·rintro j x σ H' hx ⟨⟨v9,rfl⟩,rfl⟩
   rcases j with _ | _ | _ | j
   ·cases hx
    exact .inl ⟨_,rfl,.inl ⟨rfl,_,SqL.of fR⟩,R,_,rfl,rfl,fR,⟨_,rfl⟩,rfl⟩
   ·cases hx
    have e:upd K5 R (.lst []) D1=_:=(aM (Ne.symm y1)).trans f1
    exact .inr ⟨_,rfl,.inr (.inr (.inl ⟨rfl,.inl ⟨_,e⟩⟩)),D1,_,rfl,rfl,e,⟨_,rfl⟩,rfl⟩
   ·cases hx
    have e:upd (upd K5 R (.lst [])) D1 (.dK []) D2=_:=(aM (Ne.symm PA.nD)).trans ((aM (Ne.symm y2)).trans f2)
    exact .inr ⟨_,rfl,.inr (.inr (.inl ⟨rfl,.inl ⟨_,e⟩⟩)),D2,_,rfl,rfl,e,⟨_,rfl⟩,rfl⟩
   ·cases hx
  rintro σ H' ⟨⟨v9,rfl⟩,e9⟩
  subst hu
  have e9:H'=upd (upd (upd K5 R (.lst [])) D1 (.dK [])) D2 (.dK []):=e9
  have N9:vW K t H' n ls ps:=N5.same (by rw [e9];exact xx (xx (xx s59 PA.nR) PA.n1) PA.n2)
  have off:∀{b:Addr} {o:HO},b≠R→b≠D1→b≠D2→K5 b=some o→H' b=some o:=fun h1 h2 h3 e=>by rw [e9];exact(aM h3).trans ((aM h2).trans ((aM h1).trans e))
  have w1:=off (Ne.symm (gC fR g1 (by intro z;cases z))) (Ne.symm z11) (Ne.symm z21) g1
  have w2:=off (Ne.symm (gC fR g2 (by intro z;cases z))) (Ne.symm z12) (Ne.symm z22) g2
  have w3:=off (gC eTh fR (by intro z;cases z)) (gC eTh f1 (by intro z;cases z)) (gC eTh f2 (by intro z;cases z)) eTh
  have w4:ArcsR H' Rh as:=⟨off (Ne.symm zR) (gC Ah.lst f1 (by intro z;cases z)) (gC Ah.lst f2 (by intro z;cases z)) Ah.lst,fun q hq=>off (gC (Ah.at_ q hq) fR (by intro z;cases z)) (gC (Ah.at_ q hq) f1 (by intro z;cases z)) (gC (Ah.at_ q hq) f2 (by intro z;cases z)) (Ah.at_ q hq)⟩
  refine⟨_,rfl,n,ls,ps,rfl,N9,ho,fun HC TC RC E1 E2 aC tC lC sC eTC PC=>?_⟩
  obtain⟨hc1,hc2⟩:=PC.is.one PA.is
  subst hc2
  have hp:pS aC=pS as:=by rw [Ae,Ae,hc1]
  have hq:qS aC=qS as:=by rw [Ac,Ac,hc1]
  have hl:lC=lt:=by
   obtain⟨a0,ar,h0⟩:=List.exists_cons_of_ne_nil PA.ne
   obtain⟨c0,cr,h1⟩:=List.exists_cons_of_ne_nil PC.ne
   rw [PA.lt_ a0 ar h0,PC.lt_ c0 cr h1]
   rw [h0,h1,List.map_cons,List.map_cons,List.cons.injEq] at hc1
   rw [hc1.1]
  subst hl
  have dC:=PC.arcs.dt (K:=K)
  rw [hc1] at dC
  rw [hp,hq] at eTC
  have al:∀i:Int,Alike K HC (.int i) (.int i):=fun i=>.data (.int i) (.int i) ((Gd.int 0 i).shaped (by decide)) (Gd.int 0 i).eq
  exact⟨_,rfl,TC,Th,_,_,rfl,rfl,SqT.of eTC,SqT.of (sC _ _ w3),.cons (al _) (.cons (al _) (.cons (.data dC (w4.same sC).dt (ga.shaped (by decide)) ga.eq) (.cons (.dict (Ne.symm (aD w1 PC.n1)) (.inl PC.e1) (.inl (sC _ _ w1)) (kv_int _)) (.cons (.dict (Ne.symm (aD w2 PC.n2)) (.inl PC.e2) (.inl (sC _ _ w2)) (kv_int _)) .nil)))),k _⟩
end
theorem oO {α:Type} {P:List α→Prop} (h:∀a0,P [a0]):∀us:List α,us.length=1→P us
 | [a0],_=>h a0
theorem oR {α:Type} {P:List α→Prop} (h:∀a0 a1,P [a0,a1]):∀us:List α,us.length=2→P us
 | [a0,a1],_=>h a0 a1
theorem zW {α:Type} {P:List α→Prop} (h:∀a0 a1 a2,P [a0,a1,a2]):∀us:List α,us.length=3→P us
 | [a0,a1,a2],_=>h a0 a1 a2
theorem us_4 {α:Type} {P:List α→Prop} (h:∀a0 a1 a2 a3,P [a0,a1,a2,a3]):∀us:List α,us.length=4→P us
 | [a0,a1,a2,a3],_=>h a0 a1 a2 a3
theorem us_5 {α:Type} {P:List α→Prop} (h:∀a0 a1 a2 a3 a4,P [a0,a1,a2,a3,a4]):∀us:List α,us.length=5→P us
 | [a0,a1,a2,a3,a4],_=>h a0 a1 a2 a3 a4
theorem us_6 {α:Type} {P:List α→Prop} (h:∀a0 a1 a2 a3 a4 a5,P [a0,a1,a2,a3,a4,a5]):∀us:List α,us.length=6→P us
 | [a0,a1,a2,a3,a4,a5],_=>h a0 a1 a2 a3 a4 a5
open PySem.W in
theorem all_mk {l:OpenLaw} {w:World} {K:Frag} {h:Heap} {mg:Str→Option Value} {fa:Addr} (X:K.In h) (G:h.Ns mainGlobals mg) (hfa:mg "law" =some (.ref fa))
  {f0 f1 f2 f3 f4 f5 f6 f7 f8 f9 f10 f11 f12 f13 f14 f15 f16 f17 f18 f19 f20 f21 f22 f23 f24 f25 f26 f27 f28 f29 f30 f31 f32 f33 f34 f35 f36 f37 f38 f39 f40 f41 f42 f43 f44 f45 f46 f47 f48 f49 f50 f51 f52 f53 f54 f55 f56 f57 f58 f59 f60 f61 f62 f63 f64 f65 f66 f67 f68:Addr} {od0 an0 od1 an1 od2 an2 od3 an3 od4 an4 od5 an5 od6 an6 od7 an7 od8 an8 od9 an9 od10 an10 od11 an11 od12 an12 od13 an13 od14 an14 od15 an15 od16 an16 od17 an17 od18 an18 od19 an19 od20 an20 od21 an21 od22 an22 od23 an23 od24 an24 od25 an25 od26 an26 od27 an27 od28 an28 od29 an29 od30 an30 od31 an31 od32 an32 od33 an33 od34 an34 od35 an35 od36 an36 od37 an37 od38 an38 od39 an39 od40 an40 od41 an41 od42 an42 od43 an43 od44 an44 od45 an45 od46 an46 od47 an47 od48 an48 od49 an49 od50 an50 od51 an51 od52 an52 od53 an53 od54 an54 od55 an55 od56 an56 od57 an57 od58 an58 od59 an59 od60 an60 od61 an61 od62 an62 od63 an63 od64 an64 od65 an65 od66 an66 od67 an67 od68 an68:Option Addr} {sl0 sl1 sl2 sl3 sl4 sl5 sl6 sl7 sl8 sl9 sl10 sl11 sl12 sl13 sl14 sl15 sl16 sl17 sl18 sl19 sl20 sl21 sl22 sl23 sl24 sl25 sl26 sl27 sl28 sl29 sl30 sl31 sl32 sl33 sl34 sl35 sl36 sl37 sl38 sl39 sl40 sl41 sl42 sl43 sl44 sl45 sl46 sl47 sl48 sl49 sl50 sl51 sl52 sl53 sl54 sl55 sl56 sl57 sl58 sl59 sl60 sl61 sl62 sl63 sl64 sl65 sl66 sl67 sl68:Array (Option Value)} {oc0 kV0 dc0 pm0 cd0 ct0 oc1 kV1 dc1 pm1 cd1 ct1 oc2 kV2 dc2 pm2 cd2 ct2 oc3 kV3 dc3 pm3 cd3 ct3 oc4 kV4 dc4 pm4 cd4 ct4 oc5 kV5 dc5 pm5 cd5 ct5 oc6 kV6 dc6 pm6 cd6 ct6 oc7 kV7 dc7 pm7 cd7 ct7 oc8 kV8 dc8 pm8 cd8 ct8 oc9 kV9 dc9 pm9 cd9 ct9 oc10 kV10 dc10 pm10 cd10 ct10 oc11 kV11 dc11 pm11 cd11 ct11 oc12 kV12 dc12 pm12 cd12 ct12 oc13 kV13 dc13 pm13 cd13 ct13 oc14 kV14 dc14 pm14 cd14 ct14 oc15 kV15 dc15 pm15 cd15 ct15 oc16 kV16 dc16 pm16 cd16 ct16 oc17 kV17 dc17 pm17 cd17 ct17 oc18 kV18 dc18 pm18 cd18 ct18 oc19 kV19 dc19 pm19 cd19 ct19 oc20 kV20 dc20 pm20 cd20 ct20 oc21 kV21 dc21 pm21 cd21 ct21 oc22 kV22 dc22 pm22 cd22 ct22 oc23 kV23 dc23 pm23 cd23 ct23 oc24 kV24 dc24 pm24 cd24 ct24 oc25 kV25 dc25 pm25 cd25 ct25 oc26 kV26 dc26 pm26 cd26 ct26 oc27 kV27 dc27 pm27 cd27 ct27 oc28 kV28 dc28 pm28 cd28 ct28 oc29 kV29 dc29 pm29 cd29 ct29 oc30 kV30 dc30 pm30 cd30 ct30 oc31 kV31 dc31 pm31 cd31 ct31 oc32 kV32 dc32 pm32 cd32 ct32 oc33 kV33 dc33 pm33 cd33 ct33 oc34 kV34 dc34 pm34 cd34 ct34 oc35 kV35 dc35 pm35 cd35 ct35 oc36 kV36 dc36 pm36 cd36 ct36 oc37 kV37 dc37 pm37 cd37 ct37 oc38 kV38 dc38 pm38 cd38 ct38 oc39 kV39 dc39 pm39 cd39 ct39 oc40 kV40 dc40 pm40 cd40 ct40 oc41 kV41 dc41 pm41 cd41 ct41 oc42 kV42 dc42 pm42 cd42 ct42 oc43 kV43 dc43 pm43 cd43 ct43 oc44 kV44 dc44 pm44 cd44 ct44 oc45 kV45 dc45 pm45 cd45 ct45 oc46 kV46 dc46 pm46 cd46 ct46 oc47 kV47 dc47 pm47 cd47 ct47 oc48 kV48 dc48 pm48 cd48 ct48 oc49 kV49 dc49 pm49 cd49 ct49 oc50 kV50 dc50 pm50 cd50 ct50 oc51 kV51 dc51 pm51 cd51 ct51 oc52 kV52 dc52 pm52 cd52 ct52 oc53 kV53 dc53 pm53 cd53 ct53 oc54 kV54 dc54 pm54 cd54 ct54 oc55 kV55 dc55 pm55 cd55 ct55 oc56 kV56 dc56 pm56 cd56 ct56 oc57 kV57 dc57 pm57 cd57 ct57 oc58 kV58 dc58 pm58 cd58 ct58 oc59 kV59 dc59 pm59 cd59 ct59 oc60 kV60 dc60 pm60 cd60 ct60 oc61 kV61 dc61 pm61 cd61 ct61 oc62 kV62 dc62 pm62 cd62 ct62 oc63 kV63 dc63 pm63 cd63 ct63 oc64 kV64 dc64 pm64 cd64 ct64 oc65 kV65 dc65 pm65 cd65 ct65 oc66 kV66 dc66 pm66 cd66 ct66 oc67 kV67 dc67 pm67 cd67 ct67 oc68 kV68 dc68 pm68 cd68 ct68:Value}
  {dI:Addr}
  {dH:Addr}
  {dD:Addr}
  {dB:Addr}
  {dF:Addr}
  {dG:Addr}
  {gw:Addr}
  {dJ:Addr}
  {cL:Addr}
  {bZ:Addr}
  {cM:Addr}
  {bK:Addr}
  {u_VALUES:Value}
  {u_LETTERS:Value}
  {u_LONGEST_NAME:Value}
  {u_FIGURES:Value}
  {u_MOST_LANES:Value}
  {u_MOST_PARTS:Value}
  {u_MOST_ROOM:Value}
  {nQ:Addr}
  (jcq:nsIn K mainGlobals "Give" =some (some (.ref dI)))
  (jcg:plainGet K dI Str.empty=true)
  (jck:hasDictIn K dI=true)
  (jc9:plainOver K dI=true)
  (jcr:findIn K (.ref dI) "__setattr__" =some (some (.builtin "object.__setattr__")))
  (jcw:makesIn K dI=true)
  (jc8:keepIn K (.ref dI)=true)
  (jh:findIn K (.ref dI) "__init__" =some (some (.ref f2)))
  (jae:findIn K (.ref dI) "kind" =some (some (.ref f3)))
  (jX:findIn K (.ref dI) "name" =some none)
  (jt:findIn K (.ref dI) "numbers" =some none)
  (jap:findIn K (.ref dI) "ins" =some none)
  (j3:findIn K (.ref dI) "outs" =some none)
  (jb1:nsIn K mainGlobals "Take" =some (some (.ref dH)))
  (jcn:plainGet K dH Str.empty=true)
  (jc6:hasDictIn K dH=true)
  (jcv:plainOver K dH=true)
  (jco:findIn K (.ref dH) "__setattr__" =some (some (.builtin "object.__setattr__")))
  (jc0:makesIn K dH=true)
  (jc2:keepIn K (.ref dH)=true)
  (jm:findIn K (.ref dH) "__init__" =some (some (.ref f2)))
  (j8:findIn K (.ref dH) "kind" =some (some (.ref f4)))
  (jab:findIn K (.ref dH) "name" =some none)
  (jz:findIn K (.ref dH) "numbers" =some none)
  (jav:findIn K (.ref dH) "ins" =some none)
  (j2:findIn K (.ref dH) "outs" =some none)
  (jcf:nsIn K mainGlobals "Pass" =some (some (.ref dD)))
  (jcp:plainGet K dD Str.empty=true)
  (jcs:hasDictIn K dD=true)
  (jb7:plainOver K dD=true)
  (jcc:findIn K (.ref dD) "__setattr__" =some (some (.builtin "object.__setattr__")))
  (jby:makesIn K dD=true)
  (jb3:keepIn K (.ref dD)=true)
  (jk:findIn K (.ref dD) "__init__" =some (some (.ref f2)))
  (jZ:findIn K (.ref dD) "kind" =some (some (.ref f5)))
  (j6:findIn K (.ref dD) "name" =some none)
  (jv:findIn K (.ref dD) "numbers" =some none)
  (jan:findIn K (.ref dD) "ins" =some none)
  (j5:findIn K (.ref dD) "outs" =some none)
  (jb6:nsIn K mainGlobals "Copy" =some (some (.ref dB)))
  (jca:plainGet K dB Str.empty=true)
  (jcz:hasDictIn K dB=true)
  (jb2:plainOver K dB=true)
  (jcd:findIn K (.ref dB) "__setattr__" =some (some (.builtin "object.__setattr__")))
  (jce:makesIn K dB=true)
  (jb5:keepIn K (.ref dB)=true)
  (ji:findIn K (.ref dB) "__init__" =some (some (.ref f2)))
  (jaj:findIn K (.ref dB) "kind" =some (some (.ref f6)))
  (jac:findIn K (.ref dB) "name" =some none)
  (js:findIn K (.ref dB) "numbers" =some none)
  (jaq:findIn K (.ref dB) "ins" =some none)
  (jT:findIn K (.ref dB) "outs" =some none)
  (jb8:nsIn K mainGlobals "Turn" =some (some (.ref dF)))
  (jbz:plainGet K dF Str.empty=true)
  (jcx:hasDictIn K dF=true)
  (jc7:plainOver K dF=true)
  (jcm:findIn K (.ref dF) "__setattr__" =some (some (.builtin "object.__setattr__")))
  (jc3:makesIn K dF=true)
  (jc4:keepIn K (.ref dF)=true)
  (jn:findIn K (.ref dF) "__init__" =some (some (.ref f2)))
  (jak:findIn K (.ref dF) "kind" =some (some (.ref f7)))
  (jV:findIn K (.ref dF) "name" =some none)
  (ju:findIn K (.ref dF) "numbers" =some none)
  (jas:findIn K (.ref dF) "ins" =some none)
  (jaf:findIn K (.ref dF) "outs" =some none)
  (jcj:nsIn K mainGlobals "Heap" =some (some (.ref dG)))
  (jc1:plainGet K dG Str.empty=true)
  (jbx:hasDictIn K dG=true)
  (jch:plainOver K dG=true)
  (jcl:findIn K (.ref dG) "__setattr__" =some (some (.builtin "object.__setattr__")))
  (jci:makesIn K dG=true)
  (jcb:keepIn K (.ref dG)=true)
  (jj:findIn K (.ref dG) "__init__" =some (some (.ref f2)))
  (j7:findIn K (.ref dG) "kind" =some (some (.ref f8)))
  (j4:findIn K (.ref dG) "name" =some none)
  (jB:findIn K (.ref dG) "numbers" =some none)
  (jar:findIn K (.ref dG) "ins" =some none)
  (jal:findIn K (.ref dG) "outs" =some none)
  (jdp:nsIn K mainGlobals "Add" =some (some (.ref gw)))
  (jdc:plainGet K gw Str.empty=true)
  (jde:hasDictIn K gw=true)
  (jdf:plainOver K gw=true)
  (jdq:findIn K (.ref gw) "__setattr__" =some (some (.builtin "object.__setattr__")))
  (jdn:makesIn K gw=true)
  (jdh:keepIn K (.ref gw)=true)
  (jA:findIn K (.ref gw) "__init__" =some (some (.ref f2)))
  (jay:findIn K (.ref gw) "kind" =some (some (.ref f9)))
  (jat:findIn K (.ref gw) "name" =some none)
  (jE:findIn K (.ref gw) "numbers" =some none)
  (jaz:findIn K (.ref gw) "ins" =some none)
  (jao:findIn K (.ref gw) "outs" =some none)
  (jb9:nsIn K mainGlobals "Less" =some (some (.ref dJ)))
  (jct:plainGet K dJ Str.empty=true)
  (jcy:hasDictIn K dJ=true)
  (jda:plainOver K dJ=true)
  (jcu:findIn K (.ref dJ) "__setattr__" =some (some (.builtin "object.__setattr__")))
  (jc5:makesIn K dJ=true)
  (jb0:keepIn K (.ref dJ)=true)
  (jo:findIn K (.ref dJ) "__init__" =some (some (.ref f2)))
  (jad:findIn K (.ref dJ) "kind" =some (some (.ref f10)))
  (j1:findIn K (.ref dJ) "name" =some none)
  (jy:findIn K (.ref dJ) "numbers" =some none)
  (jax:findIn K (.ref dJ) "ins" =some none)
  (jU:findIn K (.ref dJ) "outs" =some none)
  (jbm:nsIn K mainGlobals "Order" =some (some (.ref cL)))
  (jbj:plainGet K cL Str.empty=true)
  (jbv:hasDictIn K cL=true)
  (jbn:plainOver K cL=true)
  (jbh:findIn K (.ref cL) "__setattr__" =some (some (.builtin "object.__setattr__")))
  (jbg:makesIn K cL=true)
  (jbp:keepIn K (.ref cL)=true)
  (jc:findIn K (.ref cL) "__init__" =some (some (.ref f2)))
  (jQ:findIn K (.ref cL) "kind" =some (some (.ref f11)))
  (jK:findIn K (.ref cL) "name" =some none)
  (jl:findIn K (.ref cL) "numbers" =some none)
  (j0:findIn K (.ref cL) "ins" =some none)
  (jM:findIn K (.ref cL) "outs" =some none)
  (jbd:nsIn K mainGlobals "Choose" =some (some (.ref bZ)))
  (ja3:plainGet K bZ Str.empty=true)
  (ja7:hasDictIn K bZ=true)
  (jbe:plainOver K bZ=true)
  (jba:findIn K (.ref bZ) "__setattr__" =some (some (.builtin "object.__setattr__")))
  (jbc:makesIn K bZ=true)
  (ja6:keepIn K (.ref bZ)=true)
  (jb:findIn K (.ref bZ) "__init__" =some (some (.ref f2)))
  (jG:findIn K (.ref bZ) "kind" =some (some (.ref f12)))
  (jC:findIn K (.ref bZ) "name" =some none)
  (jd:findIn K (.ref bZ) "numbers" =some none)
  (jJ:findIn K (.ref bZ) "ins" =some none)
  (jH:findIn K (.ref bZ) "outs" =some none)
  (jbs:nsIn K mainGlobals "Split" =some (some (.ref cM)))
  (jbr:plainGet K cM Str.empty=true)
  (jbl:hasDictIn K cM=true)
  (jbu:plainOver K cM=true)
  (jbq:findIn K (.ref cM) "__setattr__" =some (some (.builtin "object.__setattr__")))
  (jbk:makesIn K cM=true)
  (jbo:keepIn K (.ref cM)=true)
  (jg:findIn K (.ref cM) "__init__" =some (some (.ref f2)))
  (jL:findIn K (.ref cM) "kind" =some (some (.ref f13)))
  (jP:findIn K (.ref cM) "name" =some none)
  (jp:findIn K (.ref cM) "numbers" =some none)
  (jY:findIn K (.ref cM) "ins" =some none)
  (jR:findIn K (.ref cM) "outs" =some none)
  (jdb:nsIn K mainGlobals "Net" =some (some (.ref bK)))
  (jdl:plainGet K bK Str.empty=true)
  (jdi:hasDictIn K bK=true)
  (jdr:plainOver K bK=true)
  (jdg:findIn K (.ref bK) "__setattr__" =some (some (.builtin "object.__setattr__")))
  (jdj:makesIn K bK=true)
  (jdk:keepIn K (.ref bK)=true)
  (jx:findIn K (.ref bK) "__init__" =some (some (.ref f47)))
  (jf:findIn K (.ref bK) "lane_names" =some (some (.ref f39)))
  (je:findIn K (.ref bK) "part_names" =some (some (.ref f40)))
  (ja0:findIn K (.ref bK) "odd" =some (some (.ref f46)))
  (ja:findIn K (.ref bK) "need_lane_name" =some (some (.ref f41)))
  (jI:findIn K (.ref bK) "room_of" =some (some (.ref f42)))
  (jr:findIn K (.ref bK) "first_of" =some (some (.ref f43)))
  (jq:findIn K (.ref bK) "giver_of" =some (some (.ref f44)))
  (jw:findIn K (.ref bK) "taker_of" =some (some (.ref f45)))
  (jaa:findIn K (.ref bK) "rooms" =some none)
  (jO:findIn K (.ref bK) "firsts" =some none)
  (jai:findIn K (.ref bK) "parts" =some none)
  (jN:findIn K (.ref bK) "givers" =some none)
  (jS:findIn K (.ref bK) "takers" =some none)
  (a0:nsIn K mainGlobals "is_whole" =some (some (.ref f0)))
  (l0:K.lookup f0=some ⟨oc0,od0,.func (fnOf "is_whole" "is_whole" (aU mK) (aR mK) (az mK) .none kV0 dc0 pm0 an0 cd0 ct0),sl0⟩)
  (c0:codeIn K cd0 "is_whole" =true)
  (k0:keepIn K (.ref f0)=true)
  (a1:nsIn K mainGlobals "is_value" =some (some (.ref f1)))
  (l1:K.lookup f1=some ⟨oc1,od1,.func (fnOf "is_value" "is_value" (aU m5) (aR m5) (az m5) .none kV1 dc1 pm1 an1 cd1 ct1),sl1⟩)
  (c1:codeIn K cd1 "is_value" =true)
  (k1:keepIn K (.ref f1)=true)
  (i2:isFn K (.ref f2)=true)
  (l2:K.lookup f2=some ⟨oc2,od2,.func (fnOf "__init__" "Part.__init__" (aU fc) (aR fc) (az fc) .none kV2 dc2 pm2 an2 cd2 ct2),sl2⟩)
  (c2:codeIn K cd2 "Part.__init__" =true)
  (k2:keepIn K (.ref f2)=true)
  (i3:isFn K (.ref f3)=true)
  (l3:K.lookup f3=some ⟨oc3,od3,.func (fnOf "kind" "Give.kind" (aU lQ) (aR lQ) (az lQ) .none kV3 dc3 pm3 an3 cd3 ct3),sl3⟩)
  (c3:codeIn K cd3 "Give.kind" =true)
  (k3:keepIn K (.ref f3)=true)
  (i4:isFn K (.ref f4)=true)
  (l4:K.lookup f4=some ⟨oc4,od4,.func (fnOf "kind" "Take.kind" (aU lA) (aR lA) (az lA) .none kV4 dc4 pm4 an4 cd4 ct4),sl4⟩)
  (c4:codeIn K cd4 "Take.kind" =true)
  (k4:keepIn K (.ref f4)=true)
  (i5:isFn K (.ref f5)=true)
  (l5:K.lookup f5=some ⟨oc5,od5,.func (fnOf "kind" "Pass.kind" (aU lu) (aR lu) (az lu) .none kV5 dc5 pm5 an5 cd5 ct5),sl5⟩)
  (c5:codeIn K cd5 "Pass.kind" =true)
  (k5:keepIn K (.ref f5)=true)
  (i6:isFn K (.ref f6)=true)
  (l6:K.lookup f6=some ⟨oc6,od6,.func (fnOf "kind" "Copy.kind" (aU lJ) (aR lJ) (az lJ) .none kV6 dc6 pm6 an6 cd6 ct6),sl6⟩)
  (c6:codeIn K cd6 "Copy.kind" =true)
  (k6:keepIn K (.ref f6)=true)
  (i7:isFn K (.ref f7)=true)
  (l7:K.lookup f7=some ⟨oc7,od7,.func (fnOf "kind" "Turn.kind" (aU lD) (aR lD) (az lD) .none kV7 dc7 pm7 an7 cd7 ct7),sl7⟩)
  (c7:codeIn K cd7 "Turn.kind" =true)
  (k7:keepIn K (.ref f7)=true)
  (i8:isFn K (.ref f8)=true)
  (l8:K.lookup f8=some ⟨oc8,od8,.func (fnOf "kind" "Heap.kind" (aU lR) (aR lR) (az lR) .none kV8 dc8 pm8 an8 cd8 ct8),sl8⟩)
  (c8:codeIn K cd8 "Heap.kind" =true)
  (k8:keepIn K (.ref f8)=true)
  (i9:isFn K (.ref f9)=true)
  (l9:K.lookup f9=some ⟨oc9,od9,.func (fnOf "kind" "Add.kind" (aU mZ) (aR mZ) (az mZ) .none kV9 dc9 pm9 an9 cd9 ct9),sl9⟩)
  (c9:codeIn K cd9 "Add.kind" =true)
  (k9:keepIn K (.ref f9)=true)
  (i10:isFn K (.ref f10)=true)
  (l10:K.lookup f10=some ⟨oc10,od10,.func (fnOf "kind" "Less.kind" (aU lH) (aR lH) (az lH) .none kV10 dc10 pm10 an10 cd10 ct10),sl10⟩)
  (c10:codeIn K cd10 "Less.kind" =true)
  (k10:keepIn K (.ref f10)=true)
  (i11:isFn K (.ref f11)=true)
  (l11:K.lookup f11=some ⟨oc11,od11,.func (fnOf "kind" "Order.kind" (aU iK) (aR iK) (az iK) .none kV11 dc11 pm11 an11 cd11 ct11),sl11⟩)
  (c11:codeIn K cd11 "Order.kind" =true)
  (k11:keepIn K (.ref f11)=true)
  (i12:isFn K (.ref f12)=true)
  (l12:K.lookup f12=some ⟨oc12,od12,.func (fnOf "kind" "Choose.kind" (aU gQ) (aR gQ) (az gQ) .none kV12 dc12 pm12 an12 cd12 ct12),sl12⟩)
  (c12:codeIn K cd12 "Choose.kind" =true)
  (k12:keepIn K (.ref f12)=true)
  (i13:isFn K (.ref f13)=true)
  (l13:K.lookup f13=some ⟨oc13,od13,.func (fnOf "kind" "Split.kind" (aU iJ) (aR iJ) (az iJ) .none kV13 dc13 pm13 an13 cd13 ct13),sl13⟩)
  (c13:codeIn K cd13 "Split.kind" =true)
  (k13:keepIn K (.ref f13)=true)
  (a14:nsIn K mainGlobals "is_kind" =some (some (.ref f14)))
  (l14:K.lookup f14=some ⟨oc14,od14,.func (fnOf "is_kind" "is_kind" (aU oZ) (aR oZ) (az oZ) .none kV14 dc14 pm14 an14 cd14 ct14),sl14⟩)
  (c14:codeIn K cd14 "is_kind" =true)
  (k14:keepIn K (.ref f14)=true)
  (a15:nsIn K mainGlobals "need_fit" =some (some (.ref f15)))
  (l15:K.lookup f15=some ⟨oc15,od15,.func (fnOf "need_fit" "need_fit" (aU lg) (aR lg) (az lg) .none kV15 dc15 pm15 an15 cd15 ct15),sl15⟩)
  (c15:codeIn K cd15 "need_fit" =true)
  (k15:keepIn K (.ref f15)=true)
  (a16:nsIn K mainGlobals "made_of" =some (some (.ref f16)))
  (l16:K.lookup f16=some ⟨oc16,od16,.func (fnOf "made_of" "made_of" (aU oY) (aR oY) (az oY) .none kV16 dc16 pm16 an16 cd16 ct16),sl16⟩)
  (c16:codeIn K cd16 "made_of" =true)
  (k16:keepIn K (.ref f16)=true)
  (a17:nsIn K mainGlobals "part_made" =some (some (.ref f17)))
  (l17:K.lookup f17=some ⟨oc17,od17,.func (fnOf "part_made" "part_made" (aU lG) (aR lG) (az lG) .none kV17 dc17 pm17 an17 cd17 ct17),sl17⟩)
  (c17:codeIn K cd17 "part_made" =true)
  (k17:keepIn K (.ref f17)=true)
  (a18:nsIn K mainGlobals "_law_mix" =some (some (.ref f18)))
  (l18:K.lookup f18=some ⟨oc18,od18,.func (fnOf "_law_mix" "_law_mix" (aU mW) (aR mW) (az mW) .none kV18 dc18 pm18 an18 cd18 ct18),sl18⟩)
  (c18:codeIn K cd18 "_law_mix" =true)
  (k18:keepIn K (.ref f18)=true)
  (a19:nsIn K mainGlobals "_law_cell" =some (some (.ref f19)))
  (l19:K.lookup f19=some ⟨oc19,od19,.func (fnOf "_law_cell" "_law_cell" (aU lB) (aR lB) (az lB) .none kV19 dc19 pm19 an19 cd19 ct19),sl19⟩)
  (c19:codeIn K cd19 "_law_cell" =true)
  (k19:keepIn K (.ref f19)=true)
  (a20:nsIn K mainGlobals "_law_value" =some (some (.ref f20)))
  (l20:K.lookup f20=some ⟨oc20,od20,.func (fnOf "_law_value" "_law_value" (aU iY) (aR iY) (az iY) .none kV20 dc20 pm20 an20 cd20 ct20),sl20⟩)
  (c20:codeIn K cd20 "_law_value" =true)
  (k20:keepIn K (.ref f20)=true)
  (a21:nsIn K mainGlobals "_law_word" =some (some (.ref f21)))
  (l21:K.lookup f21=some ⟨oc21,od21,.func (fnOf "_law_word" "_law_word" (aU ir) (aR ir) (az ir) .none kV21 dc21 pm21 an21 cd21 ct21),sl21⟩)
  (c21:codeIn K cd21 "_law_word" =true)
  (k21:keepIn K (.ref f21)=true)
  (a22:nsIn K mainGlobals "_law_lane" =some (some (.ref f22)))
  (l22:K.lookup f22=some ⟨oc22,od22,.func (fnOf "_law_lane" "_law_lane" (aU iu) (aR iu) (az iu) .none kV22 dc22 pm22 an22 cd22 ct22),sl22⟩)
  (c22:codeIn K cd22 "_law_lane" =true)
  (k22:keepIn K (.ref f22)=true)
  (a23:nsIn K mainGlobals "_law_pick" =some (some (.ref f23)))
  (l23:K.lookup f23=some ⟨oc23,od23,.func (fnOf "_law_pick" "_law_pick" (aU lE) (aR lE) (az lE) .none kV23 dc23 pm23 an23 cd23 ct23),sl23⟩)
  (c23:codeIn K cd23 "_law_pick" =true)
  (k23:keepIn K (.ref f23)=true)
  (a24:nsIn K mainGlobals "_law_part" =some (some (.ref f24)))
  (l24:K.lookup f24=some ⟨oc24,od24,.func (fnOf "_law_part" "_law_part" (aU iz) (aR iz) (az iz) .none kV24 dc24 pm24 an24 cd24 ct24),sl24⟩)
  (c24:codeIn K cd24 "_law_part" =true)
  (k24:keepIn K (.ref f24)=true)
  (a25:nsIn K mainGlobals "_law_two" =some (some (.ref f25)))
  (l25:K.lookup f25=some ⟨oc25,od25,.func (fnOf "_law_two" "_law_two" (aU mL) (aR mL) (az mL) .none kV25 dc25 pm25 an25 cd25 ct25),sl25⟩)
  (c25:codeIn K cd25 "_law_two" =true)
  (k25:keepIn K (.ref f25)=true)
  (a26:nsIn K mainGlobals "_law_loop" =some (some (.ref f26)))
  (l26:K.lookup f26=some ⟨oc26,od26,.func (fnOf "_law_loop" "_law_loop" (aU lK) (aR lK) (az lK) .none kV26 dc26 pm26 an26 cd26 ct26),sl26⟩)
  (c26:codeIn K cd26 "_law_loop" =true)
  (k26:keepIn K (.ref f26)=true)
  (a27:nsIn K mainGlobals "_law_step" =some (some (.ref f27)))
  (l27:K.lookup f27=some ⟨oc27,od27,.func (fnOf "_law_step" "_law_step" (aU lL) (aR lL) (az lL) .none kV27 dc27 pm27 an27 cd27 ct27),sl27⟩)
  (c27:codeIn K cd27 "_law_step" =true)
  (k27:keepIn K (.ref f27)=true)
  (a28:nsIn K mainGlobals "_law_closed" =some (some (.ref f28)))
  (l28:K.lookup f28=some ⟨oc28,od28,.func (fnOf "_law_closed" "_law_closed" (aU gM) (aR gM) (az gM) .none kV28 dc28 pm28 an28 cd28 ct28),sl28⟩)
  (c28:codeIn K cd28 "_law_closed" =true)
  (k28:keepIn K (.ref f28)=true)
  (a29:nsIn K mainGlobals "_law_net" =some (some (.ref f29)))
  (l29:K.lookup f29=some ⟨oc29,od29,.func (fnOf "_law_net" "_law_net" (aU kZ) (aR kZ) (az kZ) .none kV29 dc29 pm29 an29 cd29 ct29),sl29⟩)
  (c29:codeIn K cd29 "_law_net" =true)
  (k29:keepIn K (.ref f29)=true)
  (a30:nsIn K mainGlobals "is_name" =some (some (.ref f30)))
  (l30:K.lookup f30=some ⟨oc30,od30,.func (fnOf "is_name" "is_name" (aU mY) (aR mY) (az mY) .none kV30 dc30 pm30 an30 cd30 ct30),sl30⟩)
  (c30:codeIn K cd30 "is_name" =true)
  (k30:keepIn K (.ref f30)=true)
  (a31:nsIn K mainGlobals "need_counts" =some (some (.ref f31)))
  (l31:K.lookup f31=some ⟨oc31,od31,.func (fnOf "need_counts" "need_counts" (aU gJ) (aR gJ) (az gJ) .none kV31 dc31 pm31 an31 cd31 ct31),sl31⟩)
  (c31:codeIn K cd31 "need_counts" =true)
  (k31:keepIn K (.ref f31)=true)
  (a32:nsIn K mainGlobals "need_fresh" =some (some (.ref f32)))
  (l32:K.lookup f32=some ⟨oc32,od32,.func (fnOf "need_fresh" "need_fresh" (aU iI) (aR iI) (az iI) .none kV32 dc32 pm32 an32 cd32 ct32),sl32⟩)
  (c32:codeIn K cd32 "need_fresh" =true)
  (k32:keepIn K (.ref f32)=true)
  (a33:nsIn K mainGlobals "need_lane" =some (some (.ref f33)))
  (l33:K.lookup f33=some ⟨oc33,od33,.func (fnOf "need_lane" "need_lane" (aU iw) (aR iw) (az iw) .none kV33 dc33 pm33 an33 cd33 ct33),sl33⟩)
  (c33:codeIn K cd33 "need_lane" =true)
  (k33:keepIn K (.ref f33)=true)
  (a34:nsIn K mainGlobals "fresh_part" =some (some (.ref f34)))
  (l34:K.lookup f34=some ⟨oc34,od34,.func (fnOf "fresh_part" "fresh_part" (aU iM) (aR iM) (az iM) .none kV34 dc34 pm34 an34 cd34 ct34),sl34⟩)
  (c34:codeIn K cd34 "fresh_part" =true)
  (k34:keepIn K (.ref f34)=true)
  (a35:nsIn K mainGlobals "tie_lanes" =some (some (.ref f35)))
  (l35:K.lookup f35=some ⟨oc35,od35,.func (fnOf "tie_lanes" "tie_lanes" (aU lq) (aR lq) (az lq) .none kV35 dc35 pm35 an35 cd35 ct35),sl35⟩)
  (c35:codeIn K cd35 "tie_lanes" =true)
  (k35:keepIn K (.ref f35)=true)
  (a36:nsIn K mainGlobals "need_ends" =some (some (.ref f36)))
  (l36:K.lookup f36=some ⟨oc36,od36,.func (fnOf "need_ends" "need_ends" (aU lO) (aR lO) (az lO) .none kV36 dc36 pm36 an36 cd36 ct36),sl36⟩)
  (c36:codeIn K cd36 "need_ends" =true)
  (k36:keepIn K (.ref f36)=true)
  (a37:nsIn K mainGlobals "joined_with" =some (some (.ref f37)))
  (l37:K.lookup f37=some ⟨oc37,od37,.func (fnOf "joined_with" "joined_with" (aU gZ) (aR gZ) (az gZ) .none kV37 dc37 pm37 an37 cd37 ct37),sl37⟩)
  (c37:codeIn K cd37 "joined_with" =true)
  (k37:keepIn K (.ref f37)=true)
  (a38:nsIn K mainGlobals "need_joined" =some (some (.ref f38)))
  (l38:K.lookup f38=some ⟨oc38,od38,.func (fnOf "need_joined" "need_joined" (aU gH) (aR gH) (az gH) .none kV38 dc38 pm38 an38 cd38 ct38),sl38⟩)
  (c38:codeIn K cd38 "need_joined" =true)
  (k38:keepIn K (.ref f38)=true)
  (i39:isFn K (.ref f39)=true)
  (l39:K.lookup f39=some ⟨oc39,od39,.func (fnOf "lane_names" "Net.lane_names" (aU dW) (aR dW) (az dW) .none kV39 dc39 pm39 an39 cd39 ct39),sl39⟩)
  (c39:codeIn K cd39 "Net.lane_names" =true)
  (k39:keepIn K (.ref f39)=true)
  (i40:isFn K (.ref f40)=true)
  (l40:K.lookup f40=some ⟨oc40,od40,.func (fnOf "part_names" "Net.part_names" (aU dR) (aR dR) (az dR) .none kV40 dc40 pm40 an40 cd40 ct40),sl40⟩)
  (c40:codeIn K cd40 "Net.part_names" =true)
  (k40:keepIn K (.ref f40)=true)
  (i41:isFn K (.ref f41)=true)
  (l41:K.lookup f41=some ⟨oc41,od41,.func (fnOf "need_lane_name" "Net.need_lane_name" (aU cT) (aR cT) (az cT) .none kV41 dc41 pm41 an41 cd41 ct41),sl41⟩)
  (c41:codeIn K cd41 "Net.need_lane_name" =true)
  (k41:keepIn K (.ref f41)=true)
  (i42:isFn K (.ref f42)=true)
  (l42:K.lookup f42=some ⟨oc42,od42,.func (fnOf "room_of" "Net.room_of" (aU gO) (aR gO) (az gO) .none kV42 dc42 pm42 an42 cd42 ct42),sl42⟩)
  (c42:codeIn K cd42 "Net.room_of" =true)
  (k42:keepIn K (.ref f42)=true)
  (i43:isFn K (.ref f43)=true)
  (l43:K.lookup f43=some ⟨oc43,od43,.func (fnOf "first_of" "Net.first_of" (aU fZ) (aR fZ) (az fZ) .none kV43 dc43 pm43 an43 cd43 ct43),sl43⟩)
  (c43:codeIn K cd43 "Net.first_of" =true)
  (k43:keepIn K (.ref f43)=true)
  (i44:isFn K (.ref f44)=true)
  (l44:K.lookup f44=some ⟨oc44,od44,.func (fnOf "giver_of" "Net.giver_of" (aU fX) (aR fX) (az fX) .none kV44 dc44 pm44 an44 cd44 ct44),sl44⟩)
  (c44:codeIn K cd44 "Net.giver_of" =true)
  (k44:keepIn K (.ref f44)=true)
  (i45:isFn K (.ref f45)=true)
  (l45:K.lookup f45=some ⟨oc45,od45,.func (fnOf "taker_of" "Net.taker_of" (aU fY) (aR fY) (az fY) .none kV45 dc45 pm45 an45 cd45 ct45),sl45⟩)
  (c45:codeIn K cd45 "Net.taker_of" =true)
  (k45:keepIn K (.ref f45)=true)
  (i46:isFn K (.ref f46)=true)
  (l46:K.lookup f46=some ⟨oc46,od46,.func (fnOf "odd" "Net.odd" (aU o7) (aR o7) (az o7) .none kV46 dc46 pm46 an46 cd46 ct46),sl46⟩)
  (c46:codeIn K cd46 "Net.odd" =true)
  (k46:keepIn K (.ref f46)=true)
  (i47:isFn K (.ref f47)=true)
  (l47:K.lookup f47=some ⟨oc47,od47,.func (fnOf "__init__" "Net.__init__" (aU fW) (aR fW) (az fW) .none kV47 dc47 pm47 an47 cd47 ct47),sl47⟩)
  (c47:codeIn K cd47 "Net.__init__" =true)
  (k47:keepIn K (.ref f47)=true)
  (a48:nsIn K mainGlobals "arcs_of_lane" =some (some (.ref f48)))
  (l48:K.lookup f48=some ⟨oc48,od48,.func (fnOf "arcs_of_lane" "arcs_of_lane" (aU fQ) (aR fQ) (az fQ) .none kV48 dc48 pm48 an48 cd48 ct48),sl48⟩)
  (c48:codeIn K cd48 "arcs_of_lane" =true)
  (k48:keepIn K (.ref f48)=true)
  (a49:nsIn K mainGlobals "arcs_of" =some (some (.ref f49)))
  (l49:K.lookup f49=some ⟨oc49,od49,.func (fnOf "arcs_of" "arcs_of" (aU mQ) (aR mQ) (az mQ) .none kV49 dc49 pm49 an49 cd49 ct49),sl49⟩)
  (c49:codeIn K cd49 "arcs_of" =true)
  (k49:keepIn K (.ref f49)=true)
  (a50:nsIn K mainGlobals "gone_round" =some (some (.ref f50)))
  (l50:K.lookup f50=some ⟨oc50,od50,.func (fnOf "gone_round" "gone_round" (aU iH) (aR iH) (az iH) .none kV50 dc50 pm50 an50 cd50 ct50),sl50⟩)
  (c50:codeIn K cd50 "gone_round" =true)
  (k50:keepIn K (.ref f50)=true)
  (a51:nsIn K mainGlobals "ring_into" =some (some (.ref f51)))
  (l51:K.lookup f51=some ⟨oc51,od51,.func (fnOf "ring_into" "ring_into" (aU iy) (aR iy) (az iy) .none kV51 dc51 pm51 an51 cd51 ct51),sl51⟩)
  (c51:codeIn K cd51 "ring_into" =true)
  (k51:keepIn K (.ref f51)=true)
  (a52:nsIn K mainGlobals "grow_times" =some (some (.ref f52)))
  (l52:K.lookup f52=some ⟨oc52,od52,.func (fnOf "grow_times" "grow_times" (aU iT) (aR iT) (az iT) .none kV52 dc52 pm52 an52 cd52 ct52),sl52⟩)
  (c52:codeIn K cd52 "grow_times" =true)
  (k52:keepIn K (.ref f52)=true)
  (a53:nsIn K mainGlobals "times_or_ring" =some (some (.ref f53)))
  (l53:K.lookup f53=some ⟨oc53,od53,.func (fnOf "times_or_ring" "times_or_ring" (aU eZ) (aR eZ) (az eZ) .none kV53 dc53 pm53 an53 cd53 ct53),sl53⟩)
  (c53:codeIn K cd53 "times_or_ring" =true)
  (k53:keepIn K (.ref f53)=true)
  (a54:nsIn K mainGlobals "greatest_divisor" =some (some (.ref f54)))
  (l54:K.lookup f54=some ⟨oc54,od54,.func (fnOf "greatest_divisor" "greatest_divisor" (aU dj) (aR dj) (az dj) .none kV54 dc54 pm54 an54 cd54 ct54),sl54⟩)
  (c54:codeIn K cd54 "greatest_divisor" =true)
  (k54:keepIn K (.ref f54)=true)
  (a55:nsIn K mainGlobals "least_terms" =some (some (.ref f55)))
  (l55:K.lookup f55=some ⟨oc55,od55,.func (fnOf "least_terms" "least_terms" (aU gY) (aR gY) (az gY) .none kV55 dc55 pm55 an55 cd55 ct55),sl55⟩)
  (c55:codeIn K cd55 "least_terms" =true)
  (k55:keepIn K (.ref f55)=true)
  (a56:nsIn K mainGlobals "tokens_of" =some (some (.ref f56)))
  (l56:K.lookup f56=some ⟨oc56,od56,.func (fnOf "tokens_of" "tokens_of" (aU iD) (aR iD) (az iD) .none kV56 dc56 pm56 an56 cd56 ct56),sl56⟩)
  (c56:codeIn K cd56 "tokens_of" =true)
  (k56:keepIn K (.ref f56)=true)
  (a57:nsIn K mainGlobals "fraction_of" =some (some (.ref f57)))
  (l57:K.lookup f57=some ⟨oc57,od57,.func (fnOf "fraction_of" "fraction_of" (aU gW) (aR gW) (az gW) .none kV57 dc57 pm57 an57 cd57 ct57),sl57⟩)
  (c57:codeIn K cd57 "fraction_of" =true)
  (k57:keepIn K (.ref f57)=true)
  (a58:nsIn K mainGlobals "least_tokens" =some (some (.ref f58)))
  (l58:K.lookup f58=some ⟨oc58,od58,.func (fnOf "least_tokens" "least_tokens" (aU fP) (aR fP) (az fP) .none kV58 dc58 pm58 an58 cd58 ct58),sl58⟩)
  (c58:codeIn K cd58 "least_tokens" =true)
  (k58:keepIn K (.ref f58)=true)
  (a59:nsIn K mainGlobals "share" =some (some (.ref f59)))
  (l59:K.lookup f59=some ⟨oc59,od59,.func (fnOf "share" "share" (aU wC) (aR wC) (az wC) .none kV59 dc59 pm59 an59 cd59 ct59),sl59⟩)
  (c59:codeIn K cd59 "share" =true)
  (k59:keepIn K (.ref f59)=true)
  (a60:nsIn K mainGlobals "_law_arcs" =some (some (.ref f60)))
  (l60:K.lookup f60=some ⟨oc60,od60,.func (fnOf "_law_arcs" "_law_arcs" (aU fC) (aR fC) (az fC) .none kV60 dc60 pm60 an60 cd60 ct60),sl60⟩)
  (c60:codeIn K cd60 "_law_arcs" =true)
  (k60:keepIn K (.ref f60)=true)
  (a61:nsIn K mainGlobals "_law_whole" =some (some (.ref f61)))
  (l61:K.lookup f61=some ⟨oc61,od61,.func (fnOf "_law_whole" "_law_whole" (aU iU) (aR iU) (az iU) .none kV61 dc61 pm61 an61 cd61 ct61),sl61⟩)
  (c61:codeIn K cd61 "_law_whole" =true)
  (k61:keepIn K (.ref f61)=true)
  (a62:nsIn K mainGlobals "_law_ring" =some (some (.ref f62)))
  (l62:K.lookup f62=some ⟨oc62,od62,.func (fnOf "_law_ring" "_law_ring" (aU lw) (aR lw) (az lw) .none kV62 dc62 pm62 an62 cd62 ct62),sl62⟩)
  (c62:codeIn K cd62 "_law_ring" =true)
  (k62:keepIn K (.ref f62)=true)
  (a63:nsIn K mainGlobals "_law_changed" =some (some (.ref f63)))
  (l63:K.lookup f63=some ⟨oc63,od63,.func (fnOf "_law_changed" "_law_changed" (aU dX) (aR dX) (az dX) .none kV63 dc63 pm63 an63 cd63 ct63),sl63⟩)
  (c63:codeIn K cd63 "_law_changed" =true)
  (k63:keepIn K (.ref f63)=true)
  (a64:nsIn K mainGlobals "_law_divides" =some (some (.ref f64)))
  (l64:K.lookup f64=some ⟨oc64,od64,.func (fnOf "_law_divides" "_law_divides" (aU fU) (aR fU) (az fU) .none kV64 dc64 pm64 an64 cd64 ct64),sl64⟩)
  (c64:codeIn K cd64 "_law_divides" =true)
  (k64:keepIn K (.ref f64)=true)
  (a65:nsIn K mainGlobals "_law_numbers" =some (some (.ref f65)))
  (l65:K.lookup f65=some ⟨oc65,od65,.func (fnOf "_law_numbers" "_law_numbers" (aU eO) (aR eO) (az eO) .none kV65 dc65 pm65 an65 cd65 ct65),sl65⟩)
  (c65:codeIn K cd65 "_law_numbers" =true)
  (k65:keepIn K (.ref f65)=true)
  (a66:nsIn K mainGlobals "_law_least" =some (some (.ref f66)))
  (l66:K.lookup f66=some ⟨oc66,od66,.func (fnOf "_law_least" "_law_least" (aU iW) (aR iW) (az iW) .none kV66 dc66 pm66 an66 cd66 ct66),sl66⟩)
  (c66:codeIn K cd66 "_law_least" =true)
  (k66:keepIn K (.ref f66)=true)
  (a67:nsIn K mainGlobals "_law_paper" =some (some (.ref f67)))
  (l67:K.lookup f67=some ⟨oc67,od67,.func (fnOf "_law_paper" "_law_paper" (aU fH) (aR fH) (az fH) .none kV67 dc67 pm67 an67 cd67 ct67),sl67⟩)
  (c67:codeIn K cd67 "_law_paper" =true)
  (k67:keepIn K (.ref f67)=true)
  (a68:nsIn K mainGlobals "law" =some (some (.ref f68)))
  (l68:K.lookup f68=some ⟨oc68,od68,.func (fnOf "law" "law" (aU BL) (aR BL) (az BL) .none kV68 dc68 pm68 an68 cd68 ct68),sl68⟩)
  (c68:codeIn K cd68 "law" =true)
  (k68:keepIn K (.ref f68)=true)
  (jdt:nsIn K mainGlobals "all" =some none)
  (jdm:nsIn K mainGlobals "bool" =some none)
  (jdd:nsIn K mainGlobals "dict" =some none)
  (jdw:nsIn K mainGlobals "int" =some none)
  (jW:nsIn K mainGlobals "isinstance" =some none)
  (jdx:nsIn K mainGlobals "len" =some none)
  (jdo:nsIn K mainGlobals "list" =some none)
  (jds:nsIn K mainGlobals "max" =some none)
  (jb4:nsIn K mainGlobals "range" =some none)
  (ja1:nsIn K mainGlobals "reversed" =some none)
  (jbf:nsIn K mainGlobals "sorted" =some none)
  (jdu:nsIn K mainGlobals "str" =some none)
  (jdv:nsIn K mainGlobals "sum" =some none)
  (jbw:nsIn K mainGlobals "tuple" =some none)
  (jbi:nsIn K mainGlobals "VALUES" =some (some u_VALUES))
  (jbt:RelV (.int 1000000000) u_VALUES)
  (ja8:nsIn K mainGlobals "LETTERS" =some (some u_LETTERS))
  (jbb:RelV (.str "abcdefghijklmnopqrstuvwxyz") u_LETTERS)
  (jD:nsIn K mainGlobals "LONGEST_NAME" =some (some u_LONGEST_NAME))
  (jF:RelV (.int 8) u_LONGEST_NAME)
  (ja9:nsIn K mainGlobals "FIGURES" =some (some u_FIGURES))
  (ja4:RelV (.str "0123456789") u_FIGURES)
  (jag:nsIn K mainGlobals "MOST_LANES" =some (some u_MOST_LANES))
  (j9:RelV (.int 24) u_MOST_LANES)
  (jah:nsIn K mainGlobals "MOST_PARTS" =some (some u_MOST_PARTS))
  (jam:RelV (.int 16) u_MOST_PARTS)
  (jau:nsIn K mainGlobals "MOST_ROOM" =some (some u_MOST_ROOM))
  (jaw:RelV (.int 199) u_MOST_ROOM)
  (ja2:nsIn K mainGlobals "COUNTS" =some (some (.ref nQ)))
  (ja5:KTab w K nQ ROWS)
  :∃fd:FuncData,(∀(s:Shared) (v:Value),BindsTo s fd ⟨[v],[]⟩ [("_law_script",v)])∧∀base:Heap,K.In base→base.Ns mainGlobals mg→FnOk l.prog w K mg base CX0 8 fa fd ["_law_script"] (sp_law K):=by
 have e:=hfa.symm.trans (mg_of X G a68)
 cases e
 have F0:=bu (st:=mK) l0 c0 k0
 have b0:=F0.binds (ps:=["thing"]) fun _ _ _ _ _ _=>oO fun _=>rfl
 have F1:=bu (st:=m5) l1 c1 k1
 have b1:=F1.binds (ps:=["thing"]) fun _ _ _ _ _ _=>oO fun _=>rfl
 have F2:=bu (st:=fc) l2 c2 k2
 have b2:=F2.binds (ps:=["self", "name", "numbers", "ins", "outs"]) fun _ _ _ _ _ _=>us_5 fun _ _ _ _ _=>rfl
 have F3:=bu (st:=lQ) l3 c3 k3
 have b3:=F3.binds (ps:=["self"]) fun _ _ _ _ _ _=>oO fun _=>rfl
 have F4:=bu (st:=lA) l4 c4 k4
 have b4:=F4.binds (ps:=["self"]) fun _ _ _ _ _ _=>oO fun _=>rfl
 have F5:=bu (st:=lu) l5 c5 k5
 have b5:=F5.binds (ps:=["self"]) fun _ _ _ _ _ _=>oO fun _=>rfl
 have F6:=bu (st:=lJ) l6 c6 k6
 have b6:=F6.binds (ps:=["self"]) fun _ _ _ _ _ _=>oO fun _=>rfl
 have F7:=bu (st:=lD) l7 c7 k7
 have b7:=F7.binds (ps:=["self"]) fun _ _ _ _ _ _=>oO fun _=>rfl
 have F8:=bu (st:=lR) l8 c8 k8
 have b8:=F8.binds (ps:=["self"]) fun _ _ _ _ _ _=>oO fun _=>rfl
 have F9:=bu (st:=mZ) l9 c9 k9
 have b9:=F9.binds (ps:=["self"]) fun _ _ _ _ _ _=>oO fun _=>rfl
 have F10:=bu (st:=lH) l10 c10 k10
 have b10:=F10.binds (ps:=["self"]) fun _ _ _ _ _ _=>oO fun _=>rfl
 have F11:=bu (st:=iK) l11 c11 k11
 have b11:=F11.binds (ps:=["self"]) fun _ _ _ _ _ _=>oO fun _=>rfl
 have F12:=bu (st:=gQ) l12 c12 k12
 have b12:=F12.binds (ps:=["self"]) fun _ _ _ _ _ _=>oO fun _=>rfl
 have F13:=bu (st:=iJ) l13 c13 k13
 have b13:=F13.binds (ps:=["self"]) fun _ _ _ _ _ _=>oO fun _=>rfl
 have F14:=bu (st:=oZ) l14 c14 k14
 have b14:=F14.binds (ps:=["word"]) fun _ _ _ _ _ _=>oO fun _=>rfl
 have F15:=bu (st:=lg) l15 c15 k15
 have b15:=F15.binds (ps:=["kind", "name", "numbers", "ins", "outs"]) fun _ _ _ _ _ _=>us_5 fun _ _ _ _ _=>rfl
 have F16:=bu (st:=oY) l16 c16 k16
 have b16:=F16.binds (ps:=["kind", "name", "numbers", "ins", "outs"]) fun _ _ _ _ _ _=>us_5 fun _ _ _ _ _=>rfl
 have F17:=bu (st:=lG) l17 c17 k17
 have b17:=F17.binds (ps:=["kind", "name", "numbers", "ins", "outs"]) fun _ _ _ _ _ _=>us_5 fun _ _ _ _ _=>rfl
 have F18:=bu (st:=mW) l18 c18 k18
 have b18:=F18.binds (ps:=["_law_cell_here", "_law_k"]) fun _ _ _ _ _ _=>oR fun _ _=>rfl
 have F19:=bu (st:=lB) l19 c19 k19
 have b19:=F19.binds (ps:=["_law_script", "_law_k"]) fun _ _ _ _ _ _=>oR fun _ _=>rfl
 have F20:=bu (st:=iY) l20 c20 k20
 have b20:=F20.binds (ps:=["_law_cell_here", "_law_k"]) fun _ _ _ _ _ _=>oR fun _ _=>rfl
 have F21:=bu (st:=ir) l21 c21 k21
 have b21:=F21.binds (ps:=["_law_cell_here", "_law_k"]) fun _ _ _ _ _ _=>oR fun _ _=>rfl
 have F22:=bu (st:=iu) l22 c22 k22
 have b22:=F22.binds (ps:=["_law_state", "_law_cell_here", "_law_back"]) fun _ _ _ _ _ _=>zW fun _ _ _=>rfl
 have F23:=bu (st:=lE) l23 c23 k23
 have b23:=F23.binds (ps:=["_law_state", "_law_number"]) fun _ _ _ _ _ _=>oR fun _ _=>rfl
 have F24:=bu (st:=iz) l24 c24 k24
 have b24:=F24.binds (ps:=["_law_state", "_law_cell_here", "_law_kind", "_law_numbers_here", "_law_ins", "_law_many"]) fun _ _ _ _ _ _=>us_6 fun _ _ _ _ _ _=>rfl
 have F25:=bu (st:=mL) l25 c25 k25
 have b25:=F25.binds (ps:=["_law_state", "_law_cell_here", "_law_one", "_law_odd"]) fun _ _ _ _ _ _=>us_4 fun _ _ _ _=>rfl
 have F26:=bu (st:=lK) l26 c26 k26
 have b26:=F26.binds (ps:=["_law_state", "_law_cell_here", "_law_one"]) fun _ _ _ _ _ _=>zW fun _ _ _=>rfl
 have F27:=bu (st:=lL) l27 c27 k27
 have b27:=F27.binds (ps:=["_law_state", "_law_cell_here", "_law_odd"]) fun _ _ _ _ _ _=>zW fun _ _ _=>rfl
 have F28:=bu (st:=gM) l28 c28 k28
 have b28:=F28.binds (ps:=["_law_state", "_law_cell_here", "_law_back"]) fun _ _ _ _ _ _=>zW fun _ _ _=>rfl
 have F29:=bu (st:=kZ) l29 c29 k29
 have b29:=F29.binds (ps:=["_law_script", "_law_start", "_law_steps", "_law_odd"]) fun _ _ _ _ _ _=>us_4 fun _ _ _ _=>rfl
 have F30:=bu (st:=mY) l30 c30 k30
 have b30:=F30.binds (ps:=["thing"]) fun _ _ _ _ _ _=>oO fun _=>rfl
 have F31:=bu (st:=gJ) l31 c31 k31
 have b31:=F31.binds (ps:=["lanes", "parts"]) fun _ _ _ _ _ _=>oR fun _ _=>rfl
 have F32:=bu (st:=iI) l32 c32 k32
 have b32:=F32.binds (ps:=["name", "known"]) fun _ _ _ _ _ _=>oR fun _ _=>rfl
 have F33:=bu (st:=iw) l33 c33 k33
 have b33:=F33.binds (ps:=["name", "room", "first"]) fun _ _ _ _ _ _=>zW fun _ _ _=>rfl
 have F34:=bu (st:=iM) l34 c34 k34
 have b34:=F34.binds (ps:=["row", "known"]) fun _ _ _ _ _ _=>oR fun _ _=>rfl
 have F35:=bu (st:=lq) l35 c35 k35
 have b35:=F35.binds (ps:=["part", "lanes", "rooms", "ends"]) fun _ _ _ _ _ _=>us_4 fun _ _ _ _=>rfl
 have F36:=bu (st:=lO) l36 c36 k36
 have b36:=F36.binds (ps:=["rooms", "givers", "takers"]) fun _ _ _ _ _ _=>zW fun _ _ _=>rfl
 have F37:=bu (st:=gZ) l37 c37 k37
 have b37:=F37.binds (ps:=["part", "givers", "takers"]) fun _ _ _ _ _ _=>zW fun _ _ _=>rfl
 have F38:=bu (st:=gH) l38 c38 k38
 have b38:=F38.binds (ps:=["names", "givers", "takers"]) fun _ _ _ _ _ _=>zW fun _ _ _=>rfl
 have F39:=bu (st:=dW) l39 c39 k39
 have b39:=F39.binds (ps:=["self"]) fun _ _ _ _ _ _=>oO fun _=>rfl
 have F40:=bu (st:=dR) l40 c40 k40
 have b40:=F40.binds (ps:=["self"]) fun _ _ _ _ _ _=>oO fun _=>rfl
 have F41:=bu (st:=cT) l41 c41 k41
 have b41:=F41.binds (ps:=["self", "name"]) fun _ _ _ _ _ _=>oR fun _ _=>rfl
 have F42:=bu (st:=gO) l42 c42 k42
 have b42:=F42.binds (ps:=["self", "name"]) fun _ _ _ _ _ _=>oR fun _ _=>rfl
 have F43:=bu (st:=fZ) l43 c43 k43
 have b43:=F43.binds (ps:=["self", "name"]) fun _ _ _ _ _ _=>oR fun _ _=>rfl
 have F44:=bu (st:=fX) l44 c44 k44
 have b44:=F44.binds (ps:=["self", "name"]) fun _ _ _ _ _ _=>oR fun _ _=>rfl
 have F45:=bu (st:=fY) l45 c45 k45
 have b45:=F45.binds (ps:=["self", "name"]) fun _ _ _ _ _ _=>oR fun _ _=>rfl
 have F46:=bu (st:=o7) l46 c46 k46
 have b46:=F46.binds (ps:=["self"]) fun _ _ _ _ _ _=>oO fun _=>rfl
 have F47:=bu (st:=fW) l47 c47 k47
 have b47:=F47.binds (ps:=["self", "lanes", "parts"]) fun _ _ _ _ _ _=>zW fun _ _ _=>rfl
 have F48:=bu (st:=fQ) l48 c48 k48
 have b48:=F48.binds (ps:=["net", "lane"]) fun _ _ _ _ _ _=>oR fun _ _=>rfl
 have F49:=bu (st:=mQ) l49 c49 k49
 have b49:=F49.binds (ps:=["net"]) fun _ _ _ _ _ _=>oO fun _=>rfl
 have F50:=bu (st:=iH) l50 c50 k50
 have b50:=F50.binds (ps:=["start", "leads"]) fun _ _ _ _ _ _=>oR fun _ _=>rfl
 have F51:=bu (st:=iy) l51 c51 k51
 have b51:=F51.binds (ps:=["start", "into"]) fun _ _ _ _ _ _=>oR fun _ _=>rfl
 have F52:=bu (st:=iT) l52 c52 k52
 have b52:=F52.binds (ps:=["times", "into", "arcs", "wish"]) fun _ _ _ _ _ _=>us_4 fun _ _ _ _=>rfl
 have F53:=bu (st:=eZ) l53 c53 k53
 have b53:=F53.binds (ps:=["names", "arcs", "wish"]) fun _ _ _ _ _ _=>zW fun _ _ _=>rfl
 have F54:=bu (st:=dj) l54 c54 k54
 have b54:=F54.binds (ps:=["one", "other"]) fun _ _ _ _ _ _=>oR fun _ _=>rfl
 have F55:=bu (st:=gY) l55 c55 k55
 have b55:=F55.binds (ps:=["top", "bottom"]) fun _ _ _ _ _ _=>oR fun _ _=>rfl
 have F56:=bu (st:=iD) l56 c56 k56
 have b56:=F56.binds (ps:=["ring"]) fun _ _ _ _ _ _=>oO fun _=>rfl
 have F57:=bu (st:=gW) l57 c57 k57
 have b57:=F57.binds (ps:=["ring"]) fun _ _ _ _ _ _=>oO fun _=>rfl
 have F58:=bu (st:=fP) l58 c58 k58
 have b58:=F58.binds (ps:=["arcs", "start"]) fun _ _ _ _ _ _=>oR fun _ _=>rfl
 have F59:=bu (st:=wC) l59 c59 k59
 have b59:=F59.binds (ps:=["net"]) fun _ _ _ _ _ _=>oO fun _=>rfl
 have F60:=bu (st:=fC) l60 c60 k60
 have b60:=F60.binds (ps:=["_law_lanes", "_law_parts"]) fun _ _ _ _ _ _=>oR fun _ _=>rfl
 have F61:=bu (st:=iU) l61 c61 k61
 have b61:=F61.binds (ps:=["_law_found"]) fun _ _ _ _ _ _=>oO fun _=>rfl
 have F62:=bu (st:=lw) l62 c62 k62
 have b62:=F62.binds (ps:=["_law_ring_here", "_law_arcs_here"]) fun _ _ _ _ _ _=>oR fun _ _=>rfl
 have F63:=bu (st:=dX) l63 c63 k63
 have b63:=F63.binds (ps:=["_law_lanes", "_law_cell_here"]) fun _ _ _ _ _ _=>oR fun _ _=>rfl
 have F64:=bu (st:=fU) l64 c64 k64
 have b64:=F64.binds (ps:=["_law_top", "_law_bottom"]) fun _ _ _ _ _ _=>oR fun _ _=>rfl
 have F65:=bu (st:=eO) l65 c65 k65
 have b65:=F65.binds (ps:=["_law_told", "_law_names"]) fun _ _ _ _ _ _=>oR fun _ _=>rfl
 have F66:=bu (st:=iW) l66 c66 k66
 have b66:=F66.binds (ps:=["_law_arcs_here", "_law_start", "_law_many"]) fun _ _ _ _ _ _=>zW fun _ _ _=>rfl
 have F67:=bu (st:=fH) l67 c67 k67
 have b67:=F67.binds (ps:=["_law_paper_here", "_law_arcs_here", "_law_names"]) fun _ _ _ _ _ _=>zW fun _ _ _=>rfl
 have F68:=bu (st:=BL) l68 c68 k68
 have b68:=F68.binds (ps:=["_law_script"]) fun _ _ _ _ _ _=>oO fun _=>rfl
 have T:Txt w K mg ⟨_,_,_,_,_,_,_,_,_,_,_,_,_,_,_,_,_,_,_,_,_,_,_,_,_,_,_,_,_,_,_,_,_,_,_,_,_,_,_,_,_,_,_,_,_,_,_,_,_,_,_,_,_,_,_,_,_,_,_,_,_,_,_,_,_,_,_,_,_,_,_,_,_,_,_,_,_,_,_,_,_,_,_,_,_,_,_,_,_,_,_,_,_,_,_,_,_,_,_,_,_,_,_,_,_,_,_,_,_,_,_,_,_,_,_,_,_,_,_,_,_,_,_,_,_,_,_,_,_,_,_,_,_,_,_,_,_,_,dI,dH,dD,dB,dF,dG,gw,dJ,cL,bZ,cM,bK,nQ⟩:=⟨F0,b0,mg_of X G a0,
  F1,b1,mg_of X G a1,
  F2,b2,
  F3,b3,
  F4,b4,
  F5,b5,
  F6,b6,
  F7,b7,
  F8,b8,
  F9,b9,
  F10,b10,
  F11,b11,
  F12,b12,
  F13,b13,
  F14,b14,mg_of X G a14,
  F15,b15,mg_of X G a15,
  F16,b16,mg_of X G a16,
  F17,b17,mg_of X G a17,
  F18,b18,mg_of X G a18,
  F19,b19,mg_of X G a19,
  F20,b20,mg_of X G a20,
  F21,b21,mg_of X G a21,
  F22,b22,mg_of X G a22,
  F23,b23,mg_of X G a23,
  F24,b24,mg_of X G a24,
  F25,b25,mg_of X G a25,
  F26,b26,mg_of X G a26,
  F27,b27,mg_of X G a27,
  F28,b28,mg_of X G a28,
  F29,b29,mg_of X G a29,
  F30,b30,mg_of X G a30,
  F31,b31,mg_of X G a31,
  F32,b32,mg_of X G a32,
  F33,b33,mg_of X G a33,
  F34,b34,mg_of X G a34,
  F35,b35,mg_of X G a35,
  F36,b36,mg_of X G a36,
  F37,b37,mg_of X G a37,
  F38,b38,mg_of X G a38,
  F39,b39,
  F40,b40,
  F41,b41,
  F42,b42,
  F43,b43,
  F44,b44,
  F45,b45,
  F46,b46,
  F47,b47,
  F48,b48,mg_of X G a48,
  F49,b49,mg_of X G a49,
  F50,b50,mg_of X G a50,
  F51,b51,mg_of X G a51,
  F52,b52,mg_of X G a52,
  F53,b53,mg_of X G a53,
  F54,b54,mg_of X G a54,
  F55,b55,mg_of X G a55,
  F56,b56,mg_of X G a56,
  F57,b57,mg_of X G a57,
  F58,b58,mg_of X G a58,
  F59,b59,mg_of X G a59,
  F60,b60,mg_of X G a60,
  F61,b61,mg_of X G a61,
  F62,b62,mg_of X G a62,
  F63,b63,mg_of X G a63,
  F64,b64,mg_of X G a64,
  F65,b65,mg_of X G a65,
  F66,b66,mg_of X G a66,
  F67,b67,mg_of X G a67,
  F68,b68,mg_of X G a68,
  ⟨jcg,jck,jc9,jcr⟩,mg_of X G jcq,
  ⟨jcw,jh,i2,jc8⟩,
  ⟨jae,i3,k3⟩,
  jX,
  jt,
  jap,
  j3,
  ⟨jcn,jc6,jcv,jco⟩,mg_of X G jb1,
  ⟨jc0,jm,i2,jc2⟩,
  ⟨j8,i4,k4⟩,
  jab,
  jz,
  jav,
  j2,
  ⟨jcp,jcs,jb7,jcc⟩,mg_of X G jcf,
  ⟨jby,jk,i2,jb3⟩,
  ⟨jZ,i5,k5⟩,
  j6,
  jv,
  jan,
  j5,
  ⟨jca,jcz,jb2,jcd⟩,mg_of X G jb6,
  ⟨jce,ji,i2,jb5⟩,
  ⟨jaj,i6,k6⟩,
  jac,
  js,
  jaq,
  jT,
  ⟨jbz,jcx,jc7,jcm⟩,mg_of X G jb8,
  ⟨jc3,jn,i2,jc4⟩,
  ⟨jak,i7,k7⟩,
  jV,
  ju,
  jas,
  jaf,
  ⟨jc1,jbx,jch,jcl⟩,mg_of X G jcj,
  ⟨jci,jj,i2,jcb⟩,
  ⟨j7,i8,k8⟩,
  j4,
  jB,
  jar,
  jal,
  ⟨jdc,jde,jdf,jdq⟩,mg_of X G jdp,
  ⟨jdn,jA,i2,jdh⟩,
  ⟨jay,i9,k9⟩,
  jat,
  jE,
  jaz,
  jao,
  ⟨jct,jcy,jda,jcu⟩,mg_of X G jb9,
  ⟨jc5,jo,i2,jb0⟩,
  ⟨jad,i10,k10⟩,
  j1,
  jy,
  jax,
  jU,
  ⟨jbj,jbv,jbn,jbh⟩,mg_of X G jbm,
  ⟨jbg,jc,i2,jbp⟩,
  ⟨jQ,i11,k11⟩,
  jK,
  jl,
  j0,
  jM,
  ⟨ja3,ja7,jbe,jba⟩,mg_of X G jbd,
  ⟨jbc,jb,i2,ja6⟩,
  ⟨jG,i12,k12⟩,
  jC,
  jd,
  jJ,
  jH,
  ⟨jbr,jbl,jbu,jbq⟩,mg_of X G jbs,
  ⟨jbk,jg,i2,jbo⟩,
  ⟨jL,i13,k13⟩,
  jP,
  jp,
  jY,
  jR,
  ⟨jdl,jdi,jdr,jdg⟩,mg_of X G jdb,
  ⟨jdj,jx,i47,jdk⟩,
  ⟨jf,i39,k39⟩,
  ⟨je,i40,k40⟩,
  ⟨ja0,i46,k46⟩,
  ⟨ja,i41,k41⟩,
  ⟨jI,i42,k42⟩,
  ⟨jr,i43,k43⟩,
  ⟨jq,i44,k44⟩,
  ⟨jw,i45,k45⟩,
  jaa,
  jO,
  jai,
  jN,
  jS,
  mg_of X G ja2,ja5,
  mg_none_of X G jdt,
  mg_none_of X G jdm,
  mg_none_of X G jdd,
  mg_none_of X G jdw,
  mg_none_of X G jW,
  mg_none_of X G jdx,
  mg_none_of X G jdo,
  mg_none_of X G jds,
  mg_none_of X G jb4,
  mg_none_of X G ja1,
  mg_none_of X G jbf,
  mg_none_of X G jdu,
  mg_none_of X G jdv,
  mg_none_of X G jbw,
  ⟨_,mg_of X G jbi,jbt⟩,
  ⟨_,mg_of X G ja8,jbb⟩,
  ⟨_,mg_of X G jD,jF⟩,
  ⟨_,mg_of X G ja9,ja4⟩,
  ⟨_,mg_of X G jag,j9⟩,
  ⟨_,mg_of X G jah,jam⟩,
  ⟨_,mg_of X G jau,jaw⟩⟩
 exact⟨_,fun s v=>.of_eq rfl,fun base _ _=>ok_law T⟩
theorem walk {l:PySem.W.OpenLaw} {q:Program} {loose:List Str} {XP:(Str→Option Value)→Heap→Prop} {YP:World→Heap→Prop} {d:DefRec} {K:Params→PySem.W.Frag} (hn:l.most=some 63) (hdf:d.params.defaults=[])
  (hY:∀(w:World) (h:Heap),YP w h→(K w.params).In h)
  (F:∀(w:World) (mg:Str→Option Value) (fa:Addr) (h:Heap),(K w.params).In h→h.Ns mainGlobals mg→mg d.name=some (.ref fa)→
   ∃fd:FuncData,(∀(s:Shared) (u:Value),BindsTo s fd ⟨[u],[]⟩ [("_law_script",u)])∧∀base:Heap,(K w.params).In base→base.Ns mainGlobals mg→FnOk l.prog w (K w.params) mg base CX0 8 fa fd ["_law_script"] (sp_law (K w.params))):
  PySem.W.WalkO q loose XP YP l.row.toRowW d [] (fun f vs=>PySem.call f vs):=
 L2.walk_of (n:=63) (k:=8) (x:= "_law_script") (CX:=fun _=>CX0) (sp:=fun w=>sp_law (K w.params)) hn (by decide) hdf ⟨rfl,by decide,by decide⟩ hY F (fun _ _ a ns hl _ hS=>⟨a,ns,rfl,hS,hl,fun _=>rfl⟩) fun _ _ _ _ _ z=>z
end K64
open PySem PySem.W PyProof.Rows
set_option maxRecDepth 100000 in
set_option maxHeartbeats 0 in
theorem PySem.Challenge.cw_holdlane_k64_the_paper_of_a_share_holds : PySem.Challenge.rw_holdlane_k64_the_paper_of_a_share.Holds := by
 w_on;o_law
 refine HD.head (by rfl) (by rfl) (by rfl) (by rfl) (by first | assumption | decide +kernel) (by decide +kernel) ⟨rfl,rfl,rfl,rfl,rfl,by decide +kernel⟩ rfl (fun _=>rfl) ?_ ?_
 ·w_witness2
 k_fill
 refine K64.walk (l:=PySem.Challenge.rw_holdlane_k64_the_paper_of_a_share) rfl rfl (fun w h Y=>PySem.W.kIn_of Y) ?F
 case F=>
  intro w mg fa h KX G hmg
  refine' K64.all_mk KX G hmg ?jcq ?jcg ?jck ?jc9 ?jcr ?jcw ?jc8 ?jh ?jae ?jX ?jt ?jap ?j3 ?jb1 ?jcn ?jc6 ?jcv ?jco ?jc0 ?jc2 ?jm ?j8 ?jab ?jz ?jav ?j2 ?jcf ?jcp ?jcs ?jb7 ?jcc ?jby ?jb3 ?jk ?jZ ?j6 ?jv ?jan ?j5 ?jb6 ?jca ?jcz ?jb2 ?jcd ?jce ?jb5 ?ji ?jaj ?jac ?js ?jaq ?jT ?jb8 ?jbz ?jcx ?jc7 ?jcm ?jc3 ?jc4 ?jn ?jak ?jV ?ju ?jas ?jaf ?jcj ?jc1 ?jbx ?jch ?jcl ?jci ?jcb ?jj ?j7 ?j4 ?jB ?jar ?jal ?jdp ?jdc ?jde ?jdf ?jdq ?jdn ?jdh ?jA ?jay ?jat ?jE ?jaz ?jao ?jb9 ?jct ?jcy ?jda ?jcu ?jc5 ?jb0 ?jo ?jad ?j1 ?jy ?jax ?jU ?jbm ?jbj ?jbv ?jbn ?jbh ?jbg ?jbp ?jc ?jQ ?jK ?jl ?j0 ?jM ?jbd ?ja3 ?ja7 ?jbe ?jba ?jbc ?ja6 ?jb ?jG ?jC ?jd ?jJ ?jH ?jbs ?jbr ?jbl ?jbu ?jbq ?jbk ?jbo ?jg ?jL ?jP ?jp ?jY ?jR ?jdb ?jdl ?jdi ?jdr ?jdg ?jdj ?jdk ?jx ?jf ?je ?ja0 ?ja ?jI ?jr ?jq ?jw ?jaa ?jO ?jai ?jN ?jS ?a0 ?l0 ?c0 ?k0 ?a1 ?l1 ?c1 ?k1 ?i2 ?l2 ?c2 ?k2 ?i3 ?l3 ?c3 ?k3 ?i4 ?l4 ?c4 ?k4 ?i5 ?l5 ?c5 ?k5 ?i6 ?l6 ?c6 ?k6 ?i7 ?l7 ?c7 ?k7 ?i8 ?l8 ?c8 ?k8 ?i9 ?l9 ?c9 ?k9 ?i10 ?l10 ?c10 ?k10 ?i11 ?l11 ?c11 ?k11 ?i12 ?l12 ?c12 ?k12 ?i13 ?l13 ?c13 ?k13 ?a14 ?l14 ?c14 ?k14 ?a15 ?l15 ?c15 ?k15 ?a16 ?l16 ?c16 ?k16 ?a17 ?l17 ?c17 ?k17 ?a18 ?l18 ?c18 ?k18 ?a19 ?l19 ?c19 ?k19 ?a20 ?l20 ?c20 ?k20 ?a21 ?l21 ?c21 ?k21 ?a22 ?l22 ?c22 ?k22 ?a23 ?l23 ?c23 ?k23 ?a24 ?l24 ?c24 ?k24 ?a25 ?l25 ?c25 ?k25 ?a26 ?l26 ?c26 ?k26 ?a27 ?l27 ?c27 ?k27 ?a28 ?l28 ?c28 ?k28 ?a29 ?l29 ?c29 ?k29 ?a30 ?l30 ?c30 ?k30 ?a31 ?l31 ?c31 ?k31 ?a32 ?l32 ?c32 ?k32 ?a33 ?l33 ?c33 ?k33 ?a34 ?l34 ?c34 ?k34 ?a35 ?l35 ?c35 ?k35 ?a36 ?l36 ?c36 ?k36 ?a37 ?l37 ?c37 ?k37 ?a38 ?l38 ?c38 ?k38 ?i39 ?l39 ?c39 ?k39 ?i40 ?l40 ?c40 ?k40 ?i41 ?l41 ?c41 ?k41 ?i42 ?l42 ?c42 ?k42 ?i43 ?l43 ?c43 ?k43 ?i44 ?l44 ?c44 ?k44 ?i45 ?l45 ?c45 ?k45 ?i46 ?l46 ?c46 ?k46 ?i47 ?l47 ?c47 ?k47 ?a48 ?l48 ?c48 ?k48 ?a49 ?l49 ?c49 ?k49 ?a50 ?l50 ?c50 ?k50 ?a51 ?l51 ?c51 ?k51 ?a52 ?l52 ?c52 ?k52 ?a53 ?l53 ?c53 ?k53 ?a54 ?l54 ?c54 ?k54 ?a55 ?l55 ?c55 ?k55 ?a56 ?l56 ?c56 ?k56 ?a57 ?l57 ?c57 ?k57 ?a58 ?l58 ?c58 ?k58 ?a59 ?l59 ?c59 ?k59 ?a60 ?l60 ?c60 ?k60 ?a61 ?l61 ?c61 ?k61 ?a62 ?l62 ?c62 ?k62 ?a63 ?l63 ?c63 ?k63 ?a64 ?l64 ?c64 ?k64 ?a65 ?l65 ?c65 ?k65 ?a66 ?l66 ?c66 ?k66 ?a67 ?l67 ?c67 ?k67 ?a68 ?l68 ?c68 ?k68 ?jdt ?jdm ?jdd ?jdw ?jW ?jdx ?jdo ?jds ?jb4 ?ja1 ?jbf ?jdu ?jdv ?jbw ?jbi ?jbt ?ja8 ?jbb ?jD ?jF ?ja9 ?ja4 ?jag ?j9 ?jah ?jam ?jau ?jaw ?ja2 ?ja5
  (case jcq | jcg | jck | jc9 | jcr | jcw | jc8 | jh | jae | jX | jt | jap | j3 | jb1 | jcn | jc6 | jcv | jco | jc0 | jc2 | jm | j8 | jab | jz | jav | j2 | jcf | jcp | jcs | jb7 | jcc | jby | jb3 | jk | jZ | j6 | jv | jan | j5 | jb6 | jca | jcz | jb2 | jcd | jce | jb5 | ji | jaj | jac | js | jaq | jT | jb8 | jbz | jcx | jc7 | jcm | jc3 | jc4 | jn | jak | jV | ju | jas | jaf | jcj | jc1 | jbx | jch | jcl | jci | jcb | jj | j7 | j4 | jB | jar | jal | jdp | jdc | jde | jdf | jdq | jdn | jdh | jA | jay | jat | jE | jaz | jao | jb9 | jct | jcy | jda | jcu | jc5 | jb0 | jo | jad | j1 | jy | jax | jU | jbm | jbj | jbv | jbn | jbh | jbg | jbp | jc | jQ | jK | jl | j0 | jM | jbd | ja3 | ja7 | jbe | jba | jbc | ja6 | jb | jG | jC | jd | jJ | jH | jbs | jbr | jbl | jbu | jbq | jbk | jbo | jg | jL | jP | jp | jY | jR | jdb | jdl | jdi | jdr | jdg | jdj | jdk | jx | jf | je | ja0 | ja | jI | jr | jq | jw | jaa | jO | jai | jN | jS | a0 | l0 | c0 | k0 | a1 | l1 | c1 | k1 | i2 | l2 | c2 | k2 | i3 | l3 | c3 | k3 | i4 | l4 | c4 | k4 | i5 | l5 | c5 | k5 | i6 | l6 | c6 | k6 | i7 | l7 | c7 | k7 | i8 | l8 | c8 | k8 | i9 | l9 | c9 | k9 | i10 | l10 | c10 | k10 | i11 | l11 | c11 | k11 | i12 | l12 | c12 | k12 | i13 | l13 | c13 | k13 | a14 | l14 | c14 | k14 | a15 | l15 | c15 | k15 | a16 | l16 | c16 | k16 | a17 | l17 | c17 | k17 | a18 | l18 | c18 | k18 | a19 | l19 | c19 | k19 | a20 | l20 | c20 | k20 | a21 | l21 | c21 | k21 | a22 | l22 | c22 | k22 | a23 | l23 | c23 | k23 | a24 | l24 | c24 | k24 | a25 | l25 | c25 | k25 | a26 | l26 | c26 | k26 | a27 | l27 | c27 | k27 | a28 | l28 | c28 | k28 | a29 | l29 | c29 | k29 | a30 | l30 | c30 | k30 | a31 | l31 | c31 | k31 | a32 | l32 | c32 | k32 | a33 | l33 | c33 | k33 | a34 | l34 | c34 | k34 | a35 | l35 | c35 | k35 | a36 | l36 | c36 | k36 | a37 | l37 | c37 | k37 | a38 | l38 | c38 | k38 | i39 | l39 | c39 | k39 | i40 | l40 | c40 | k40 | i41 | l41 | c41 | k41 | i42 | l42 | c42 | k42 | i43 | l43 | c43 | k43 | i44 | l44 | c44 | k44 | i45 | l45 | c45 | k45 | i46 | l46 | c46 | k46 | i47 | l47 | c47 | k47 | a48 | l48 | c48 | k48 | a49 | l49 | c49 | k49 | a50 | l50 | c50 | k50 | a51 | l51 | c51 | k51 | a52 | l52 | c52 | k52 | a53 | l53 | c53 | k53 | a54 | l54 | c54 | k54 | a55 | l55 | c55 | k55 | a56 | l56 | c56 | k56 | a57 | l57 | c57 | k57 | a58 | l58 | c58 | k58 | a59 | l59 | c59 | k59 | a60 | l60 | c60 | k60 | a61 | l61 | c61 | k61 | a62 | l62 | c62 | k62 | a63 | l63 | c63 | k63 | a64 | l64 | c64 | k64 | a65 | l65 | c65 | k65 | a66 | l66 | c66 | k66 | a67 | l67 | c67 | k67 | a68 | l68 | c68 | k68 | jdt | jdm | jdd | jdw | jW | jdx | jdo | jds | jb4 | ja1 | jbf | jdu | jdv | jbw | jbi=>k_is)
  (case jbt=>exact⟨_,rfl⟩)
  (case ja8=>k_is)
  (case jbb=>exact⟨_,rfl⟩)
  (case jD=>k_is)
  (case jF=>exact⟨_,rfl⟩)
  (case ja9=>k_is)
  (case ja4=>exact⟨_,rfl⟩)
  (case jag=>k_is)
  (case j9=>exact⟨_,rfl⟩)
  (case jah=>k_is)
  (case jam=>exact⟨_,rfl⟩)
  (case jau=>k_is)
  (case jaw=>exact⟨_,rfl⟩)
  (case ja2=>k_is)
  (case ja5=>
   refine' L2.KTab.mk' ?lk ?c1 ?c2 ?c3 ?c4 ?sm ?rows ?nd
   (case lk=>k_is)
   (case c1=>exact rfl)
   (case c2=>exact rfl)
   (case c3=>exact rfl)
   (case c4=>exact rfl)
   (case sm=>exact rfl)
   (case nd=>decide +kernel)
   (case rows=>
    refine' L2.KRows.cons ?hh0 ?lk0 ?cc0 ?dd0 ?vv0 ?zz0 ?rest0
    (case hh0=>exact rfl)
    (case lk0=>k_is)
    (case cc0=>exact rfl)
    (case dd0=>exact rfl)
    (case vv0=>exact .cons ⟨_,rfl⟩ (.cons ⟨_,rfl⟩ (.cons ⟨_,rfl⟩ .nil)))
    (case zz0=>decide)
    refine' L2.KRows.cons ?hh1 ?lk1 ?cc1 ?dd1 ?vv1 ?zz1 ?rest1
    (case hh1=>exact rfl)
    (case lk1=>k_is)
    (case cc1=>exact rfl)
    (case dd1=>exact rfl)
    (case vv1=>exact .cons ⟨_,rfl⟩ (.cons ⟨_,rfl⟩ (.cons ⟨_,rfl⟩ .nil)))
    (case zz1=>decide)
    refine' L2.KRows.cons ?hh2 ?lk2 ?cc2 ?dd2 ?vv2 ?zz2 ?rest2
    (case hh2=>exact rfl)
    (case lk2=>k_is)
    (case cc2=>exact rfl)
    (case dd2=>exact rfl)
    (case vv2=>exact .cons ⟨_,rfl⟩ (.cons ⟨_,rfl⟩ (.cons ⟨_,rfl⟩ .nil)))
    (case zz2=>decide)
    refine' L2.KRows.cons ?hh3 ?lk3 ?cc3 ?dd3 ?vv3 ?zz3 ?rest3
    (case hh3=>exact rfl)
    (case lk3=>k_is)
    (case cc3=>exact rfl)
    (case dd3=>exact rfl)
    (case vv3=>exact .cons ⟨_,rfl⟩ (.cons ⟨_,rfl⟩ (.cons ⟨_,rfl⟩ .nil)))
    (case zz3=>decide)
    refine' L2.KRows.cons ?hh4 ?lk4 ?cc4 ?dd4 ?vv4 ?zz4 ?rest4
    (case hh4=>exact rfl)
    (case lk4=>k_is)
    (case cc4=>exact rfl)
    (case dd4=>exact rfl)
    (case vv4=>exact .cons ⟨_,rfl⟩ (.cons ⟨_,rfl⟩ (.cons ⟨_,rfl⟩ .nil)))
    (case zz4=>decide)
    refine' L2.KRows.cons ?hh5 ?lk5 ?cc5 ?dd5 ?vv5 ?zz5 ?rest5
    (case hh5=>exact rfl)
    (case lk5=>k_is)
    (case cc5=>exact rfl)
    (case dd5=>exact rfl)
    (case vv5=>exact .cons ⟨_,rfl⟩ (.cons ⟨_,rfl⟩ (.cons ⟨_,rfl⟩ .nil)))
    (case zz5=>decide)
    refine' L2.KRows.cons ?hh6 ?lk6 ?cc6 ?dd6 ?vv6 ?zz6 ?rest6
    (case hh6=>exact rfl)
    (case lk6=>k_is)
    (case cc6=>exact rfl)
    (case dd6=>exact rfl)
    (case vv6=>exact .cons ⟨_,rfl⟩ (.cons ⟨_,rfl⟩ (.cons ⟨_,rfl⟩ .nil)))
    (case zz6=>decide)
    refine' L2.KRows.cons ?hh7 ?lk7 ?cc7 ?dd7 ?vv7 ?zz7 ?rest7
    (case hh7=>exact rfl)
    (case lk7=>k_is)
    (case cc7=>exact rfl)
    (case dd7=>exact rfl)
    (case vv7=>exact .cons ⟨_,rfl⟩ (.cons ⟨_,rfl⟩ (.cons ⟨_,rfl⟩ .nil)))
    (case zz7=>decide)
    refine' L2.KRows.cons ?hh8 ?lk8 ?cc8 ?dd8 ?vv8 ?zz8 ?rest8
    (case hh8=>exact rfl)
    (case lk8=>k_is)
    (case cc8=>exact rfl)
    (case dd8=>exact rfl)
    (case vv8=>exact .cons ⟨_,rfl⟩ (.cons ⟨_,rfl⟩ (.cons ⟨_,rfl⟩ .nil)))
    (case zz8=>decide)
    refine' L2.KRows.cons ?hh9 ?lk9 ?cc9 ?dd9 ?vv9 ?zz9 ?rest9
    (case hh9=>exact rfl)
    (case lk9=>k_is)
    (case cc9=>exact rfl)
    (case dd9=>exact rfl)
    (case vv9=>exact .cons ⟨_,rfl⟩ (.cons ⟨_,rfl⟩ (.cons ⟨_,rfl⟩ .nil)))
    (case zz9=>decide)
    refine' L2.KRows.cons ?hh10 ?lk10 ?cc10 ?dd10 ?vv10 ?zz10 ?rest10
    (case hh10=>exact rfl)
    (case lk10=>k_is)
    (case cc10=>exact rfl)
    (case dd10=>exact rfl)
    (case vv10=>exact .cons ⟨_,rfl⟩ (.cons ⟨_,rfl⟩ (.cons ⟨_,rfl⟩ .nil)))
    (case zz10=>decide)
    exact .nil))
