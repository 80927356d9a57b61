import PyProof.Rows.All
import Wide.All
import OpenK.AllK
import Wide.FinOn
import Lean
import PyProof.EqAt
import PyProof.EqKinds
import PyProof.TupleCall
import PyProof.StrLawsChain
import PyProof.StrLawsOccR
import PyProof.StrLawsReplace
import PyProof.NeKinds
import PyProof.EnumStmt
import PyProof.EnumMake
import PyProof.ListRange
import PyProof.StationsW
import PyProof.ExcClass2
import PyProof.ExcInit
import PyProof.InstStoreFacts
import OpenK.KRaise
import PyProof.NsDelKeeps
import PyProof.RulesAs
import PyProof.Rows.Catch
import OpenK.KOwn
import PyProof.ExcArgsOwn
import PyProof.ExcAttrAll.ValueError
import PyProof.IsiBase
import PyProof.MaxThree
import PyProof.SeqI3
import KE.KIsAll
import KE.IntTextLaws
import PyProof.StrLawsIdx
import PyProof.FitsInt
import PySem.Challenge.RW_holdlane_k74_slots_put_in
set_option Elab.async false
set_option linter.all false
set_option maxRecDepth 100000
namespace L2
open PySem PySem.Spec PyProof.Rows
abbrev Key:=Sum Int Str
def keyIs:Key→Value→Bool
 | .inl k,v=>Value.isInt k v
 | .inr x,v=>Value.isStrOf x v
def keyH (w:World):Key→Int
 | .inl k=>hashInt k
 | .inr x=>hashStr w x
theorem fj:∀{k:Key} {v:Value},keyIs k v=true→(∃i t,k=Sum.inl i∧v=Value.int i t)∨(∃x t,k=Sum.inr x∧v=Value.str x t)
 | .inl i,v,h=>by
  obtain⟨t,e⟩:=Value.isInt_shape (k:=i) (v:=v) h
  exact .inl ⟨i,t,rfl,e⟩
 | .inr x,v,h=>by
  obtain⟨t,e⟩:=Value.isStrOf_shape (x:=x) (v:=v) h
  exact .inr ⟨x,t,rfl,e⟩
theorem keyIs_int (i:Int) (t:Tok):keyIs (.inl i) (.int i t)=true:=by simp [keyIs,Value.isInt]
theorem keyIs_str (x:Str) (t:Tok):keyIs (.inr x) (.str x t)=true:=by simp [keyIs,Value.isStrOf]
theorem key_ll (a b:Int):decide ((Sum.inl a:Key)=Sum.inl b)=(a == b):=by
 by_cases e:a=b
 ·subst e;simp
 ·have h:¬(Sum.inl a:Key)=Sum.inl b:=fun q=>e (Sum.inl.inj q)
  rw [decide_eq_false h]
  exact(beq_eq_false_iff_ne.mpr e).symm
theorem key_rr (a b:Str):decide ((Sum.inr a:Key)=Sum.inr b)=decide (a=b):=by
 by_cases e:a=b
 ·subst e;simp
 ·have h:¬(Sum.inr a:Key)=Sum.inr b:=fun q=>e (Sum.inr.inj q)
  rw [decide_eq_false h,decide_eq_false e]
theorem key_lr (a:Int) (b:Str):decide ((Sum.inl a:Key)=Sum.inr b)=false:=decide_eq_false (fun q=>nomatch q)
theorem key_rl (a:Str) (b:Int):decide ((Sum.inr a:Key)=Sum.inl b)=false:=decide_eq_false (fun q=>nomatch q)
def dH (prog:Program) (w:World):PySem.KeyKind prog w Key where
 is:=keyIs
 hash:=keyH w
 inj:=fun v a b ha hb=>by
  rcases fj ha with ⟨i,t,rfl,rfl⟩ | ⟨x,t,rfl,rfl⟩
  ·rcases fj hb with ⟨j,u,rfl,e⟩ | ⟨y,u,rfl,e⟩
   ·injection e with e1 _;rw [e1]
   ·exact nomatch e
  ·rcases fj hb with ⟨j,u,rfl,e⟩ | ⟨y,u,rfl,e⟩
   ·exact nomatch e
   ·injection e with e1 _;rw [e1]
 byValue:=fun k v h=>by
  rcases fj h with ⟨i,t,rfl,rfl⟩ | ⟨x,t,rfl,rfl⟩ <;> rfl
 pyHash:=fun hv h=>by
  rcases fj hv with ⟨i,t,rfl,rfl⟩ | ⟨x,t,rfl,rfl⟩
  ·exact wpAny_pyHash_int h
  ·exact wpAny_pyHash_str h
 eqBool:=fun hu hv h=>by
  rcases fj hu with ⟨i,t,rfl,rfl⟩ | ⟨x,t,rfl,rfl⟩
  ·rcases fj hv with ⟨j,u,rfl,rfl⟩ | ⟨y,u,rfl,rfl⟩
   ·rw [key_ll] at h;exact wpAny_eqBool_int h
   ·rw [key_lr] at h;exact SeqAt.EqAt.int_str i t y u _ _ _ _ h
  ·rcases fj hv with ⟨j,u,rfl,rfl⟩ | ⟨y,u,rfl,rfl⟩
   ·rw [key_rl] at h;exact SeqAt.EqAt.str_int x t j u _ _ _ _ h
   ·rw [key_rr] at h;exact wpAny_eqBool_str h
 «strs» :=fun k x t v h=>by
  rcases fj h with ⟨i,u,rfl,e⟩ | ⟨y,u,rfl,e⟩
  ·exact nomatch e
  ·injection e with e1 _
   subst e1
   cases v <;> rfl
theorem mixKind_int (prog:Program) (w:World) (i:Int) (t:Tok):(dH prog w).is (.inl i) (.int i t)=true:=keyIs_int i t
theorem n6 (prog:Program) (w:World) (x:Str) (t:Tok):(dH prog w).is (.inr x) (.str x t)=true:=keyIs_str x t
end L2
namespace L2
open PySem PySem.Spec PyProof.Rows
inductive V where
 | non | bl (b:Bool) | int (i:Int) | str (x:Str) | byt (b:Array UInt8) | flt (b:UInt64) | ref (a:Addr) | ty (n:String)
 deriving DecidableEq
def RelV:V→Value→Prop
 | .non,u=>u=Value.none
 | .bl b,u=>u=Value.bool b
 | .int i,u=>∃t,u=Value.int i t
 | .str x,u=>∃t,u=Value.str x t
 | .byt b,u=>∃t,u=Value.bytes b t
 | .flt b,u=>∃t,u=Value.float b t
 | .ref a,u=>u=Value.ref a
 | .ty n,u=>u=Value.type n
abbrev Vals:List V→List Value→Prop:=Paired RelV
theorem Vals.length {xs:List V} {us:List Value} (r:Vals xs us):xs.length=us.length:=Paired.length r
theorem Vals.get:∀{xs:List V} {us:List Value} {i:Nat} {x:V},Vals xs us→xs[i]?=some x→∃u,us[i]?=some u∧RelV x u
 | _,_,_,_,.nil,e=>by simp at e
 | _,_,0,_,.cons r _,e=>by simp at e;subst e;exact⟨_,rfl,r⟩
 | _,_,i+1,x,.cons _ t,e=>by
  obtain⟨u,h1,h2⟩:=Vals.get (i:=i) (x:=x) t (by simpa using e)
  exact⟨u,by simpa using h1,h2⟩
theorem Vals.append:∀{xs ys:List V} {us ws:List Value},Vals xs us→Vals ys ws→Vals (xs ++ ys) (us ++ ws)
 | _,_,_,_,.nil,s=>s
 | _,_,_,_,.cons r t,s=>.cons r (Vals.append t s)
theorem Vals.take:∀{xs:List V} {us:List Value} (n:Nat),Vals xs us→Vals (xs.take n) (us.take n)
 | _,_,0,_=>.nil
 | _,_,_+1,.nil=>.nil
 | _,_,n+1,.cons r t=>.cons r (Vals.take n t)
theorem Vals.drop:∀{xs:List V} {us:List Value} (n:Nat),Vals xs us→Vals (xs.drop n) (us.drop n)
 | _,_,0,r=>r
 | _,_,_+1,.nil=>.nil
 | _,_,n+1,.cons _ t=>Vals.drop n t
def rZ:Option V→Option Value→Prop
 | some v,some u=>RelV v u
 | none,none=>True
 | _,_=>False
def KV {κ:Type}:List (κ×V)→List (κ×Value)→Prop:=Paired fun(p:κ×V) (q:κ×Value)=>p.1=q.1∧RelV p.2 q.2
def kV:Key→V
 | .inl i=>.int i
 | .inr x=>.str x
inductive HO where
  | lst (xs:List V)
  | tup (xs:List V)
  | dK (kvs:List (Key×V)) | dT (kvs:List (List Key×V))
  | set (S:Int→Bool) (n:Nat)
  | ins (C dx:Addr) (fs:List (Str×V))
  | own (x:Addr)
  | xd (fs:List (Str×V))
  | met (f x:Addr)
  | rng (lo hi:Int)
  | frz (o:Obj) (u:HO)
  | tbl (ps:Array Value)
  | ext (φ:Heap→Prop)
abbrev Hp:=Addr→Option HO
def upd (H:Hp) (a:Addr) (o:HO):Hp:=fun b=>if b=a then some o else H b
theorem aq {H:Hp} {a:Addr} {o:HO}:upd H a o a=some o:=by unfold upd;rw [if_pos rfl]
theorem aK {H:Hp} {a b:Addr} {o:HO} (h:b≠a):upd H a o b=H b:=by unfold upd;rw [if_neg h]
theorem vL {H:Hp} {a:Addr} {o u:HO}:upd (upd H a o) a u=upd H a u:=by
 funext b;unfold upd;split <;> rfl
theorem wk {H:Hp} {a b:Addr} {o u:HO} (h:H a=some o) (h':H b=some u) (d:o≠u):a≠b:=by
 intro e;subst e;rw [h] at h';exact d (Option.some.inj h')
theorem aD {H:Hp} {a b:Addr} {o:HO} (h:H a=some o) (h':H b=none):a≠b:=by
 intro e;subst e;rw [h] at h';cases h'
section
variable (P:Program) (w:World)
def dO (H:Hp) (h:Heap) (a:Addr):HO→Prop
 | .lst xs=>xs.length≤sizeLine∧∃(its:List Value) (n:Nat),Vals xs its∧h.get? a=some { cls:=.type "list",data:=.seq its.toArray n }
 | .tup xs=>xs.length≤sizeLine∧∃its:List Value,Vals xs its∧IsTup h a its.toArray
 | .dK kvs=>kvs.length≤sizeLine∧(a == sysModules)=false∧∃vs,KV kvs vs∧h.DictOf (dH P w) a vs
 | .dT kvs=>kvs.length≤sizeLine∧(a == sysModules)=false∧∃xs:List (List Key×Addr×Value),
   Paired (fun(p:List Key×V) (q:List Key×Addr×Value)=>p.1=q.1∧H q.2.1=some (.tup (p.1.map kV))∧RelV p.2 q.2.2) kvs xs∧
   ∃o es ep,h.get? a=some o∧o.ExactDict∧o.data=.dict es ep∧es.toList=xs.map (entryOfKey (tupleKind (dH P w)))∧(xs.map (·.1)).Nodup
 | .set S n=>h.SetOf (intKind P w) a S n
 | .ins C dx fs=>H dx=some (.own a)∧fs.length≤1000∧dx≠a∧h.get? a=some (PySem.W.instObj C dx)∧
   ∃mA,h.Ns1 dx mA∧(∀f,rZ (fs.lookup f) (mA f))∧PySem.Within mA (fs.map (·.1))
 | .own _=>∃o,h.get? a=some o
 | .xd fs=>∃mA,h.Ns1 a mA∧∀f,rZ (fs.lookup f) (mA f)
 | .rng lo hi=>∃t u v,h.get? a=some { cls:=.type "range",data:=.fields #[.int lo t,.int hi u,.int 1 v] }
 | .frz o u=>h.get? a=some o∧dO H h a u
 | .tbl ps=>h.get? a=some { cls:=.none,data:=.fields ps }
 | .met f x=>h.get? a=some (PySem.W.methodObj (.ref f) (.ref x))
 | .ext φ=>φ h∧(∃o,h.get? a=some o)∧∀h1 h2:Heap,φ h1→(∀o,h1.get? a=some o→h2.get? a=some o)→φ h2
def HOk (H:Hp) (h:Heap):Prop:=∀a o,H a=some o→dO P w H h a o
end
section
variable {P:Program} {w:World} {H H':Hp} {h h':Heap} {a:Addr} {o:HO}
theorem dO.lt (x:dO P w H h a o):a <h.objs.size:=by
 cases o with
 | lst xs=>obtain⟨_,_,_,_,e⟩:=x;exact Heap.lt_size e
 | tup xs=>obtain⟨_,_,_,p⟩:=x;exact p.lt
 | dK kvs=>obtain⟨_,_,_,_,o,_,_,e,_⟩:=x;exact Heap.lt_size e
 | dT kvs=>obtain⟨_,_,_,_,o,_,_,e,_⟩:=x;exact Heap.lt_size e
 | set S n=>obtain⟨o,_,_,_,e,_⟩:=x;exact Heap.lt_size e
 | ins C dx fs=>obtain⟨_,_,_,e,_⟩:=x;exact Heap.lt_size e
 | own y=>obtain⟨_,e⟩:=x;exact Heap.lt_size e
 | xd fs=>obtain⟨_,⟨_,_,_,e,_⟩,_⟩:=x;exact Heap.lt_size e
 | rng lo hi=>obtain⟨_,_,_,e⟩:=x;exact Heap.lt_size e
 | frz ob u=>obtain⟨e,_⟩:=x;exact Heap.lt_size e
 | tbl ps=>exact Heap.lt_size (show h.get? a=some _ from x)
 | met f y=>exact Heap.lt_size (show h.get? a=some _ from x)
 | ext φ=>obtain⟨_,⟨_,e⟩,_⟩:=x;exact Heap.lt_size e
theorem Paired.mapP {α β:Type} {F G:α→β→Prop}:∀{l₁:List α} {l₂:List β},Paired F l₁ l₂→(∀a b,F a b→G a b)→Paired G l₁ l₂
 | _,_,.nil,_=>.nil
 | _,_,.cons r t,f=>.cons (f _ _ r) (Paired.mapP t f)
theorem dO.stay (x:dO P w H h a o) (k:∀b u,(b=a∨H b=some (.own a))→h.get? b=some u→h'.get? b=some u)
  (ho:∀b,H b=some (.own a)→H' b=some (.own a)) (ht:∀b xs,H b=some (.tup xs)→H' b=some (.tup xs)):dO P w H' h' a o:=by
 induction o with
 | lst xs=>obtain⟨z,its,n,r,e⟩:=x;exact⟨z,its,n,r,k _ _ (.inl rfl) e⟩
 | tup xs=>obtain⟨z,its,r,ob,e,c⟩:=x;exact⟨z,its,r,ob,k _ _ (.inl rfl) e,c⟩
 | dK kvs=>obtain⟨z,y,vs,r,ob,es,ep,e,c⟩:=x;exact⟨z,y,vs,r,ob,es,ep,k _ _ (.inl rfl) e,c⟩
 | dT kvs=>
  obtain⟨z,y,xs,r,ob,es,ep,e,c⟩:=x
  exact⟨z,y,xs,Paired.mapP r fun p q z=>⟨z.1,ht _ _ z.2.1,z.2.2⟩,ob,es,ep,k _ _ (.inl rfl) e,c⟩
 | set S n=>obtain⟨ob,es,ep,t,e,c⟩:=x;exact⟨ob,es,ep,t,k _ _ (.inl rfl) e,c⟩
 | ins C dx fs=>
  obtain⟨d,z,ne,e,mA,⟨od,es,ep,e2,c⟩,r⟩:=x
  exact⟨ho _ d,z,ne,k _ _ (.inl rfl) e,mA,⟨od,es,ep,k _ _ (.inr d) e2,c⟩,r⟩
 | own y=>obtain⟨ob,e⟩:=x;exact⟨ob,k _ _ (.inl rfl) e⟩
 | xd fs=>obtain⟨mA,⟨od,es,ep,e,c⟩,r⟩:=x;exact⟨mA,⟨od,es,ep,k _ _ (.inl rfl) e,c⟩,r⟩
 | rng lo hi=>obtain⟨t,u,v,e⟩:=x;exact⟨t,u,v,k _ _ (.inl rfl) e⟩
 | frz ob u ih=>obtain⟨e,q⟩:=x;exact⟨k _ _ (.inl rfl) e,ih q⟩
 | tbl ps=>
  have e:h.get? a=some { cls:=.none,data:=.fields ps }:=x
  show h'.get? a=some { cls:=.none,data:=.fields ps }
  exact k a _ (.inl rfl) e
 | met f y=>
  have e:h.get? a=some (PySem.W.methodObj (.ref f) (.ref y)):=x
  show h'.get? a=some (PySem.W.methodObj (.ref f) (.ref y))
  exact k a _ (.inl rfl) e
 | ext φ=>obtain⟨p,⟨o,e⟩,st⟩:=x;exact⟨st _ _ p fun o q=>k _ _ (.inl rfl) q,⟨o,k _ _ (.inl rfl) e⟩,st⟩
theorem HOk.lt (x:HOk P w H h) (e:H a=some o):a <h.objs.size:=(x a o e).lt
theorem HOk.fresh (x:HOk P w H h) (e:h.objs.size≤a):H a=none:=by
 cases q:H a with
 | none=>rfl
 | some u=>exact absurd (Nat.lt_of_lt_of_le (x.lt q) e) (Nat.lt_irrefl _)
theorem HOk.kept (x:HOk P w H h) (k:∀b u,h.get? b=some u→h'.get? b=some u):HOk P w H h':=fun a o e=>
 (x a o e).stay (fun b u _ q=>k b u q) (fun _ q=>q) fun _ _ q=>q
theorem HOk.laid (x:HOk P w H h) (k:∀b u,h.get? b=some u→h'.get? b=some u) (hp:h.objs.size≤a) (new:dO P w (upd H a o) h' a o):HOk P w (upd H a o) h':=fun b u e=>by
 have hn:=x.fresh hp
 by_cases hb:b=a
 ·subst hb;rw [aq] at e;cases e;exact new
 ·rw [aK hb] at e
  exact(x b u e).stay (fun c v _ q=>k c v q) (fun c q=>by rw [aK (aD q hn)];exact q) fun c xs q=>by rw [aK (aD q hn)];exact q
end
def Rd (H:Hp) (a:Addr) (u:HO):Prop:=H a=some u∨∃o,H a=some (.frz o u)
theorem Rd.ok {P:Program} {w:World} {H:Hp} {h:Heap} {a:Addr} {u:HO} (r:Rd H a u) (x:HOk P w H h):dO P w H h a u:=by
 rcases r with r | ⟨o,r⟩
 ·exact x a u r
 ·obtain⟨_,q⟩:=x a _ r
  exact q
def Mut:Option HO→Prop
 | some (.lst _)=>True
 | some (.dK _)=>True
 | some (.dT _)=>True
 | some (.set _ _)=>True
 | some (.ins _ _ _)=>True
 | some (.ext _)=>True
 | _=>False
section
variable {P:Program} {w:World} {H:Hp} {h h':Heap} {x e:Addr} {o':HO}
theorem HOk.write (ok:HOk P w H h) (mu:Mut (H x)) (he:e=x∨H e=some (.own x)) (k:∀b u,b≠e→h.get? b=some u→h'.get? b=some u) (heo:∃u,h'.get? e=some u)
  (new:dO P w (upd H x o') h' x o'):HOk P w (upd H x o') h':=fun b u q=>by
 have nown:∀c y,H c=some (.own y)→c≠x:=fun c y r z=>by subst z;rw [r] at mu;exact mu
 have ntup:∀c xs,H c=some (.tup xs)→c≠x:=fun c xs r z=>by subst z;rw [r] at mu;exact mu
 by_cases hb:b=x
 ·subst hb;rw [aq] at q;cases q;exact new
 ·rw [aK hb] at q
  by_cases hbe:b=e
  ·have q':H b=some (.own x):=by
    rcases he with z | z
    ·exact absurd (hbe.trans z) hb
    ·rw [hbe];exact z
   rw [q] at q';cases q'
   obtain⟨v,hv⟩:=heo
   exact⟨v,by rw [hbe];exact hv⟩
  ·refine(ok b u q).stay (fun c v hc r=>k c v ?_ r) (fun c r=>by rw [aK (nown c b r)];exact r) fun c xs r=>by rw [aK (ntup c xs r)];exact r
   rcases hc with rfl | hc
   ·exact hbe
   ·rintro rfl
    rcases he with z | z
    ·exact nown c b hc z
    ·rw [hc] at z;cases z;exact hb rfl
end
structure Un (fs ex:List Addr) (H H':Hp) (h h':Heap):Prop where
 keep:∀b o,h.get? b=some o→H b=none→b∉fs→b∉ex→h'.get? b=some o
 slot:∀b o,h.get? b=some o→H b=none→b∈fs→b∉ex→∃sl,h'.get? b=some { o with slots:=sl }
 free:∀b o,h.get? b=some o→H b=none→b∉ex→H' b=none
 there:∀b o,h.get? b=some o→b∉ex→∃o',h'.get? b=some o'
 tups:∀b xs,H b=some (.tup xs)→H' b=some (.tup xs)
 frzs:∀b o u,H b=some (.frz o u)→H' b=some (.frz o u)
 tbls:∀b ps,H b=some (.tbl ps)→∃more,H' b=some (.tbl (ps ++ more))
section
variable {fs fs' ex ex':List Addr} {H H1 H2:Hp} {h h1 h2 h':Heap} {a x e:Addr} {o:HO}
theorem Un.any (u:Un fs ex H H1 h h1) {b:Addr} {ob:Obj} (q:h.get? b=some ob) (n:H b=none) (hx:b∉ex):∃sl,h1.get? b=some { ob with slots:=sl }:=by
 by_cases hb:b∈fs
 ·exact u.slot b ob q n hb hx
 ·exact⟨ob.slots,u.keep b ob q n hb hx⟩
theorem Un.kept (k:∀b u,h.get? b=some u→h'.get? b=some u):Un fs ex H H h h':=
 ⟨fun b ob q _ _ _=>k b ob q,fun b ob q _ _ _=>⟨ob.slots,k b ob q⟩,fun _ _ _ n _=>n,fun b ob q _=>⟨ob,k b ob q⟩,fun _ _ q=>q,fun _ _ _ q=>q,fun _ ps q=>⟨#[],by rw [q];simp⟩⟩
theorem Un.refl:Un fs ex H H h h:=Un.kept fun _ _ q=>q
theorem Un.laid (k:∀b u,h.get? b=some u→h'.get? b=some u) (hp:h.objs.size≤a) (hn:H a=none):Un fs ex H (upd H a o) h h' where
 keep:=fun b u q _ _ _=>k b u q
 slot:=fun b u q _ _ _=>⟨u.slots,k b u q⟩
 free:=fun b u q n _=>by rw [aK (Nat.ne_of_lt (Nat.lt_of_lt_of_le (Heap.lt_size q) hp))];exact n
 there:=fun b u q _=>⟨u,k b u q⟩
 tups:=fun b xs q=>by rw [aK (aD q hn)];exact q
 frzs:=fun b u xs q=>by rw [aK (aD q hn)];exact q
 tbls:=fun b ps q=>⟨#[],by rw [aK (aD q hn),q];simp⟩
theorem Un.write (mu:Mut (H x)) (he:e=x∨H e=some (.own x)) (k:∀b u,b≠e→h.get? b=some u→h'.get? b=some u) (heo:∃u,h'.get? e=some u):Un fs ex H (upd H x o) h h':=by
 have hx:∀b,H b=none→b≠x:=fun b n z=>by subst z;rw [n] at mu;exact mu
 have hb:∀b,H b=none→b≠e:=fun b n z=>by
  subst z
  rcases he with r | r
  ·exact hx b n r
  ·rw [n] at r;cases r
 have hm:∀b u,H b=some u→¬Mut (some u)→b≠x:=fun b u q nm z=>by subst z;rw [q] at mu;exact nm mu
 refine⟨fun b u q n _ _=>k b u (hb b n) q,fun b u q n _ _=>⟨u.slots,k b u (hb b n) q⟩,fun b u q n _=>by rw [aK (hx b n)];exact n,fun b u q _=>?_,
  fun b xs q=>by rw [aK (hm b _ q fun z=>z)];exact q,fun b u xs q=>by rw [aK (hm b _ q fun z=>z)];exact q,fun b ps q=>⟨#[],by rw [aK (hm b _ q fun z=>z),q];simp⟩⟩
 by_cases hbe:b=e
 ·subst hbe;exact heo
 ·exact⟨u,k b u hbe q⟩
end
def trk (h:Heap) (H:Hp):List Addr:=(List.range h.objs.size).filter fun a=>(H a).isSome
def hidT (h:Heap) (H:Hp):Heap:=PySem.W.hideAll h (trk h H)
theorem hidT_size (h:Heap) (H:Hp):(hidT h H).objs.size=h.objs.size:=PySem.W.hideAll_size _ _
theorem hidT_get {h:Heap} {H:Hp} {b:Addr} {o:Obj} (e:h.get? b=some o) (n:H b=none):(hidT h H).get? b=some o:=
 PySem.W.hideAll_get _ e fun hm=>by
  have q:(H b).isSome=true:=(List.mem_filter.mp hm).2
  rw [n] at q;simp at q
theorem of_hidT {h:Heap} {H:Hp} {b:Addr} {o:Obj} (e:(hidT h H).get? b=some o):h.get? b=some o∧H b=none:=by
 have e':h.get? b=some o:=PySem.W.of_hideAll (trk h H) e
 refine⟨e',?_⟩
 cases q:H b with
 | none=>rfl
 | some x=>
  have hm:b∈trk h H:=List.mem_filter.mpr ⟨List.mem_range.mpr (Heap.lt_size e'),by simp [q]⟩
  have z:(hidT h H).get? b=none:=PySem.W.hideAll_none (trk h H) hm
  rw [z] at e;cases e
end L2
namespace L2
open PySem PySem.Spec PyProof.Rows
structure Mod (K:PySem.W.Frag) (mg:Str→Option Value) (base:Heap):Prop where
 kin:K.In base
 glob:base.Ns mainGlobals mg
 blt:∃mb,base.Ns builtinsNs mb∧∀x:Str,x≠ "__name__" →mb x=bootBuiltins x
 nolimit:base.NoLimit
structure Cx where
 prog:Program
 w:World
 K:PySem.W.Frag
 mg:Str→Option Value
 base:Heap
 A:Around
 N:List Str
 s₀:Shared
 H₀:Hp
 env:Env
 outer:List Env
 stack:List Env
 ex:List Addr
 fn:Str→Bool
 calm:Bool
 pn:List (Addr×Obj)
 xe:Value→Shared→Prop
def frs (l:List Env):List Addr:=l.filterMap (·.frame)
abbrev Cx.fs (X:Cx):List Addr:=frs X.outer
def Vis (sc:Scope) (x:Str):Prop:=sc.names.lookup x=some .local∨sc.names.lookup x=some .cell∨sc.names.lookup x=some .free
def Loc (sc:Scope) (x:Str):Prop:=sc.names.lookup x=some .local∨sc.names.lookup x=some .cell
def Look (env:Env) (h:Heap) (m:Str→Option Value) (x:Str) (u:Value):Prop:=
 (env.kindOf x=some .local∧m x=some u)∨((env.kindOf x=some .cell∨env.kindOf x=some .free)∧∃c,env.cells.lookup x=some c∧h.IsCell c (some u))
structure Cx.Ok (X:Cx):Prop where
 mod:Mod X.K X.mg X.base
 kind:X.env.scope.kind=.function
 glob:X.env.globals=mainGlobals
 blt:X.env.builtins=builtinsNs
 above:X.s₀.heap.objs.size≤X.env.locals
 inj:∀x y c,X.env.cells.lookup x=some c→X.env.cells.lookup y=some c→x=y
 has:∀x,(X.env.kindOf x=some .cell∨X.env.kindOf x=some .free)→∃c,X.env.cells.lookup x=some c
 cab:∀x c,X.fn x=true→X.env.cells.lookup x=some c→X.s₀.heap.objs.size≤c
 hd:X.calm=true→X.A.handled=none
 frames:X.A.frames=some X.stack
 stk:X.stack=X.outer∨(X.stack=X.env:: X.outer∧X.env.frame=some X.env.locals)
 exf:∀b∈X.ex,b≠X.env.locals∧∀x c,X.env.cells.lookup x=some c→c≠b
 bs:∀b o,X.base.get? b=some o→X.s₀.heap.get? b=some o∧X.H₀ b=none
 bsz:X.base.objs.size≤X.s₀.heap.objs.size
 noex:∀b o,X.base.get? b=some o→b∉X.ex
 exfs:∀b∈X.ex,b∉X.fs
 funs:X.s₀.heap.FunFrames X.base X.outer
 frf:∀b∈X.fs,X.H₀ b=none
structure Inv (X:Cx) (pins:List (Addr×Obj)) (σ:List (Option V)) (H:Hp) (s:Shared):Prop where
 ok:X.Ok
 os:s.os=X.s₀.os
 bare:AllBare s.gens
 base:Un X.fs X.ex X.H₀ H X.s₀.heap s.heap
 loc:∃m,s.heap.Ns X.env.locals m∧∀(i:Nat) (x:Str) (v:V),X.N[i]?=some x→σ[i]?=some (some v)→Vis X.env.scope x→∃u,RelV v u∧Look X.env s.heap m x u
 cell:∀x c,X.env.cells.lookup x=some c→∃v,s.heap.IsCell c v
 free:H X.env.locals=none
 freeC:∀x c,X.env.cells.lookup x=some c→H c=none
 pin:∀p∈X.pn ++ pins,s.heap.get? p.1=some p.2∧H p.1=none∧p.1≠X.env.locals∧p.1∉X.fs∧∀v,p.2.data≠.cell v
 hok:HOk X.prog X.w H s.heap
 len:σ.length=X.N.length
section
variable {X:Cx} {pins:List (Addr×Obj)} {σ:List (Option V)} {H H':Hp} {s:Shared} {h':Heap}
theorem Cx.Ok.nofr (ok:X.Ok) {b:Addr} {o:Obj} (e:X.base.get? b=some o):b∉X.fs:=fun hb=>by
 have:=(ok.funs.mem hb).1
 rw [e] at this;cases this
theorem Inv.bs (I:Inv X pins σ H s):∀b o,X.base.get? b=some o→s.heap.get? b=some o∧H b=none:=fun b o e=>
 ⟨I.base.keep b o (I.ok.bs b o e).1 (I.ok.bs b o e).2 (I.ok.nofr e) (I.ok.noex b o e),I.base.free b o (I.ok.bs b o e).1 (I.ok.bs b o e).2 (I.ok.noex b o e)⟩
theorem Inv.bk (I:Inv X pins σ H s):∀b o,X.base.get? b=some o→s.heap.get? b=some o:=fun b o e=>(I.bs b o e).1
theorem Inv.mod (I:Inv X pins σ H s):Mod X.K X.mg X.base:=I.ok.mod
theorem Inv.kIn (I:Inv X pins σ H s):X.K.In s.heap:=I.ok.mod.kin.keeps I.bk
theorem Inv.lt (I:Inv X pins σ H s):X.env.locals <s.heap.objs.size:=let ⟨_,hn,_⟩:=I.loc;hn.lt
theorem Inv.sz (I:Inv X pins σ H s):X.s₀.heap.objs.size≤s.heap.objs.size:=Nat.le_trans I.ok.above (Nat.le_of_lt I.lt)
theorem Inv.nofs (I:Inv X pins σ H s) {a:Addr} (h:s.heap.objs.size≤a):a∉X.fs:=fun hb=>by
 obtain⟨_,o,ho,_⟩:=I.ok.funs.mem hb
 exact absurd (Nat.lt_of_lt_of_le (Heap.lt_size ho) (Nat.le_trans I.sz h)) (Nat.lt_irrefl _)
theorem Inv.cne (I:Inv X pins σ H s):∀x c,X.env.cells.lookup x=some c→c≠X.env.locals:=fun x c e z=>by
 obtain⟨v,o,ho,hd⟩:=I.cell x c e
 obtain⟨m,⟨o',es,ep,ho',hd',_⟩,_⟩:=I.loc
 rw [z,ho'] at ho;cases ho;rw [hd'] at hd;cases hd
theorem Inv.funs (I:Inv X pins σ H s):s.heap.FunFrames X.base X.outer:=by
 have all:∀(l:List Env),(∀b∈frs l,b∈X.fs)→X.s₀.heap.FunFrames X.base l→s.heap.FunFrames X.base l:=by
  intro l
  induction l with
  | nil=>intro _ _;trivial
  | cons env r ih=>
   intro hs hl
   obtain⟨hk,⟨L,o,hf,hn,ho,hd⟩,hr⟩:=hl
   have hL:L∈X.fs:=hs L (by unfold frs;rw [List.filterMap_cons,hf];exact List.mem_cons_self)
   obtain⟨sl,e⟩:=I.base.slot L o ho (I.ok.frf L hL) hL fun z=>I.ok.exfs L z hL
   exact⟨hk,⟨L,_,hf,hn,e,hd⟩,ih (fun b hb=>hs b (by unfold frs;rw [List.filterMap_cons,hf];exact List.mem_cons_of_mem _ hb)) hr⟩
 exact all X.outer (fun _ hb=>hb) I.ok.funs
theorem Inv.stack (I:Inv X pins σ H s):s.heap.FunFrames X.base X.stack:=by
 rcases I.ok.stk with e | ⟨e,hf⟩
 ·rw [e];exact I.funs
 ·rw [e]
  obtain⟨m,hn,_⟩:=I.loc
  refine .cons (by rw [I.ok.kind];decide) hf hn ?_ I.funs
  exact Heap.get?_none_of_le (Nat.le_trans I.ok.bsz I.ok.above)
theorem Inv.stkSub (I:Inv X pins σ H s):∀b∈frs X.stack,b∈X.env.locals:: X.fs:=fun b hb=>by
 rcases I.ok.stk with e | ⟨e,hf⟩
 ·rw [e] at hb;exact List.mem_cons_of_mem _ hb
 ·rw [e] at hb
  unfold frs at hb
  rw [List.filterMap_cons,hf] at hb
  exact hb
theorem Inv.stkFree (I:Inv X pins σ H s):∀b∈frs X.stack,H b=none:=fun b hb=>by
 rcases List.mem_cons.mp (I.stkSub b hb) with e | hb
 ·rw [e];exact I.free
 ·obtain⟨_,o,ho,_⟩:=I.ok.funs.mem hb
  exact I.base.free b o ho (I.ok.frf b hb) fun z=>I.ok.exfs b z hb
theorem Inv.step {g':Array GenState} {t':Nat} {d':Drawn} {ch:List Addr} (I:Inv X pins σ H s)
  (hch:∀b∈ch,(b∈X.ex∨X.s₀.heap.objs.size≤b)∧b≠X.env.locals∧(∀x c,X.env.cells.lookup x=some c→c≠b)∧∀p∈X.pn ++ pins,p.1≠b)
  (keep:∀b o,b≠X.env.locals→b∉X.fs→b∉ch→s.heap.get? b=some o→H b=none→h'.get? b=some o)
  (slot:∀b o,b≠X.env.locals→b∈X.fs→b∉ch→s.heap.get? b=some o→H b=none→∃sl,h'.get? b=some { o with slots:=sl }) (free:∀b o,b∉ch→s.heap.get? b=some o→H b=none→H' b=none)
  (there:∀b o,b∉ch→s.heap.get? b=some o→∃o',h'.get? b=some o')
  (tups:∀b xs,H b=some (.tup xs)→H' b=some (.tup xs)) (frzs:∀b o u,H b=some (.frz o u)→H' b=some (.frz o u)) (tbls:∀b ps,H b=some (.tbl ps)→∃more,H' b=some (.tbl (ps ++ more)))
  (ns:∀m,s.heap.Ns X.env.locals m→h'.Ns X.env.locals m) (hok:HOk X.prog X.w H' h') (hg:AllBare g'):
  Inv X pins σ H' { s with heap:=h',gens:=g',drawn:=d',toks:=t' }:=by
 have neL:∀b o,X.s₀.heap.get? b=some o→b≠X.env.locals:=fun b o e=>Nat.ne_of_lt (Nat.lt_of_lt_of_le (Heap.lt_size e) I.ok.above)
 have neC:∀b o,X.s₀.heap.get? b=some o→b∉X.ex→b∉ch:=fun b o e hx hb=>by
  rcases(hch b hb).1 with z | z
  ·exact hx z
  ·exact absurd (Nat.lt_of_lt_of_le (Heap.lt_size e) z) (Nat.lt_irrefl _)
 have cellK:∀x c,X.env.cells.lookup x=some c→∀v,s.heap.IsCell c v→h'.IsCell c v:=fun x c e v ⟨o,ho,hd⟩=>by
  have nch:c∉ch:=fun z=>(hch c z).2.2.1 x c e rfl
  by_cases hc:c∈X.fs
  ·obtain⟨sl,q⟩:=slot c o (I.cne x c e) hc nch ho (I.freeC x c e)
   exact⟨_,q,hd⟩
  ·exact⟨o,keep c o (I.cne x c e) hc nch ho (I.freeC x c e),hd⟩
 refine⟨I.ok,I.os,hg,⟨fun b o e n hb hx=>?_,fun b o e n hb hx=>?_,fun b o e n hx=>?_,fun b o e hx=>?_,fun b xs e=>tups b xs (I.base.tups b xs e),fun b o xs e=>frzs b o xs (I.base.frzs b o xs e),fun b ps e=>?_⟩,?_,fun x c e=>?_,?_,fun x c e=>?_,fun p hp=>?_,hok,I.len⟩
 ·exact keep b o (neL b o e) hb (neC b o e hx) (I.base.keep b o e n hb hx) (I.base.free b o e n hx)
 ·obtain⟨sl,e1⟩:=I.base.slot b o e n hb hx
  obtain⟨sl',e2⟩:=slot b _ (neL b o e) hb (neC b o e hx) e1 (I.base.free b o e n hx)
  exact⟨sl',e2⟩
 ·obtain⟨o',e1⟩:=I.base.there b o e hx
  exact free b o' (neC b o e hx) e1 (I.base.free b o e n hx)
 ·obtain⟨o',e1⟩:=I.base.there b o e hx
  exact there b o' (neC b o e hx) e1
 ·obtain⟨m1,e1⟩:=I.base.tbls b ps e
  obtain⟨m2,e2⟩:=tbls b _ e1
  exact⟨m1 ++ m2,by rw [e2,Array.append_assoc]⟩
 ·obtain⟨m,hn,hl⟩:=I.loc
  refine⟨m,ns m hn,fun i x v e1 e2 e3=>?_⟩
  obtain⟨u,r,l⟩:=hl i x v e1 e2 e3
  refine⟨u,r,?_⟩
  rcases l with l | ⟨k,c,e,z⟩
  ·exact .inl l
  ·exact .inr ⟨k,c,e,cellK x c e _ z⟩
 ·obtain⟨v,z⟩:=I.cell x c e
  exact⟨v,cellK x c e v z⟩
 ·obtain⟨m,⟨o,_,_,ho,_⟩,_⟩:=I.loc
  exact free _ o (fun z=>(hch _ z).2.1 rfl) ho I.free
 ·obtain⟨v,o,ho,hd⟩:=I.cell x c e
  exact free c o (fun z=>(hch c z).2.2.1 x c e rfl) ho (I.freeC x c e)
 ·obtain⟨e,n,ne,nf,d⟩:=I.pin p hp
  have nch:p.1∉ch:=fun z=>(hch p.1 z).2.2.2 p hp rfl
  exact⟨keep p.1 p.2 ne nf nch e n,free p.1 p.2 nch e n,ne,nf,d⟩
theorem Inv.un {t':Nat} (I:Inv X pins σ H s) (u:Un X.fs [] H H' s.heap h') (hok:HOk X.prog X.w H' h'):Inv X pins σ H' { s with heap:=h',toks:=t' }:=by
 obtain⟨m,⟨o,es,ep,ho,r⟩,_⟩:=id I.loc
 obtain⟨sl,hL⟩:=u.any ho I.free (by simp)
 exact I.step (g':=s.gens) (d':=s.drawn) (ch:=[]) (fun _ z=>nomatch z) (fun b o _ hb _ e n=>u.keep b o e n hb (by simp)) (fun b o _ hb _ e n=>u.slot b o e n hb (by simp)) (fun b o _ e n=>u.free b o e n (by simp)) (fun b o _ e=>u.there b o e (by simp)) u.tups u.frzs u.tbls (fun m' hm=>by
  obtain⟨o',es',ep',ho',r'⟩:=hm
  rw [ho] at ho';cases ho'
  exact⟨_,es',ep',hL,r'⟩) hok I.bare
theorem Inv.call {g':Array GenState} {t':Nat} {d':Drawn} {ch:List Addr} (I:Inv X pins σ H s) (u:Un (frs X.stack) ch H H' s.heap h') (hok:HOk X.prog X.w H' h') (hg:AllBare g')
  (hch:∀b∈ch,(b∈X.ex∨X.s₀.heap.objs.size≤b)∧b≠X.env.locals∧(∀x c,X.env.cells.lookup x=some c→c≠b)∧∀p∈X.pn ++ pins,p.1≠b):
  Inv X pins σ H' { s with heap:=h',gens:=g',drawn:=d',toks:=t' }:=by
 obtain⟨m,⟨o,es,ep,ho,r⟩,_⟩:=id I.loc
 obtain⟨sl,hL⟩:=u.any ho I.free fun z=>(hch _ z).2.1 rfl
 exact I.step (ch:=ch) hch (fun b o hL hb hc e n=>u.keep b o e n (fun z=>(List.mem_cons.mp (I.stkSub b z)).elim hL hb) hc) (fun b o _ _ hc e n=>u.any e n hc) (fun b o hc e n=>u.free b o e n hc) (fun b o hc e=>u.there b o e hc) u.tups u.frzs u.tbls (fun m' hm=>by
  obtain⟨o',es',ep',ho',r'⟩:=hm
  rw [ho] at ho';cases ho'
  exact⟨_,es',ep',hL,r'⟩) hok hg
theorem Inv.turned {t':Nat} {it:Addr} (I:Inv X pins σ H s) (k:∀b o,b≠it→s.heap.get? b=some o→h'.get? b=some o) (hn:H it=none) (hL:it≠X.env.locals)
  (h1:it∈X.ex∨X.s₀.heap.objs.size≤it) (h2:∀x c,X.env.cells.lookup x=some c→c≠it) (h3:∀p∈X.pn ++ pins,p.1≠it):Inv X pins σ H { s with heap:=h',toks:=t' }:=by
 have nit:∀b u,H b=some u→b≠it:=fun b u e z=>by rw [z,hn] at e;cases e
 refine I.step (g':=s.gens) (d':=s.drawn) (ch:=[it]) (fun b hb=>?_) (fun b o _ _ hc e _=>k b o (fun z=>hc (by simp [z])) e) (fun b o _ _ hc e _=>⟨o.slots,k b o (fun z=>hc (by simp [z])) e⟩) (fun _ _ _ _ n=>n)
  (fun b o hc e=>⟨o,k b o (fun z=>hc (by simp [z])) e⟩) (fun _ _ e=>e) (fun _ _ _ e=>e) (fun b ps e=>⟨#[],by rw [e];simp⟩) (fun m hm=>?_) (fun b u e=>?_) I.bare
 ·have e:b=it:=by simpa using hb
  subst e
  exact⟨h1,hL,h2,h3⟩
 ·obtain⟨o,es,ep,ho,r⟩:=hm
  exact⟨o,es,ep,k _ o (Ne.symm hL) ho,r⟩
 ·refine(I.hok b u e).stay (fun c v hc q=>k c v ?_ q) (fun _ q=>q) fun _ _ q=>q
  rcases hc with z | z
  ·rw [z];exact nit b u e
  ·exact nit c _ z
theorem Inv.tok (I:Inv X pins σ H s) (t:Nat):Inv X pins σ H { s with toks:=t }:=I.un (h':=s.heap) (t':=t) Un.refl I.hok
theorem Inv.kept {t':Nat} (I:Inv X pins σ H s) (k:∀b u,s.heap.get? b=some u→h'.get? b=some u):Inv X pins σ H { s with heap:=h',toks:=t' }:=I.un (Un.kept k) (I.hok.kept k)
theorem Inv.laid {a:Addr} {o:HO} {t':Nat} (I:Inv X pins σ H s) (k:∀b u,s.heap.get? b=some u→h'.get? b=some u) (hp:s.heap.objs.size≤a) (new:dO X.prog X.w (upd H a o) h' a o):
  Inv X pins σ (upd H a o) { s with heap:=h',toks:=t' }:=I.un (Un.laid k hp (I.hok.fresh hp)) (I.hok.laid k hp new)
theorem Inv.write {x e:Addr} {o:HO} {t':Nat} (I:Inv X pins σ H s) (mu:Mut (H x)) (he:e=x∨H e=some (.own x)) (k:∀b u,b≠e→s.heap.get? b=some u→h'.get? b=some u) (heo:∃u,h'.get? e=some u)
  (new:dO X.prog X.w (upd H x o) h' x o):Inv X pins σ (upd H x o) { s with heap:=h',toks:=t' }:=I.un (Un.write mu he k heo) (I.hok.write mu he k heo new)
theorem Inv.weak {σ':List (Option V)} (I:Inv X pins σ H s) (hl:σ'.length=σ.length) (w:∀(i:Nat) v,σ'[i]?=some (some v)→σ[i]?=some (some v)):Inv X pins σ' H s:=
 ⟨I.ok,I.os,I.bare,I.base,let ⟨m,hn,hl'⟩:=I.loc;⟨m,hn,fun i x v e1 e2 e3=>hl' i x v e1 (w i v e2) e3⟩,I.cell,I.free,I.freeC,I.pin,I.hok,hl.trans I.len⟩
theorem Inv.pins_of {pins':List (Addr×Obj)} (I:Inv X pins σ H s) (h:∀p∈pins',s.heap.get? p.1=some p.2∧H p.1=none∧p.1≠X.env.locals∧p.1∉X.fs∧∀v,p.2.data≠.cell v):Inv X pins' σ H s:=
 ⟨I.ok,I.os,I.bare,I.base,I.loc,I.cell,I.free,I.freeC,fun p hp=>(List.mem_append.mp hp).elim (fun z=>I.pin p (List.mem_append_left _ z)) (h p),I.hok,I.len⟩
theorem zZ {N:List Str} (hN:N.Nodup) {i j:Nat} {x:Str} (a:N[i]?=some x) (b:N[j]?=some x):i=j:=by
 obtain⟨h1,e1⟩:=List.getElem?_eq_some_iff.mp a
 obtain⟨h2,e2⟩:=List.getElem?_eq_some_iff.mp b
 exact(List.getElem_inj hN).mp (e1.trans e2.symm)
theorem yu {M:Model} {A:Around} {E:Value→Shared→Prop} {i:Nat} {x:Str} {v:V} {u:Value} {Q:Unit→Shared→Prop} (I:Inv X pins σ H s) (hN:X.N.Nodup) (hi:X.N[i]?=some x) (hx:Loc X.env.scope x) (r:RelV v u)
  (h:∀s',Inv X pins (σ.set i (some v)) H s'→(∃a,Heap.SameBut a s.heap s'.heap∧(a=X.env.locals∨X.env.cells.lookup x=some a))→Q () s') (hf:X.fn x=true∨X.env.scope.names.lookup x=some .local:=by first | exact .inl rfl | exact .inr rfl | assumption):wpAny M A (storeName X.env x u) Q E s:=by
 obtain⟨m,hn,hl⟩:=id I.loc
 have hcls:(X.env.scope.kind == .class || (X.env.scope.kind == .module && X.env.locals != X.env.globals))=false:=by rw [I.ok.kind];rfl
 have hiσ:i <σ.length:=by rw [I.len];exact(List.getElem?_eq_some_iff.mp hi).1
 have cne:=I.cne
 have tracked:∀{a:Addr} {h':Heap},(∃o,s.heap.get? a=some o∧H a=none)→Heap.SameBut a s.heap h'→HOk X.prog X.w H h':=fun {a h'} ha hs b ob e=>by
  obtain⟨_,_,hfree⟩:=ha
  refine(I.hok b ob e).stay (fun c w' hc q=>(hs.2 c ?_).trans q) (fun _ q=>q) fun _ _ q=>q
  rintro rfl
  rcases hc with rfl | hc
  ·rw [hfree] at e;cases e
  ·rw [hfree] at hc;cases hc
 rcases hx with hk | hk
 ·refine wpAny_storeName_local hk hn (fun h' hn' hs=>?_) hcls
  obtain⟨oL,_,_,hoL,_⟩:=id hn
  refine h _ ⟨I.ok,I.os,I.bare,⟨fun b o e n hb hx=>?_,fun b o e n hb hx=>?_,I.base.free,fun b o e hx=>?_,I.base.tups,I.base.frzs,I.base.tbls⟩,⟨_,hn',fun j y v' e1 e2 e3=>?_⟩,fun y c e=>?_,I.free,I.freeC,fun p hp=>?_,tracked ⟨oL,hoL,I.free⟩ hs,by simpa using I.len⟩ ⟨_,hs,.inl rfl⟩
  ·exact(hs.2 b (Nat.ne_of_lt (Nat.lt_of_lt_of_le (Heap.lt_size e) I.ok.above))).trans (I.base.keep b o e n hb hx)
  ·obtain⟨sl,e1⟩:=I.base.slot b o e n hb hx
   exact⟨sl,(hs.2 b (Nat.ne_of_lt (Nat.lt_of_lt_of_le (Heap.lt_size e) I.ok.above))).trans e1⟩
  ·obtain⟨o',e1⟩:=I.base.there b o e hx
   exact⟨o',(hs.2 b (Nat.ne_of_lt (Nat.lt_of_lt_of_le (Heap.lt_size e) I.ok.above))).trans e1⟩
  ·by_cases hj:j=i
   ·subst hj
    rw [hi] at e1;cases e1
    rw [List.getElem?_set_self hiσ] at e2
    cases e2
    exact⟨u,r,.inl ⟨hk,by simp⟩⟩
   ·rw [List.getElem?_set_ne (Ne.symm hj)] at e2
    obtain⟨u',r',q⟩:=hl j y v' e1 e2 e3
    refine⟨u',r',?_⟩
    rcases q with ⟨k,e⟩ | ⟨k,c,e,z⟩
    ·refine .inl ⟨k,?_⟩
     have:y≠x:=fun e=>hj (zZ hN e1 (e ▸ hi))
     simp [this,e]
    ·exact .inr ⟨k,c,e,z.sameBut hs (cne y c e)⟩
  ·obtain⟨w',z⟩:=I.cell y c e
   exact⟨w',z.sameBut hs (cne y c e)⟩
  ·obtain⟨e,n,ne,nf,d⟩:=I.pin p hp
   exact⟨(hs.2 p.1 ne).trans e,n,ne,nf,d⟩
 ·have hfn:X.fn x=true:=by
   rcases hf with z | z
   ·exact z
   ·rw [z] at hk;cases hk
  obtain⟨c,hc⟩:=I.ok.has x (.inl hk)
  obtain⟨w',z⟩:=I.cell x c hc
  refine wpAny_storeName_cell I.ok.kind hk hc z (fun h' hc' hs=>?_)
  obtain⟨oc,hoc,hocd⟩:=id z
  refine h { s with heap:=h' } ⟨I.ok,I.os,I.bare,⟨fun b o e n hb hx=>?_,fun b o e n hb hx=>?_,I.base.free,fun b o e hx=>?_,I.base.tups,I.base.frzs,I.base.tbls⟩,⟨m,hn.sameBut hs (Ne.symm (cne x c hc)),fun j y v' e1 e2 e3=>?_⟩,fun y c' e=>?_,I.free,I.freeC,fun p hp=>?_,tracked ⟨oc,hoc,I.freeC x c hc⟩ hs,by simpa using I.len⟩ ⟨c,hs,.inr hc⟩
  ·exact(hs.2 b (Nat.ne_of_lt (Nat.lt_of_lt_of_le (Heap.lt_size e) (I.ok.cab x c hfn hc)))).trans (I.base.keep b o e n hb hx)
  ·obtain⟨sl,e1⟩:=I.base.slot b o e n hb hx
   exact⟨sl,(hs.2 b (Nat.ne_of_lt (Nat.lt_of_lt_of_le (Heap.lt_size e) (I.ok.cab x c hfn hc)))).trans e1⟩
  ·obtain⟨o',e1⟩:=I.base.there b o e hx
   exact⟨o',(hs.2 b (Nat.ne_of_lt (Nat.lt_of_lt_of_le (Heap.lt_size e) (I.ok.cab x c hfn hc)))).trans e1⟩
  ·by_cases hj:j=i
   ·subst hj
    rw [hi] at e1;cases e1
    rw [List.getElem?_set_self hiσ] at e2
    cases e2
    exact⟨u,r,.inr ⟨.inl hk,c,hc,hc'⟩⟩
   ·rw [List.getElem?_set_ne (Ne.symm hj)] at e2
    obtain⟨u',r',q⟩:=hl j y v' e1 e2 e3
    refine⟨u',r',?_⟩
    rcases q with q | ⟨k,c',e,z'⟩
    ·exact .inl q
    ·refine .inr ⟨k,c',e,z'.sameBut hs ?_⟩
     rintro rfl
     exact hj (zZ hN e1 (I.ok.inj _ _ _ e hc ▸ hi))
  ·by_cases hcc:c'=c
   ·subst hcc;exact⟨_,hc'⟩
   ·obtain⟨w2,z2⟩:=I.cell y c' e
    exact⟨w2,z2.sameBut hs hcc⟩
  ·obtain⟨e,n,ne,nf,d⟩:=I.pin p hp
   refine⟨(hs.2 p.1 ?_).trans e,n,ne,nf,d⟩
   intro q
   rw [q,hoc] at e
   have q':oc=p.2:=Option.some.inj e
   exact d w' (by rw [←q'];exact hocd)
theorem yd {M:Model} {A:Around} {E:Value→Shared→Prop} {i:Nat} {x:Str} {v:V} {u:Value} {Q:Unit→Shared→Prop} (I:Inv X pins σ H s) (hN:X.N.Nodup) (hi:X.N[i]?=some x) (hx:Loc X.env.scope x) (r:RelV v u)
  (h:∀s',Inv X pins (σ.set i (some v)) H s'→Q () s') (hf:X.fn x=true∨X.env.scope.names.lookup x=some .local:=by first | exact .inl rfl | exact .inr rfl | assumption):wpAny M A (storeName X.env x u) Q E s:=
 yu I hN hi hx r (fun s' I' _=>h s' I') hf
theorem Inv.call' {s':Shared} {ch:List Addr} (I:Inv X pins σ H s) (ho:s'.os=s.os) (u:Un (frs X.stack) ch H H' s.heap s'.heap) (hok:HOk X.prog X.w H' s'.heap) (hg:AllBare s'.gens)
  (hch:∀b∈ch,(b∈X.ex∨X.s₀.heap.objs.size≤b)∧b≠X.env.locals∧(∀x c,X.env.cells.lookup x=some c→c≠b)∧∀p∈X.pn ++ pins,p.1≠b):Inv X pins σ H' s':=by
 obtain⟨h',g',d',t',o'⟩:=s'
 have e:o'=s.os:=ho
 subst e
 exact I.call (g':=g') (t':=t') (d':=d') u hok hg hch
end
abbrev XK:=Value→Option Addr→Hp→Prop
abbrev St:=List (Option V)
abbrev VK:=V→Hp→Prop
abbrev TE:=St→Hp→VK→Prop
abbrev TT:=St→Hp→(Bool→Hp→Prop)→Prop
abbrev TA:=St→Hp→(List V→Hp→Prop)→Prop
structure Ends where
 nx:St→Hp→Prop
 rt:VK
 bk:St→Hp→Prop:=fun _ _=>False
 ct:St→Hp→Prop:=fun _ _=>False
abbrev TS:=Ends→St→Hp→Prop
def EP (X:Cx) (pins:List (Addr×Obj)) (σ:St) (Q:VK) (u:Value) (s':Shared):Prop:=∃v H',Inv X pins σ H' s'∧RelV v u∧Q v H'
def TP (X:Cx) (pins:List (Addr×Obj)) (σ:St) (Q:Bool→Hp→Prop) (b:Bool) (s':Shared):Prop:=∃H',Inv X pins σ H' s'∧Q b H'
def AP (X:Cx) (pins:List (Addr×Obj)) (σ:St) (Q:List V→Hp→Prop) (us:List Value) (s':Shared):Prop:=∃vs H',Inv X pins σ H' s'∧Vals vs us∧Q vs H'
def SP (X:Cx) (pins:List (Addr×Obj)) (D:Ends) (f:Flow) (s':Shared):Prop:=
 match f with
 | .next=>∃σ' H',Inv X pins σ' H' s'∧D.nx σ' H'
 | .brk=>∃σ' H',Inv X pins σ' H' s'∧D.bk σ' H'
 | .cont=>∃σ' H',Inv X pins σ' H' s'∧D.ct σ' H'
 | .ret u=>∃v σ' H',Inv X pins σ' H' s'∧RelV v u∧D.rt v H'
def PE (X:Cx) (e:Expr) (t:TE):Prop:=
 ∀(pins:List (Addr×Obj)) (s:Shared) (σ:St) (H:Hp) (Q:VK),Inv X pins σ H s→t σ H Q→wpAny (model X.prog X.w) X.A (eval e X.env) (EP X pins σ Q) X.xe s
def PT (X:Cx) (e:Expr) (t:TT):Prop:=
 ∀(pins:List (Addr×Obj)) (s:Shared) (σ:St) (H:Hp) (Q:Bool→Hp→Prop),Inv X pins σ H s→t σ H Q→wpAny (model X.prog X.w) X.A (isTrue e X.env (eval e X.env)) (TP X pins σ Q) X.xe s
def PW (X:Cx) (e:Expr) (t:TT):Prop:=
 ∀(whole:Sem Value) (pins:List (Addr×Obj)) (s:Shared) (σ:St) (H:Hp) (Q:Bool→Hp→Prop),Inv X pins σ H s→t σ H Q→wpAny (model X.prog X.w) X.A (isTrue e X.env whole) (TP X pins σ Q) X.xe s
theorem PW.pt {X:Cx} {e:Expr} {t:TT} (h:PW X e t):PT X e t:=h _
def PA (X:Cx) (es:List Expr) (t:TA):Prop:=
 ∀(pos:Pos) (pins:List (Addr×Obj)) (s:Shared) (σ:St) (H:Hp) (Q:List V→Hp→Prop),Inv X pins σ H s→t σ H Q→wpAny (model X.prog X.w) X.A (spliced (backTo pos (starEach es X.env))) (AP X pins σ Q) X.xe s
def PS (X:Cx) (st:Stmt) (t:TS):Prop:=
 ∀(pins:List (Addr×Obj)) (s:Shared) (σ:St) (H:Hp) (D:Ends),Inv X pins σ H s→t D σ H→wpAny (model X.prog X.w) X.A (exec st X.env) (SP X pins D) X.xe s
def PSs (X:Cx) (st:List Stmt) (t:TS):Prop:=
 ∀(pins:List (Addr×Obj)) (s:Shared) (σ:St) (H:Hp) (D:Ends),Inv X pins σ H s→t D σ H→wpAny (model X.prog X.w) X.A (execs st X.env) (SP X pins D) X.xe s
theorem thn {α:Type} {t:Sem α} {Q Q':α→Shared→Prop} {M:Model} {A:Around} {E:Value→Shared→Prop} {s:Shared} (h:wpAny M A t Q E s) (hQ:∀a s,Q a s→Q' a s):wpAny M A t Q' E s:=wpAny_mono h hQ fun _ _ x=>x
end L2
namespace L2
open PySem PySem.Spec PyProof.Rows
section
variable {X:Cx}
def tVar (i:Nat):TE:=fun σ H Q=>∃v,σ[i]?=some (some v)∧Q v H
def tC (v:V):TE:=fun _ H Q=>Q v H
theorem pe_var {i:Nat} {x:Str} {pos:Pos} (hN:X.N[i]?=some x) (hv:Vis X.env.scope x) (hd:(x == ("__debug__" :Str))=false:=by decide) (hcd:(x == ("__classdict__" :Str))=false:=by decide):PE X (.Name x pos) (tVar i):=by
 intro pins s σ H Q I h
 obtain⟨v,e,h⟩:=h
 obtain⟨m,hn,hl⟩:=I.loc
 obtain⟨u,r,l⟩:=hl i x v hN e hv
 have fin:EP X pins σ Q u s:=⟨v,H,I,r,h⟩
 rcases l with ⟨hk,hm⟩ | ⟨hk,c,hc,hcell⟩
 ·exact wpAny_Name (wpAny_loadName_local I.ok.kind hk hn hm fin) hd
 ·rcases hk with hk | hk
  ·exact wpAny_Name (wpAny_loadName_cell I.ok.kind hk hc hcell fin) hd
  ·exact wpAny_Name (wpAny_loadName_free I.ok.kind hk hc hcell fin hcd) hd
theorem au {i j pos}:PE X (.Constant (.int i) j pos) (tC (.int i)):=fun _ _ _ H _ I h=>wpAny_Constant_int ⟨.int i,H,I.tok _,⟨_,rfl⟩,h⟩
theorem oG {b j pos}:PE X (.Constant (.bool b) j pos) (tC (.bl b)):=fun _ _ _ H _ I h=>Constant_bool ⟨.bl b,H,I,rfl,h⟩
theorem pe_non {j pos}:PE X (.Constant .none j pos) (tC .non):=fun _ _ _ H _ I h=>Constant_none ⟨.non,H,I,rfl,h⟩
theorem bx {x j pos}:PE X (.Constant (.str x) j pos) (tC (.str x)):=fun _ _ _ H _ I h=>Calls.Constant_str ⟨.str x,H,I.tok _,⟨_,rfl⟩,h⟩
def Gl (X:Cx) (x:Str):Prop:=X.env.kindOf x=some .globalImplicit
theorem tM {E:Value→Shared→Prop} {pins:List (Addr×Obj)} {s:Shared} {σ:St} {H:Hp} {x:Str} {u:Value} {pos:Pos} {Q:Value→Shared→Prop} (I:Inv X pins σ H s) (hg:Gl X x) (hm:X.mg x=some u) (h:Q u s)
  (hd:(x == ("__debug__" :Str))=false:=by decide):wpAny (model X.prog X.w) X.A (eval (.Name x pos) X.env) Q E s:=
 Calls.Name_function_global I.ok.kind hg (Calls.loadGlobal_global (by rw [I.ok.glob];exact I.mod.glob.keeps I.bk) hm h) hd
theorem zU {E:Value→Shared→Prop} {pins:List (Addr×Obj)} {s:Shared} {σ:St} {H:Hp} {x:Str} {u:Value} {pos:Pos} {Q:Value→Shared→Prop} (I:Inv X pins σ H s) (hg:Gl X x) (hm:X.mg x=none) (hv:bootBuiltins x=some u) (h:Q u s)
  (hn:x≠ "__name__" :=by decide) (hd:(x == ("__debug__" :Str))=false:=by decide):wpAny (model X.prog X.w) X.A (eval (.Name x pos) X.env) Q E s:=by
 obtain⟨mb,h1,h2⟩:=I.mod.blt
 exact Calls.Name_function_global I.ok.kind hg (Calls.loadGlobal_builtin (by rw [I.ok.glob];exact I.mod.glob.keeps I.bk) hm (by rw [I.ok.blt];exact h1.keeps I.bk) ((h2 x hn).trans hv) h) hd
theorem zg {x:Str} {v:V} {u:Value} {pos:Pos} (hg:Gl X x) (hm:X.mg x=some u) (r:RelV v u) (hd:(x == ("__debug__" :Str))=false:=by decide):PE X (.Name x pos) (tC v):=
 fun _ _ _ H _ I h=>tM I hg hm ⟨v,H,I,r,h⟩ hd
theorem pe_bltn {x:Str} {v:V} {u:Value} {pos:Pos} (hg:Gl X x) (hm:X.mg x=none) (hv:bootBuiltins x=some u) (r:RelV v u) (hn:x≠ "__name__" :=by decide) (hd:(x == ("__debug__" :Str))=false:=by decide):PE X (.Name x pos) (tC v):=
 fun _ _ _ H _ I h=>zU I hg hm hv ⟨v,H,I,r,h⟩ hn hd
variable {a b:Expr} {ta tb:TE} {pos:Pos}
def PC (X:Cx) (op:CmpOp) (a b:Expr) (t:TE):Prop:=
 ∀(pins:List (Addr×Obj)) (s:Shared) (σ:St) (H:Hp) (Q:VK),Inv X pins σ H s→t σ H Q→
  wpAny (model X.prog X.w) X.A (eval a X.env) (fun v s₁=>wpAny (model X.prog X.w) X.A (eval b X.env) (fun u s₂=>wpAny (model X.prog X.w) X.A (compareOp op v u) (EP X pins σ Q) X.xe s₂) X.xe s₁) X.xe s
theorem nobehind (b:Expr) {op:CmpOp} (h:op≠.In) (h2:op≠.NotIn):behindInMarks op b=false:=by
 have e1:(op == CmpOp.In)=false:=by cases op <;> first | rfl | exact absurd rfl h
 have e2:(op == CmpOp.NotIn)=false:=by cases op <;> first | rfl | exact absurd rfl h2
 cases b <;> simp [behindInMarks,e1,e2]
def tIsN (ta:TE):TE:=fun σ H Q=>ta σ H fun x H1=>Q (.bl (decide (x=.non))) H1
theorem RelV.none_iff {x:V} {v:Value} (r:RelV x v):(v == Value.none)=decide (x=.non):=by
 cases x with
 | non=>cases r;rfl
 | bl _=>cases r;rfl
 | int _=>obtain⟨t,rfl⟩:=r;rfl
 | str _=>obtain⟨t,rfl⟩:=r;rfl
 | byt _=>obtain⟨t,rfl⟩:=r;rfl
 | flt _=>obtain⟨t,rfl⟩:=r;rfl
 | ref _=>cases r;rfl
 | ty _=>cases r;rfl
theorem pc_isN {j pos'} (ha:PE X a ta):PC X .Is a (.Constant .none j pos') (tIsN ta):=by
 intro pins s σ H Q I h
 refine thn (ha pins s σ H _ I h) fun v s1 hpt=>?_
 obtain⟨x,H1,I1,r1,q1⟩:=hpt
 exact Constant_none (is_none_gen ⟨.bl _,H1,I1,by rw [r1.none_iff];rfl,q1⟩)
def tB (t:TE):TT:=fun σ H Q=>t σ H fun x H1=>∃c,x=.bl c∧Q c H1
theorem pe_cmp {op:CmpOp} {t:TE} (h:PC X op a b t) (h1:behindInMarks op b=false:=by first | exact nobehind _ (by decide) (by decide) | rfl):PE X (.Compare a [op] [b] pos) t:=fun pins s σ H Q I hw=>wpAny_Compare1 (h pins s σ H Q I hw) h1
theorem xu {op:CmpOp} {t:TE} (h:PC X op a b t) (h1:behindInMarks op b=false:=by first | exact nobehind _ (by decide) (by decide) | rfl):PT X (.Compare a [op] [b] pos) (tB t):=by
 intro pins s σ H Q I hw
 refine wpAny_isTrue_Compare1 (thn (h pins s σ H _ I hw) fun v s1 h1=>thn h1 fun u s2 h2=>thn h2 fun c s3 hpt=>?_) h1
 obtain⟨x,H1,I1,r1,q1⟩:=hpt
 obtain⟨d,rfl,q⟩:=q1
 cases r1
 exact wpAny_truthy_bool ⟨H1,I1,q⟩
theorem mK {e:Expr} {t:TE} (h:PE X e t) (he:∀whole,isTrue e X.env whole=(do let v ←whole;standAt e.pos;holding [v] (truthy v)):=by intro _;rfl):PT X e (tB t):=by
 intro pins s σ H Q I hw
 refine isTrue_plain (thn (h pins s σ H _ I hw) fun v s1 ⟨x,H1,I1,r1,q1⟩=>?_) (he _)
 obtain⟨d,rfl,q⟩:=q1
 cases r1
 exact wpAny_truthy_bool ⟨H1,I1,q⟩
variable {tA tB':TT} {rest:List Expr}
def tAnd (t u:TT):TT:=fun σ H Q=>t σ H fun c H1=>if c=true then u σ H1 Q else Q false H1
def tOr (t u:TT):TT:=fun σ H Q=>t σ H fun c H1=>if c=true then Q true H1 else u σ H1 Q
def tNot (t:TT):TT:=fun σ H Q=>t σ H fun c H1=>Q (!c) H1
theorem zm (ha:PT X a tA):PW X (.BoolOp .And [a] pos) tA:=by
 intro wh pins s σ H Q I h
 refine isTrue_and (thn (ha pins s σ H Q I h) fun c s1 e=>?_)
 cases c with
 | true=>exact isTrue_and_nil e
 | false=>exact e
theorem qR (ha:PT X a tA):PW X (.BoolOp .Or [a] pos) tA:=by
 intro wh pins s σ H Q I h
 refine isTrue_or (thn (ha pins s σ H Q I h) fun c s1 e=>?_)
 cases c with
 | false=>exact isTrue_or_nil e
 | true=>exact e
theorem zF (ha:PT X a tA) (hb:PW X (.BoolOp .And (b:: rest) pos) tB'):PW X (.BoolOp .And (a:: b:: rest) pos) (tAnd tA tB'):=by
 intro wh pins s σ H Q I h
 refine isTrue_and (thn (ha pins s σ H _ I h) fun c s1 hpt=>?_)
 obtain⟨H1,I1,q1⟩:=hpt
 cases c with
 | true=>exact hb wh pins s1 σ H1 Q I1 q1
 | false=>exact⟨H1,I1,q1⟩
theorem tY (ha:PT X a tA) (hb:PW X (.BoolOp .Or (b:: rest) pos) tB'):PW X (.BoolOp .Or (a:: b:: rest) pos) (tOr tA tB'):=by
 intro wh pins s σ H Q I h
 refine isTrue_or (thn (ha pins s σ H _ I h) fun c s1 hpt=>?_)
 obtain⟨H1,I1,q1⟩:=hpt
 cases c with
 | true=>exact⟨H1,I1,q1⟩
 | false=>exact hb wh pins s1 σ H1 Q I1 q1
theorem km (ha:PT X a tA):PT X (.UnaryOp .Not a pos) (tNot tA):=by
 intro pins s σ H Q I h
 exact isTrue_not (ha pins s σ H (fun c H1=>Q (!c) H1) I h)
def tAndV (ta tb:TE):TE:=fun σ H Q=>ta σ H fun x H1=>∃c,x=.bl c∧if c=true then tb σ H1 Q else Q (.bl false) H1
def tOrV (ta tb:TE):TE:=fun σ H Q=>ta σ H fun x H1=>∃c,x=.bl c∧if c=true then Q (.bl true) H1 else tb σ H1 Q
def tNotV (ta:TE):TE:=fun σ H Q=>ta σ H fun x H1=>∃c,x=.bl c∧Q (.bl (!c)) H1
theorem pe_one {op} {t:TE} (h:PE X a t):PE X (.BoolOp op [a] pos) t:=fun pins s σ H Q I hw=>BoolOp_one (h pins s σ H Q I hw)
theorem pe_and (ha:PE X a ta) (hb:PE X (.BoolOp .And (b:: rest) pos) tb):PE X (.BoolOp .And (a:: b:: rest) pos) (tAndV ta tb):=by
 intro pins s σ H Q I h
 refine BoolOp_and (thn (ha pins s σ H _ I h) fun v s1 hpt=>?_)
 obtain⟨x,H1,I1,r1,q1⟩:=hpt
 obtain⟨c,rfl,q1⟩:=q1
 cases r1
 refine wpAny_truthy_bool ?_
 cases c with
 | true=>exact hb pins s1 σ H1 Q I1 q1
 | false=>exact⟨.bl false,H1,I1,rfl,q1⟩
theorem pe_or (ha:PE X a ta) (hb:PE X (.BoolOp .Or (b:: rest) pos) tb):PE X (.BoolOp .Or (a:: b:: rest) pos) (tOrV ta tb):=by
 intro pins s σ H Q I h
 refine BoolOp_or (thn (ha pins s σ H _ I h) fun v s1 hpt=>?_)
 obtain⟨x,H1,I1,r1,q1⟩:=hpt
 obtain⟨c,rfl,q1⟩:=q1
 cases r1
 refine wpAny_truthy_bool ?_
 cases c with
 | false=>exact hb pins s1 σ H1 Q I1 q1
 | true=>exact⟨.bl true,H1,I1,rfl,q1⟩
theorem pe_not (ha:PE X a ta):PE X (.UnaryOp .Not a pos) (tNotV ta):=by
 intro pins s σ H Q I h
 refine UnaryOp_ (thn (ha pins s σ H _ I h) fun v s1 hpt=>?_)
 obtain⟨x,H1,I1,r1,q1⟩:=hpt
 obtain⟨c,rfl,q1⟩:=q1
 cases r1
 exact not_of (wpAny_truthy_bool ⟨.bl (!c),H1,I1,rfl,q1⟩)
def tIf (t:TT) (ta tb:TE):TE:=fun σ H Q=>t σ H fun c H1=>if c=true then ta σ H1 Q else tb σ H1 Q
theorem pe_ifExp {c:Expr} (hc:PT X c tA) (ha:PE X a ta) (hb:PE X b tb):PE X (.IfExp c a b pos) (tIf tA ta tb):=by
 intro pins s σ H Q I h
 refine wpAny_IfExp (thn (hc pins s σ H _ I h) fun d s1 hpt=>?_)
 obtain⟨H1,I1,q1⟩:=hpt
 cases d with
 | true=>exact ha pins s1 σ H1 Q I1 q1
 | false=>exact hb pins s1 σ H1 Q I1 q1
end
end L2
namespace L2
open PySem PySem.Spec PyProof.Rows
def SqL (K:PySem.W.Frag) (H:Hp) (a:Addr) (xs:List V):Prop:=
 Rd H a (.lst xs)∨
  ∃(o:Obj) (its:Array Value) (n:Nat),K.lookup a=some o∧o.cls=.type "list" ∧o.dict=none∧o.data=.seq its n∧its.size≤sizeLine∧Vals xs its.toList
def SqT (K:PySem.W.Frag) (H:Hp) (a:Addr) (xs:List V):Prop:=
 Rd H a (.tup xs)∨
  ∃(o:Obj) (its:Array Value) (n:Nat),K.lookup a=some o∧o.cls=.type "tuple" ∧o.data=.seq its n∧its.size≤sizeLine∧Vals xs its.toList
def absV:Value→Option V
 | .none=>some .non
 | .bool b=>some (.bl b)
 | .int i _=>some (.int i)
 | .str x _=>some (.str x)
 | .bytes b _=>some (.byt b)
 | .float b _=>some (.flt b)
 | .ref a=>some (.ref a)
 | .type n=>some (.ty n)
 | _=>none
theorem RelV.abs {x:V} {u:Value} (r:RelV x u):absV u=some x:=by
 cases x with
 | non=>cases r;rfl
 | bl _=>cases r;rfl
 | int _=>obtain⟨t,rfl⟩:=r;rfl
 | str _=>obtain⟨t,rfl⟩:=r;rfl
 | byt _=>obtain⟨t,rfl⟩:=r;rfl
 | flt _=>obtain⟨t,rfl⟩:=r;rfl
 | ref _=>cases r;rfl
 | ty _=>cases r;rfl
theorem RelV.inj {x y:V} {u:Value} (r:RelV x u) (q:RelV y u):x=y:=Option.some.inj (r.abs.symm.trans q.abs)
theorem Vals.inj:∀{xs ys:List V} {us:List Value},Vals xs us→Vals ys us→xs=ys
 | _,_,_,.nil,.nil=>rfl
 | _,_,_,.cons r t,.cons r' t'=>by rw [r.inj r',Vals.inj t t']
section
variable {X:Cx} {pins:List (Addr×Obj)} {σ:St} {H:Hp} {s:Shared} {a:Addr} {xs ys:List V}
theorem SqL.of {K:PySem.W.Frag} (h:H a=some (.lst xs)):SqL K H a xs:=.inl (.inl h)
theorem SqT.of {K:PySem.W.Frag} (h:H a=some (.tup xs)):SqT K H a xs:=.inl (.inl h)
theorem Inv.list (I:Inv X pins σ H s) (h:SqL X.K H a xs):∃its:List Value,Vals xs its∧PlainL s.heap a its.toArray∧xs.length≤sizeLine:=by
 rcases h with h | ⟨o,its,n,hk,hc,hd,hs,hz,r⟩
 ·obtain⟨z,its,n,r,e⟩:=h.ok I.hok
  exact⟨its,r,⟨_,n,e,rfl,rfl,rfl⟩,z⟩
 ·refine⟨its.toList,r,⟨o,n,I.kIn a o hk,hc,hd,by simpa using hs⟩,?_⟩
  have e:=r.length
  simp only [Array.length_toList] at e
  omega
theorem Inv.tuple (I:Inv X pins σ H s) (h:SqT X.K H a xs):∃its:List Value,Vals xs its∧IsTup s.heap a its.toArray∧xs.length≤sizeLine:=by
 rcases h with h | ⟨o,its,n,hk,hc,hs,hz,r⟩
 ·obtain⟨z,its,r,p⟩:=h.ok I.hok
  exact⟨its,r,p,z⟩
 ·refine⟨its.toList,r,⟨o,I.kIn a o hk,hc,n,by simpa using hs⟩,?_⟩
  have e:=r.length
  simp only [Array.length_toList] at e
  omega
theorem Inv.list_inj (I:Inv X pins σ H s) (h:SqL X.K H a xs) (h':SqL X.K H a ys):xs=ys:=by
 obtain⟨its,r,⟨o,n,e,_,_,d⟩,_⟩:=I.list h
 obtain⟨its',r',⟨o',n',e',_,_,d'⟩,_⟩:=I.list h'
 rw [e] at e';cases e'
 rw [d] at d'
 injection d' with d1 _
 have:its=its':=by simpa using congrArg Array.toList d1
 subst this
 exact r.inj r'
theorem Inv.tuple_inj (I:Inv X pins σ H s) (h:SqT X.K H a xs) (h':SqT X.K H a ys):xs=ys:=by
 obtain⟨its,r,⟨o,e,_,n,d⟩,_⟩:=I.tuple h
 obtain⟨its',r',⟨o',e',_,n',d'⟩,_⟩:=I.tuple h'
 rw [e] at e';cases e'
 rw [d] at d'
 injection d' with d1 _
 have:its=its':=by simpa using congrArg Array.toList d1
 subst this
 exact r.inj r'
end
abbrev Cx.wish (X:Cx) (E:Value→Shared→Prop):Cx:={ X with xe:=E }
abbrev Cx.nox (X:Cx):Cx:=X.wish fun _ _=>False
theorem Cx.Ok.wish {X:Cx} (ok:X.Ok) (E:Value→Shared→Prop):(X.wish E).Ok:=
 ⟨ok.mod,ok.kind,ok.glob,ok.blt,ok.above,ok.inj,ok.has,ok.cab,ok.hd,ok.frames,ok.stk,ok.exf,ok.bs,ok.bsz,ok.noex,ok.exfs,ok.funs,ok.frf⟩
theorem Cx.Ok.unwish {X:Cx} {E:Value→Shared→Prop} (ok:(X.wish E).Ok):X.Ok:=
 ⟨ok.mod,ok.kind,ok.glob,ok.blt,ok.above,ok.inj,ok.has,ok.cab,ok.hd,ok.frames,ok.stk,ok.exf,ok.bs,ok.bsz,ok.noex,ok.exfs,ok.funs,ok.frf⟩
section
variable {X:Cx} {pins:List (Addr×Obj)} {σ:St} {H:Hp} {s:Shared} {E:Value→Shared→Prop}
theorem Inv.wish (I:Inv X pins σ H s) (E:Value→Shared→Prop):Inv (X.wish E) pins σ H s:=⟨I.ok.wish E,I.os,I.bare,I.base,I.loc,I.cell,I.free,I.freeC,I.pin,I.hok,I.len⟩
theorem Inv.unwish (I:Inv (X.wish E) pins σ H s):Inv X pins σ H s:=⟨I.ok.unwish,I.os,I.bare,I.base,I.loc,I.cell,I.free,I.freeC,I.pin,I.hok,I.len⟩
theorem SP.unwish {D:Ends} {f:Flow} {s':Shared} (h:SP (X.wish E) pins D f s'):SP X pins D f s':=by
 cases f with
 | next=>obtain⟨σ',H',I,q⟩:=h;exact⟨σ',H',I.unwish,q⟩
 | brk=>obtain⟨σ',H',I,q⟩:=h;exact⟨σ',H',I.unwish,q⟩
 | cont=>obtain⟨σ',H',I,q⟩:=h;exact⟨σ',H',I.unwish,q⟩
 | ret u=>obtain⟨v,σ',H',I,r,q⟩:=h;exact⟨v,σ',H',I.unwish,r,q⟩
theorem PSs.nox {st:List Stmt} {t:TS} (h:PSs X.nox st t):PSs X st t:=fun pins s σ H D I hw=>
 wpAny_mono (h pins s σ H D (I.wish _) hw) (fun _ _ q=>q.unwish) fun _ _ z=>False.elim z
end
section
variable {X:Cx} {st:Stmt} {rest:List Stmt} {t u:TS} {e:Expr} {te:TE} {pos:Pos}
def tNext:TS:=fun D σ H=>D.nx σ H
def yq (t u:TS):TS:=fun D σ H=>t { D with nx:=u D } σ H
theorem bJ:PSs X [] tNext:=fun _ _ σ H _ I h=>wpAny_execs_nil ⟨σ,H,I,h⟩
theorem az (h1:PS X st t) (h2:PSs X rest u):PSs X (st:: rest) (yq t u):=by
 intro pins s σ H D I h
 refine wpAny_execs_cons (thn (h1 pins s σ H { D with nx:=u D } I h) fun f s1 q=>?_)
 cases f with
 | next=>
  obtain⟨σ',H',I',q⟩:=q
  exact h2 pins s1 σ' H' D I' q
 | ret v=>exact q
 | brk=>exact q
 | cont=>exact q
theorem aF (h1:PS X st t):PSs X [st] t:=by
 intro pins s σ H D I h
 refine wpAny_execs_cons (thn (h1 pins s σ H D I h) fun f s1 q=>?_)
 cases f with
 | next=>exact wpAny_execs_nil q
 | ret v=>exact q
 | brk=>exact q
 | cont=>exact q
theorem Inv.quiet {pins:List (Addr×Obj)} {σ:St} {H:Hp} {s:Shared} (I:Inv X pins σ H s):interactive X.env=false:=by simp [interactive,I.ok.kind]
def tDrop (te:TE):TS:=fun D σ H=>te σ H fun _ H1=>D.nx σ H1
theorem bz (he:PE X e te) (hs:swapsWith e none pos.line X.env=pure false:=by rfl):PS X (.Expr e pos) (tDrop te):=by
 intro pins s σ H D I h
 exact wpAny_Expr_any (thn (he pins s σ H _ I h) fun v s1 ⟨x,H1,I1,r1,q1⟩=>⟨σ,H1,I1,q1⟩) I.quiet hs
def tRet (te:TE):TS:=fun D σ H=>te σ H D.rt
theorem bA (he:PE X e te):PS X (.Return (some e) pos) (tRet te):=by
 intro pins s σ H D I h
 exact wpAny_Return_some (thn (he pins s σ H _ I h) fun v s1 ⟨x,H1,I1,r1,q1⟩=>⟨x,σ,H1,I1,r1,q1⟩)
def tIfS (c:TT) (t u:TS):TS:=fun D σ H=>c σ H fun b H1=>if b=true then t D σ H1 else u D σ H1
theorem cz {c:Expr} {a b:List Stmt} {tc:TT} (hc:PT X c tc) (ha:PSs X a t) (hb:PSs X b u):PS X (.If c a b pos) (tIfS tc t u):=by
 intro pins s σ H D I h
 refine wpAny_If (thn (hc pins s σ H _ I h) fun d s1 hpt=>?_)
 obtain⟨H1,I1,q1⟩:=hpt
 cases d with
 | true=>exact ha pins s1 σ H1 D I1 q1
 | false=>exact hb pins s1 σ H1 D I1 q1
def tNever:TS:=fun _ _ _=>False
theorem mC:PS X st tNever:=fun _ _ _ _ _ _ h=>h.elim
end
abbrev TG:=V→St→Hp→(St→Hp→Prop)→Prop
abbrev TGs:=List V→St→Hp→(St→Hp→Prop)→Prop
def PG (X:Cx) (target:Expr) (t:TG):Prop:=
 ∀(pins:List (Addr×Obj)) (s:Shared) (σ:St) (H:Hp) (v:V) (u:Value) (Q:St→Hp→Prop),Inv X pins σ H s→RelV v u→t v σ H Q→
  wpAny (model X.prog X.w) X.A (assign target X.env u) (fun _ s'=>∃σ' H',Inv X pins σ' H' s'∧Q σ' H') X.xe s
def PGs (X:Cx) (ts:List Expr) (t:TGs):Prop:=
 ∀(pins:List (Addr×Obj)) (s:Shared) (σ:St) (H:Hp) (vs:List V) (us:List Value) (Q:St→Hp→Prop),Inv X pins σ H s→Vals vs us→t vs σ H Q→
  wpAny (model X.prog X.w) X.A (assignInOrder ((assignEach ts X.env).map (·.2)) us) (fun _ s'=>∃σ' H',Inv X pins σ' H' s'∧Q σ' H') X.xe s
section
variable {X:Cx} {pos:Pos}
def gName (i:Nat):TG:=fun v σ H Q=>Q (σ.set i (some v)) H
theorem bL {i:Nat} {x:Str} (hN:X.N.Nodup) (hi:X.N[i]?=some x) (hx:Loc X.env.scope x) (hf:X.fn x=true∨X.env.scope.names.lookup x=some .local:=by first | exact .inl rfl | exact .inr rfl | assumption):PG X (.Name x pos) (gName i):=by
 intro pins s σ H v u Q I r h
 exact wpAny_assign_Name (yd I hN hi hx r (fun s' I'=>⟨_,H,I',h⟩) hf)
def gNil:TGs:=fun vs σ H Q=>vs=[]∧Q σ H
def gCons (t:TG) (u:TGs):TGs:=fun vs σ H Q=>∃v r,vs=v:: r∧t v σ H fun σ' H'=>u r σ' H' Q
theorem kZ:PGs X [] gNil:=by
 intro pins s σ H vs us Q I r h
 obtain⟨e,h⟩:=h
 subst e
 cases r
 exact assignInOrder_nil ⟨σ,H,I,h⟩
theorem bU {e:Expr} {es:List Expr} {t:TG} {u:TGs} (h1:PG X e t) (h2:PGs X es u)
  (hs:(assignEach (e:: es) X.env).map (·.2)=assign e X.env:: (assignEach es X.env).map (·.2):=by rfl):PGs X (e:: es) (gCons t u):=by
 intro pins s σ H vs us Q I r h
 obtain⟨v,vr,e1,h⟩:=h
 subst e1
 cases r with
 | cons r rr=>
  rw [hs]
  refine assignInOrder_cons (thn (h1 pins s σ H _ _ _ I r h) fun _ s1 hpt=>?_)
  obtain⟨σ1,H1,I1,q1⟩:=hpt
  exact h2 pins s1 σ1 H1 _ _ Q I1 rr q1
def gTup (K:PySem.W.Frag) (n:Nat) (t:TGs):TG:=fun v σ H Q=>∃a xs,v=.ref a∧SqT K H a xs∧xs.length=n∧t xs σ H Q
theorem uC {es:List Expr} {k:Nat} {t:TGs} {n:Nat} (hc:X.calm=true) (h:PGs X es t)
  (hn:(assignEach es X.env).length=n:=by rfl) (hst:(assignEach es X.env).findIdx? (·.1)=none:=by rfl):PG X (.Tuple es k pos) (gTup X.K n t):=by
 intro pins s σ H v u Q I r hw
 obtain⟨a,xs,e1,hq,hl,hw⟩:=hw
 subst e1
 cases r
 obtain⟨its,rv,ht,hz⟩:=I.tuple hq
 refine assign_Tuple_tuple (I.ok.hd hc) ht (by simp [hn,←hl,rv.length]) hst fun h' hx=>?_
 have I1:Inv X pins σ H { s with heap:=h' }:=I.kept (t':=s.toks) fun b o e=>hx b o (Nat.ne_of_lt (Heap.lt_size e)) e
 exact h pins _ σ H xs _ Q I1 (by simpa using rv) hw
def tAsg (te:TE) (g:TG):TS:=fun D σ H=>te σ H fun x H1=>g x σ H1 D.nx
theorem ps_asg {tg e:Expr} {te:TE} {g:TG} (he:PE X e te) (hg:PG X tg g) (hs:swapsWithSole [tg] e pos.line X.env=pure false:=by rfl) (hw:swappedStores [tg] e X.env=pure none:=by rfl)
  (h1:(assignEach [tg] X.env).map (·.2)=[assign tg X.env]:=by rfl):PS X (.Assign [tg] e pos) (tAsg te g):=by
 intro pins s σ H D I h
 refine wpAny_Assign_stores (thn (he pins s σ H _ I h) fun v s1 hpt=>?_) hs hw
 obtain⟨x,H1,I1,r1,q1⟩:=hpt
 rw [h1]
 exact thn (hg pins s1 σ H1 x v _ I1 r1 q1) fun _ s2 q=>q
theorem bD {i:Nat} {x:Str} {e:Expr} {te:TE} {pos':Pos} (hN:X.N.Nodup) (hi:X.N[i]?=some x) (hx:Loc X.env.scope x) (he:PE X e te) (hs:swapsWith e (some (.Name x pos')) pos.line X.env=pure false:=by rfl) (hf:X.fn x=true∨X.env.scope.names.lookup x=some .local:=by first | exact .inl rfl | exact .inr rfl | assumption):
  PS X (.Assign [.Name x pos'] e pos) (tAsg te (gName i)):=by
 intro pins s σ H D I h
 refine wpAny_Assign_Name (thn (he pins s σ H _ I h) fun v s1 hpt=>?_) hs
 obtain⟨y,H1,I1,r1,q1⟩:=hpt
 exact yd I1 hN hi hx r1 (fun s2 I2=>⟨_,H1,I2,q1⟩) hf
end
section
variable {X:Cx} {pos:Pos}
def tWhile (c:TT) (tb:TS):TS:=fun D σ H=>∃W:Nat→St→Hp→Prop,(∃m,W m σ H)∧∀m σ H,W m σ H→
 c σ H fun b H1=>if b=true then ∃N:St→Hp→Prop,(∀σ' H',N σ' H'→∃m',m' <m∧W m' σ' H')∧tb { D with nx:=N,ct:=N,bk:=D.nx } σ H1 else D.nx σ H1
theorem ps_while {c:Expr} {body:List Stmt} {tc:TT} {tb:TS} (hp:PassesOwn (model X.prog X.w) X.A X.env X.xe) (hc:PT X c tc) (hb:PSs X body tb):PS X (.While c body [] pos) (tWhile tc tb):=by
 intro pins s σ H D I h
 obtain⟨W,⟨m0,w0⟩,turn⟩:=h
 refine wpAny_While (codeAny_whileLoop (fun n s'=>∃σ' H',Inv X pins σ' H' s'∧W n σ' H') ?_ m0 ⟨σ,H,I,w0⟩)
 rintro n s1 ⟨σ1,H1,I1,w1⟩
 refine wpAny_passesOwn hp (thn (hc pins s1 σ1 H1 _ I1 (turn n σ1 H1 w1)) fun b s2 hpt=>?_)
 obtain⟨H2,I2,q2⟩:=hpt
 cases b with
 | true=>
  obtain⟨N,hN,q2⟩:=q2
  rw [if_pos rfl]
  refine wpAny_passesOwn hp (thn (hb pins s2 σ1 H2 _ I2 q2) fun f s3 q3=>?_)
  cases f with
  | next=>
   obtain⟨σ3,H3,I3,n3⟩:=q3
   obtain⟨m',hm,w3⟩:=hN σ3 H3 n3
   exact⟨m',hm,σ3,H3,I3,w3⟩
  | cont=>
   obtain⟨σ3,H3,I3,n3⟩:=q3
   obtain⟨m',hm,w3⟩:=hN σ3 H3 n3
   exact⟨m',hm,σ3,H3,I3,w3⟩
  | brk=>exact q3
  | ret v=>exact q3
 | false=>
  rw [if_neg Bool.false_ne_true]
  exact wpAny_execs_nil ⟨σ1,H2,I2,q2⟩
end
structure It where
 go:Nat→Hp→Prop
 yld:Nat→Hp→V→Hp→Prop
 stop:Nat→Hp→Prop
def FpOk (X:Cx) (pins:List (Addr×Obj)) (H:Hp) (b:Addr):Prop:=
 H b=none∧b≠X.env.locals∧b∉X.fs∧(b∈X.ex∨X.s₀.heap.objs.size≤b)∧(∀x c,X.env.cells.lookup x=some c→c≠b)∧∀p∈X.pn ++ pins,p.1≠b
theorem Inv.fpOk {X:Cx} {pins:List (Addr×Obj)} {σ:St} {H H':Hp} {s:Shared} {b:Addr} (I:Inv X pins σ H s) (hb:s.heap.objs.size≤b) (hn:H' b=none):FpOk X pins H' b:=by
 refine⟨hn,Nat.ne_of_gt (Nat.lt_of_lt_of_le I.lt hb),I.nofs hb,.inr (Nat.le_trans I.sz hb),fun x c e z=>?_,fun p hp z=>?_⟩
 ·obtain⟨v,q⟩:=I.cell x c e
  exact absurd (Nat.lt_of_lt_of_le q.lt (by rw [z];exact hb)) (Nat.lt_irrefl _)
 ·exact absurd (Nat.lt_of_lt_of_le (Heap.lt_size (I.pin p hp).1) (by rw [z];exact hb)) (Nat.lt_irrefl _)
structure Turn (P:Program) (w:World) (K:PySem.W.Frag) (tg:Expr) (J:It) (fp:List Addr) (it:Addr) (tn:Nat→Heap→Prop):Prop where
 mem:it∈fp
 obj:∀i h,tn i h→∀b∈fp,∃o,h.get? b=some o∧∀v,o.data≠.cell v
 keep:∀i h h',tn i h→(∀b∈fp,∀o,h.get? b=some o→h'.get? b=some o)→tn i h'
 item:∀(X:Cx),X.prog=P→X.w=w→X.K=K→X.calm=true→∀(i:Nat) (pins:List (Addr×Obj)) (s:Shared) (σ:St) (H:Hp) (E:Value→Shared→Prop),Inv X pins σ H s→(∀b∈fp,FpOk X pins H b)→tn i s.heap→J.go i H→
  wpAny (model P w) X.A (pyNext (.ref it)) (fun r s1=>∃u,r=some u∧
   wpAny (model P w) X.A (letOwnedTupleGo tg (.ref it) u) (fun _ s2=>∃x H',Inv X pins σ H' s2∧RelV x u∧J.yld i H x H'∧tn (i+1) s2.heap∧∀b∈fp,H' b=none) E s1) E s
 done:∀(X:Cx),X.prog=P→X.w=w→X.K=K→X.calm=true→∀(i:Nat) (pins:List (Addr×Obj)) (s:Shared) (σ:St) (H:Hp) (E:Value→Shared→Prop),Inv X pins σ H s→(∀b∈fp,FpOk X pins H b)→tn i s.heap→J.stop i H→
  wpAny (model P w) X.A (pyNext (.ref it)) (fun r s1=>r=none∧Inv X pins σ H s1) E s
 self:∀(A:Around) (i:Nat) (s:Shared) (Q:Value→Shared→Prop) (E:Value→Shared→Prop),tn i s.heap→Q (.ref it) s→wpAny (model P w) A (pyIter (.ref it)) Q E s
abbrev TI:=St→Hp→(It→Hp→Prop)→Prop
def PIE (X:Cx) (pins:List (Addr×Obj)) (σ:St) (tg:Expr) (R:It→Hp→Prop) (itv:Value) (s2:Shared):Prop:=
 ∃(it:Addr) (fp:List Addr) (tn:Nat→Heap→Prop) (J:It) (H':Hp),itv=.ref it∧Inv X pins σ H' s2∧Turn X.prog X.w X.K tg J fp it tn∧tn 0 s2.heap∧(∀b∈fp,FpOk X pins H' b)∧R J H'
def PI (X:Cx) (tg iter:Expr) (wi:TI):Prop:=
 ∀(pins:List (Addr×Obj)) (s:Shared) (σ:St) (H:Hp) (R:It→Hp→Prop),Inv X pins σ H s→wi σ H R→
  wpAny (model X.prog X.w) X.A (eval iter X.env) (fun v s1=>wpAny (model X.prog X.w) X.A (pyIter v) (PIE X pins σ tg R) X.xe s1) X.xe s
theorem go_of {M:Model} {A:Around} {E:Value→Shared→Prop} {s:Shared} {tg:Expr} {it:Addr} {u:Value} {o:Obj} {n:String} {vs:Array Value} {Q:Unit→Shared→Prop} (ho:s.heap.get? it=some o) (hc:o.cls=.type n) (hd:o.data=.fields vs)
  (hn:["enumerate", "zip", "dict_itemiterator", "dict_reverseitemiterator", "odict_iterator", "itertools.zip_longest", "itertools.pairwise"].contains n=false) (hQ:Q () s):wpAny M A (letOwnedTupleGo tg (.ref it) u) Q E s:=by
 unfold letOwnedTupleGo
 cases tg <;> first
  | exact wpAny_pure hQ
  | (cases u <;> first
    | exact wpAny_pure hQ
    | (refine wpAny_bind (wpAny_load ho ?_)
       rw [hc,hd]
       show wpAny M A (if (["enumerate", "zip", "dict_itemiterator", "dict_reverseitemiterator", "odict_iterator", "itertools.zip_longest", "itertools.pairwise"].contains n && vs[0]? == some (rawInt _))=true then _ else _) Q E s
       rw [if_neg (by intro h;rw [hn,Bool.false_and] at h;cases h)]
       exact wpAny_pure hQ))
def Itl (K:PySem.W.Frag) (a:Addr):It:=
 ⟨fun i H=>∃xs x,SqL K H a xs∧xs[i]?=some x,fun i H x H'=>H'=H∧∀xs,SqL K H a xs→xs[i]?=some x,fun i H=>∃xs,SqL K H a xs∧xs.length≤i⟩
def Itt (K:PySem.W.Frag) (a:Addr):It:=
 ⟨fun i H=>∃xs x,SqT K H a xs∧xs[i]?=some x,fun i H x H'=>H'=H∧∀xs,SqT K H a xs→xs[i]?=some x,fun i H=>∃xs,SqT K H a xs∧xs.length≤i⟩
def Itr (lo:Int) (n:Nat):It:=⟨fun i _=>i <n,fun i H x H'=>H'=H∧x=.int (lo+i),fun i _=>n≤i⟩
theorem turn_list {P:Program} {w:World} {K:PySem.W.Frag} {tg:Expr} (a it:Addr):Turn P w K tg (Itl K a) [it] it (fun i h=>h.IsListIter it a i) where
 mem:=by simp
 obj:=fun i h st b hb=>by
  have e:b=it:=by simpa using hb
  subst e
  obtain⟨o,e,c,d⟩:=st
  exact⟨o,e,fun v z=>by rw [d] at z;cases z⟩
 keep:=fun i h h' st k=>st.at fun o e=>k it (by simp) o e
 item:=by
  intro X hP hw hK hc i pins s σ H E I hf st hg
  subst hP hw hK
  obtain⟨xs,x,hq,hx⟩:=hg
  obtain⟨its,rv,p,hz⟩:=I.list hq
  obtain⟨u,hu,ru⟩:=rv.get hx
  obtain⟨f0,f1,f2,f3,f4,f5⟩:=hf it (by simp)
  refine wpAny_pyNext_list_item st p.isList (x:=u) (by simpa using hu) fun h' st' sb=>?_
  have I1:Inv X pins σ H { s with heap:=h' }:=I.turned (t':=s.toks) (fun b o hb e=>(sb.2 b hb).trans e) f0 f1 f3 f4 f5
  obtain⟨o,e,c,d⟩:=id st'
  exact⟨u,rfl,go_of (s:={ s with heap:=h' }) e c d (by decide) ⟨x,H,I1,ru,⟨rfl,fun ys hy=>by rw [I.list_inj hy hq];exact hx⟩,st',fun b hb=>(hf b hb).1⟩⟩
 done:=by
  intro X hP hw hK hc i pins s σ H E I hf st hg
  subst hP hw hK
  obtain⟨xs,hq,hx⟩:=hg
  obtain⟨its,rv,p,hz⟩:=I.list hq
  obtain⟨f0,f1,f2,f3,f4,f5⟩:=hf it (by simp)
  have hl:=rv.length
  exact wpAny_pyNext_list_end (I.ok.hd hc) st p.isList (by simp;omega) fun h' eb=>⟨rfl,I.turned (t':=s.toks) (fun b o hb e=>eb b o hb e) f0 f1 f3 f4 f5⟩
 self:=fun _ _ _ _ _ st h=>wpAny_pyIter_listiter st h
theorem turn_tuple {P:Program} {w:World} {K:PySem.W.Frag} {tg:Expr} (a it:Addr):Turn P w K tg (Itt K a) [it] it (fun i h=>h.IsTupleIter it a i) where
 mem:=by simp
 obj:=fun i h st b hb=>by
  have e:b=it:=by simpa using hb
  subst e
  obtain⟨o,e,c,d⟩:=st
  exact⟨o,e,fun v z=>by rw [d] at z;cases z⟩
 keep:=fun i h h' st k=>st.at fun o e=>k it (by simp) o e
 item:=by
  intro X hP hw hK hc i pins s σ H E I hf st hg
  subst hP hw hK
  obtain⟨xs,x,hq,hx⟩:=hg
  obtain⟨its,rv,p,hz⟩:=I.tuple hq
  obtain⟨u,hu,ru⟩:=rv.get hx
  obtain⟨f0,f1,f2,f3,f4,f5⟩:=hf it (by simp)
  refine wpAny_pyNext_tuple_item st (show s.heap.IsTuple a its.toArray from p) (x:=u) (by simpa using hu) fun h' st' sb=>?_
  have I1:Inv X pins σ H { s with heap:=h' }:=I.turned (t':=s.toks) (fun b o hb e=>(sb.2 b hb).trans e) f0 f1 f3 f4 f5
  obtain⟨o,e,c,d⟩:=id st'
  exact⟨u,rfl,go_of (s:={ s with heap:=h' }) e c d (by decide) ⟨x,H,I1,ru,⟨rfl,fun ys hy=>by rw [I.tuple_inj hy hq];exact hx⟩,st',fun b hb=>(hf b hb).1⟩⟩
 done:=by
  intro X hP hw hK hc i pins s σ H E I hf st hg
  subst hP hw hK
  obtain⟨xs,hq,hx⟩:=hg
  obtain⟨its,rv,p,hz⟩:=I.tuple hq
  obtain⟨f0,f1,f2,f3,f4,f5⟩:=hf it (by simp)
  have hl:=rv.length
  exact wpAny_pyNext_tuple_end (I.ok.hd hc) st (show s.heap.IsTuple a its.toArray from p) (by simp;omega) fun h' eb=>⟨rfl,I.turned (t':=s.toks) (fun b o hb e=>eb b o hb e) f0 f1 f3 f4 f5⟩
 self:=fun _ _ _ _ _ st h=>wpAny_pyIter_tupleiter st h
theorem turn_range {P:Program} {w:World} {K:PySem.W.Frag} {tg:Expr} (it:Addr) (lo:Int) (n:Nat):Turn P w K tg (Itr lo n) [it] it (fun i h=>IsRangeIter h it (lo+(i:Nat) * 1) ((n:Int) - (i:Nat)) 1) where
 mem:=by simp
 obj:=fun i h st b hb=>by
  have e:b=it:=by simpa using hb
  subst e
  exact⟨_,st,fun v z=>by
   have z':Data.fields _=Data.cell v:=z
   cases z'⟩
 keep:=fun i h h' st k=>k it (by simp) _ st
 item:=by
  intro X hP hw hK hc i pins s σ H E I hf st hg
  subst hP hw hK
  obtain⟨f0,f1,f2,f3,f4,f5⟩:=hf it (by simp)
  have W:=Walks.range (prog:=X.prog) (w:=X.w) (I.ok.hd hc) it lo 1 n
  refine W.item i s _ _ hg st fun v h' tk hv st' kk=>?_
  obtain⟨t,rfl⟩:=hv
  have I1:Inv X pins σ H { s with heap:=h',toks:=tk }:=I.turned (fun b o hb e=>kk b o (by simpa using hb) e) f0 f1 f3 f4 f5
  refine⟨_,rfl,go_of (s:={ s with heap:=h',toks:=tk }) (n:= "range_iterator") st' rfl rfl (by decide) ⟨.int (lo+i),H,I1,⟨t,?_⟩,⟨rfl,rfl⟩,st',fun b hb=>(hf b hb).1⟩⟩
  rw [Int.mul_one]
 done:=by
  intro X hP hw hK hc i pins s σ H E I hf st hg
  subst hP hw hK
  obtain⟨f0,f1,f2,f3,f4,f5⟩:=hf it (by simp)
  exact wpAny_pyNext_range_end (I.ok.hd hc) st (by have:n≤i:=hg;omega) fun h' eb=>⟨rfl,I.turned (t':=s.toks) (fun b o hb e=>eb b o hb e) f0 f1 f3 f4 f5⟩
 self:=fun _ _ _ _ _ st h=>wpAny_pyIter_rangeiter st h
end L2
namespace L2
open PySem PySem.Spec PyProof.Rows
section
variable {X:Cx} {tg:Expr}
def iList (K:PySem.W.Frag) (tl:TE):TI:=fun σ H R=>tl σ H fun x H1=>∃a,x=.ref a∧(∃xs,SqL K H1 a xs)∧R (Itl K a) H1
def iTup (K:PySem.W.Frag) (tl:TE):TI:=fun σ H R=>tl σ H fun x H1=>∃a,x=.ref a∧(∃xs,SqT K H1 a xs)∧R (Itt K a) H1
theorem fG {l:Expr} {tl:TE} (hl:PE X l tl):PI X tg l (iList X.K tl):=by
 intro pins s σ H R I h
 refine thn (hl pins s σ H _ I h) fun v s1 hpt=>?_
 obtain⟨x,H1,I1,r1,q1⟩:=hpt
 obtain⟨a,e,⟨xs,hq⟩,q⟩:=q1
 subst e
 cases r1
 obtain⟨its,rv,p,hz⟩:=I1.list hq
 refine wpAny_pyIter_list p.isList ?_
 refine⟨s1.heap.objs.size,[s1.heap.objs.size],_,_,H1,rfl,I1.kept (t':=s1.toks) fun b o e=>Heap.get?_push_of_some _ e,turn_list a _,⟨_,Heap.get?_push_size _ rfl,rfl,rfl⟩,fun b hb=>?_,q⟩
 have e:b=s1.heap.objs.size:=by simpa using hb
 subst e
 exact I1.fpOk (Nat.le_refl _) (I1.hok.fresh (Nat.le_refl _))
theorem pi_tup {l:Expr} {tl:TE} (hl:PE X l tl):PI X tg l (iTup X.K tl):=by
 intro pins s σ H R I h
 refine thn (hl pins s σ H _ I h) fun v s1 hpt=>?_
 obtain⟨x,H1,I1,r1,q1⟩:=hpt
 obtain⟨a,e,⟨xs,hq⟩,q⟩:=q1
 subst e
 cases r1
 obtain⟨its,rv,p,hz⟩:=I1.tuple hq
 refine wpAny_pyIter_tuple (show s1.heap.IsTuple a its.toArray from p) ?_
 refine⟨s1.heap.objs.size,[s1.heap.objs.size],_,_,H1,rfl,I1.kept (t':=s1.toks) fun b o e=>Heap.get?_push_of_some _ e,turn_tuple a _,⟨_,Heap.get?_push_size _ rfl,rfl,rfl⟩,fun b hb=>?_,q⟩
 have e:b=s1.heap.objs.size:=by simpa using hb
 subst e
 exact I1.fpOk (Nat.le_refl _) (I1.hok.fresh (Nat.le_refl _))
theorem range_it {pins:List (Addr×Obj)} {σ:St} {H:Hp} {s:Shared} {R:It→Hp→Prop} {E:Value→Shared→Prop} {lo hi:Int} {t u v:Tok} {tk:Nat} (I:Inv X pins σ H s) (h1: -(2 ^ 62)≤lo) (h2:lo <2 ^ 62) (h3: -(2 ^ 62)≤hi) (h4:hi <2 ^ 62)
  (q:R (Itr lo (hi - lo).toNat) H):wpAny (model X.prog X.w) X.A (pyIter (.ref s.heap.objs.size)) (PIE X pins σ tg R) E { s with heap:=s.heap.push { cls:=.type "range",data:=.fields #[.int lo t,.int hi u,.int 1 v] },toks:=tk }:=by
 refine wpAny_pyIter_range (IsRange.new ..) (small_one h1 h2 h3 h4) ?_
 have I1:Inv X pins σ H { s with heap:=s.heap.push { cls:=.type "range",data:=.fields #[.int lo t,.int hi u,.int 1 v] },toks:=tk }:=I.kept fun b o e=>Heap.get?_push_of_some _ e
 refine⟨(s.heap.push { cls:=.type "range",data:=.fields #[.int lo t,.int hi u,.int 1 v] }).objs.size,[(s.heap.push { cls:=.type "range",data:=.fields #[.int lo t,.int hi u,.int 1 v] }).objs.size],_,_,H,rfl,
  I1.kept (t':=tk) fun b o e=>Heap.get?_push_of_some _ e,turn_range _ lo (hi - lo).toNat,?_,fun b hb=>?_,q⟩
 ·have e1:lo+((0:Nat):Int) * 1=lo:=by simp
  have e2:(((hi - lo).toNat:Nat):Int) - ((0:Nat):Int)=Builtin.Range.rangeSize lo hi 1:=by rw [rangeSize_one];split <;> omega
  show IsRangeIter _ _ (lo+((0:Nat):Int) * 1) ((((hi - lo).toNat:Nat):Int) - ((0:Nat):Int)) 1
  rw [e1,e2]
  exact Heap.get?_push_size _ rfl
 ·have e:b=(s.heap.push { cls:=.type "range",data:=.fields #[.int lo t,.int hi u,.int 1 v] }).objs.size:=by simpa using hb
  subst e
  exact I1.fpOk (Nat.le_refl _) (I1.hok.fresh (Nat.le_refl _))
def iRng1 (ta:TA):TI:=fun σ H R=>ta σ H fun vs H1=>∃j:Int,vs=[.int j]∧ -(2 ^ 62)≤j∧j <2 ^ 62∧R (Itr 0 j.toNat) H1
theorem lV {a:Expr} {ta:TA} {p pos:Pos} (hg:Gl X "range") (hm:X.mg "range" =none) (ha:PA X [a] ta) (hs:starEach [a] X.env=[(false,eval a X.env)]:=by rfl):PI X tg (.Call (.Name "range" p) [a] [] pos) (iRng1 ta):=by
 intro pins s σ H R I h
 refine Call_ (zU I hg hm boot_range (PyProof.Rows.callWith_type1 (thn (ha pos pins s σ H _ I h) fun us s1 ⟨vs,H1,I1,r1,q1⟩=>?_) hs rfl))
 obtain⟨j,e,q1,q2,q⟩:=q1
 subst e
 cases r1 with
 | cons r rr=>
  cases rr
  obtain⟨t,rfl⟩:=r
  exact call_range_1 (range_it I1 (by omega) (by omega) q1 q2 (by simpa using q))
def tFor (wi:TI) (g:TG) (tb:TS):TS:=fun D σ H=>wi σ H fun J H1=>∃W:Nat→Nat→St→Hp→Prop,(∃m,W 0 m σ H1)∧∀i m σ H,W i m σ H→
 (J.stop i H∧D.nx σ H)∨(J.go i H∧∃N:St→Hp→Prop,(∀σ' H',N σ' H'→∃m',m' <m∧W (i+1) m' σ' H')∧∀x H',J.yld i H x H'→g x σ H' fun σ2 H2=>tb { D with nx:=N,ct:=N,bk:=D.nx } σ2 H2)
def z9 (fp:List Addr) (h:Heap):List (Addr×Obj):=fp.filterMap fun b=>(h.get? b).map fun o=>(b,o)
theorem mQ {fp:List Addr} {h:Heap} {b:Addr} {o:Obj} (hb:b∈fp) (e:h.get? b=some o):(b,o)∈z9 fp h:=List.mem_filterMap.mpr ⟨b,hb,by rw [e];rfl⟩
theorem of_pinsAt {fp:List Addr} {h:Heap} {p:Addr×Obj} (hp:p∈z9 fp h):p.1∈fp∧h.get? p.1=some p.2:=by
 obtain⟨b,hb,e⟩:=List.mem_filterMap.mp hp
 cases q:h.get? b with
 | none=>rw [q] at e;cases e
 | some o=>
  rw [q] at e
  have e':(b,o)=p:=Option.some.inj e
  subst e'
  exact⟨hb,q⟩
theorem Inv.pinned {pins:List (Addr×Obj)} {σ:St} {H:Hp} {s:Shared} {fp:List Addr} (I:Inv X pins σ H s) (hf:∀b∈fp,FpOk X pins H b) (ho:∀b∈fp,∃o,s.heap.get? b=some o∧∀v,o.data≠.cell v):Inv X (pins ++ z9 fp s.heap) σ H s:=
 I.pins_of fun p hp=>(List.mem_append.mp hp).elim (fun z=>I.pin p (List.mem_append_right _ z)) fun z=>by
  obtain⟨hb,e⟩:=of_pinsAt z
  obtain⟨f0,f1,f2,_⟩:=hf p.1 hb
  obtain⟨o,e',d⟩:=ho p.1 hb
  rw [e] at e';cases e'
  exact⟨e,f0,f1,f2,d⟩
theorem Inv.unpinned {pins pl:List (Addr×Obj)} {σ:St} {H:Hp} {s:Shared} (I:Inv X (pins ++ pl) σ H s):Inv X pins σ H s:=I.pins_of fun p hp=>I.pin p (List.mem_append_right _ (List.mem_append_left _ hp))
theorem lB {iter:Expr} {body:List Stmt} {wi:TI} {g:TG} {tb:TS} {pos:Pos} (hp:PassesOwn (model X.prog X.w) X.A X.env X.xe) (hc:X.calm=true) (hi:PI X tg iter wi) (hg:PG X tg g) (hb:PSs X body tb)
  (hs:∀x,foldedSetIterable iter X.env x=pure x:=by intro _;rfl):PS X (.For tg iter body [] pos) (tFor wi g tb):=by
 intro pins s σ H D I h
 refine wpAny_For (thn (hi pins s σ H _ I h) fun v s1 h1=>thn h1 fun itv s2 h2=>?_) hs
 obtain⟨it,fp,tn,J,H2,e,I2,T,st2,f2,W,⟨m0,w0⟩,turn⟩:=h2
 subst e
 have stat:∀{H':Hp},(∀b∈fp,H' b=none)→∀b∈fp,FpOk X pins H' b:=fun hn b hb=>⟨hn b hb,(f2 b hb).2⟩
 refine codeAny_forLoop_any (fun n s'=>∃i σ' H',Inv X pins σ' H' s'∧tn i s'.heap∧(∀b∈fp,H' b=none)∧W i n σ' H') ?_ m0 ⟨0,σ,H2,I2,st2,fun b hb=>(f2 b hb).1,w0⟩
 rintro n s3 ⟨i,σ3,H3,I3,st3,fr3,w3⟩
 rcases turn i n σ3 H3 w3 with ⟨stop,qn⟩ | ⟨go,N,hN,step⟩
 ·refine wpAny_passesOwn hp (thn (T.done X rfl rfl rfl hc i pins s3 σ3 H3 X.xe I3 (stat fr3) st3 stop) fun r s4 hpt=>?_)
  obtain⟨hr,I4⟩:=hpt
  subst hr
  exact wpAny_execs_nil ⟨σ3,H3,I4,qn⟩
 ·refine wpAny_passesOwn hp (thn (T.item X rfl rfl rfl hc i pins s3 σ3 H3 X.xe I3 (stat fr3) st3 go) fun r s4 hpt=>?_)
  obtain⟨u,hr,h4⟩:=hpt
  subst hr
  refine wpAny_passesOwn hp (thn h4 fun _ s5 hpt=>?_)
  obtain⟨x,H5,I5,r5,y5,st5,fr5⟩:=hpt
  have I5':=I5.pinned (stat fr5) (T.obj _ _ st5)
  refine wpAny_passesOwn hp (thn (hg _ s5 σ3 H5 x u _ I5' r5 (step x H5 y5)) fun _ s6 hpt=>?_)
  obtain⟨σ6,H6,I6,q6⟩:=hpt
  refine wpAny_passesOwn hp (thn (hb _ s6 σ6 H6 _ I6 q6) fun f s7 q7=>?_)
  have again:∀{σ7:St} {H7:Hp},Inv X (pins ++ z9 fp s5.heap) σ7 H7 s7→N σ7 H7→∃m,m <n∧∃i σ' H',Inv X pins σ' H' s7∧tn i s7.heap∧(∀b∈fp,H' b=none)∧W i m σ' H':=fun {σ7 H7} I7 n7=>by
   obtain⟨m',hm,w7⟩:=hN σ7 H7 n7
   refine⟨m',hm,i+1,σ7,H7,I7.unpinned,T.keep _ _ _ st5 fun b hb o e=>(I7.pin (b,o) (List.mem_append_right _ (List.mem_append_right _ (mQ hb e)))).1,fun b hb=>?_,w7⟩
   obtain⟨o,e,d⟩:=T.obj _ _ st5 b hb
   exact(I7.pin (b,o) (List.mem_append_right _ (List.mem_append_right _ (mQ hb e)))).2.1
  cases f with
  | next=>obtain⟨σ7,H7,I7,n7⟩:=q7;exact again I7 n7
  | cont=>obtain⟨σ7,H7,I7,n7⟩:=q7;exact again I7 n7
  | brk=>obtain⟨σ7,H7,I7,q7⟩:=q7;exact⟨σ7,H7,I7.unpinned,q7⟩
  | ret v=>obtain⟨x7,σ7,H7,I7,r7,q7⟩:=q7;exact⟨x7,σ7,H7,I7.unpinned,r7,q7⟩
end
theorem oh {K:PySem.W.Frag} {a:Addr} {xs:List V} {g:TG} {tb:TS} {D:Ends} {σ:St} {H:Hp} (Pv:Nat→St→Hp→Prop) (h0:Pv 0 σ H) (hl:∀i σ H,i≤xs.length→Pv i σ H→SqL K H a xs)
  (hs:∀i x σ H,xs[i]?=some x→Pv i σ H→g x σ H fun σ2 H2=>tb { D with nx:=Pv (i+1),ct:=Pv (i+1),bk:=D.nx } σ2 H2) (hd:∀σ H,Pv xs.length σ H→D.nx σ H):
  ∃W:Nat→Nat→St→Hp→Prop,(∃m,W 0 m σ H)∧∀i m σ H,W i m σ H→
   ((Itl K a).stop i H∧D.nx σ H)∨((Itl K a).go i H∧∃N:St→Hp→Prop,(∀σ' H',N σ' H'→∃m',m' <m∧W (i+1) m' σ' H')∧∀x H',(Itl K a).yld i H x H'→g x σ H' fun σ2 H2=>tb { D with nx:=N,ct:=N,bk:=D.nx } σ2 H2):=by
 refine⟨fun i m σ H=>m=xs.length - i∧i≤xs.length∧Pv i σ H,⟨xs.length,by simp,Nat.zero_le _,h0⟩,?_⟩
 rintro i m σ H ⟨rfl,hi,p⟩
 have q:=hl i σ H hi p
 by_cases hlt:i <xs.length
 ·refine .inr ⟨⟨xs,xs[i],q,by simp [hlt]⟩,Pv (i+1),fun σ' H' p'=>⟨xs.length - (i+1),by omega,rfl,hlt,p'⟩,fun x H' y=>?_⟩
  obtain⟨e,y⟩:=y
  subst e
  exact hs i x σ _ (y xs q) p
 ·have e:i=xs.length:=by omega
  subst e
  exact .inl ⟨⟨xs,q,Nat.le_refl _⟩,hd σ H p⟩
theorem for_tup {K:PySem.W.Frag} {a:Addr} {xs:List V} {g:TG} {tb:TS} {D:Ends} {σ:St} {H:Hp} (Pv:Nat→St→Hp→Prop) (h0:Pv 0 σ H) (hl:∀i σ H,i≤xs.length→Pv i σ H→SqT K H a xs)
  (hs:∀i x σ H,xs[i]?=some x→Pv i σ H→g x σ H fun σ2 H2=>tb { D with nx:=Pv (i+1),ct:=Pv (i+1),bk:=D.nx } σ2 H2) (hd:∀σ H,Pv xs.length σ H→D.nx σ H):
  ∃W:Nat→Nat→St→Hp→Prop,(∃m,W 0 m σ H)∧∀i m σ H,W i m σ H→
   ((Itt K a).stop i H∧D.nx σ H)∨((Itt K a).go i H∧∃N:St→Hp→Prop,(∀σ' H',N σ' H'→∃m',m' <m∧W (i+1) m' σ' H')∧∀x H',(Itt K a).yld i H x H'→g x σ H' fun σ2 H2=>tb { D with nx:=N,ct:=N,bk:=D.nx } σ2 H2):=by
 refine⟨fun i m σ H=>m=xs.length - i∧i≤xs.length∧Pv i σ H,⟨xs.length,by simp,Nat.zero_le _,h0⟩,?_⟩
 rintro i m σ H ⟨rfl,hi,p⟩
 have q:=hl i σ H hi p
 by_cases hlt:i <xs.length
 ·refine .inr ⟨⟨xs,xs[i],q,by simp [hlt]⟩,Pv (i+1),fun σ' H' p'=>⟨xs.length - (i+1),by omega,rfl,hlt,p'⟩,fun x H' y=>?_⟩
  obtain⟨e,y⟩:=y
  subst e
  exact hs i x σ _ (y xs q) p
 ·have e:i=xs.length:=by omega
  subst e
  exact .inl ⟨⟨xs,q,Nat.le_refl _⟩,hd σ H p⟩
theorem yw {lo:Int} {n:Nat} {g:TG} {tb:TS} {D:Ends} {σ:St} {H:Hp} (Pv:Nat→St→Hp→Prop) (h0:Pv 0 σ H)
  (hs:∀i σ H,i <n→Pv i σ H→g (.int (lo+i)) σ H fun σ2 H2=>tb { D with nx:=Pv (i+1),ct:=Pv (i+1),bk:=D.nx } σ2 H2) (hd:∀σ H,Pv n σ H→D.nx σ H):
  ∃W:Nat→Nat→St→Hp→Prop,(∃m,W 0 m σ H)∧∀i m σ H,W i m σ H→
   ((Itr lo n).stop i H∧D.nx σ H)∨((Itr lo n).go i H∧∃N:St→Hp→Prop,(∀σ' H',N σ' H'→∃m',m' <m∧W (i+1) m' σ' H')∧∀x H',(Itr lo n).yld i H x H'→g x σ H' fun σ2 H2=>tb { D with nx:=N,ct:=N,bk:=D.nx } σ2 H2):=by
 refine⟨fun i m σ H=>m=n - i∧i≤n∧Pv i σ H,⟨n,by simp,Nat.zero_le _,h0⟩,?_⟩
 rintro i m σ H ⟨rfl,hi,p⟩
 by_cases hlt:i <n
 ·refine .inr ⟨hlt,Pv (i+1),fun σ' H' p'=>⟨n - (i+1),by omega,rfl,hlt,p'⟩,fun x H' y=>?_⟩
  obtain⟨e,y⟩:=y
  subst e y
  exact hs i σ _ hlt p
 ·have e:i=n:=by omega
  subst e
  exact .inl ⟨Nat.le_refl _,hd σ H p⟩
theorem while_by {c:TT} {tb:TS} {D:Ends} {σ:St} {H:Hp} (Pv:St→Hp→Prop) (μ:St→Hp→Nat) (h0:Pv σ H)
  (hs:∀σ H,Pv σ H→c σ H fun b H1=>if b=true then tb { D with nx:=fun σ' H'=>Pv σ' H'∧μ σ' H' <μ σ H,ct:=fun σ' H'=>Pv σ' H'∧μ σ' H' <μ σ H,bk:=D.nx } σ H1 else D.nx σ H1)
  (mono:∀σ H Q Q',(∀b H1,Q b H1→Q' b H1)→c σ H Q→c σ H Q'):tWhile c tb D σ H:=by
 refine⟨fun m σ H=>m=μ σ H∧Pv σ H,⟨_,rfl,h0⟩,?_⟩
 rintro m σ H ⟨rfl,p⟩
 refine mono σ H _ _ (fun b H1 q=>?_) (hs σ H p)
 cases b with
 | true=>exact⟨_,fun σ' H' ⟨p',l⟩=>⟨_,l,rfl,p'⟩,q⟩
 | false=>exact q
end L2
namespace L2
open PySem PySem.Spec PyProof.Rows
abbrev R2:=V→V→Hp→VK→Prop
def OpR (X:Cx) (f:Value→Value→Sem Value) (r:R2):Prop:=
 ∀(pins:List (Addr×Obj)) (s:Shared) (σ:St) (H:Hp) (x y:V) (v u:Value) (Q:VK),Inv X pins σ H s→RelV x v→RelV y u→r x y H Q→
  wpAny (model X.prog X.w) X.A (f v u) (EP X pins σ Q) X.xe s
def qm (X:Cx) (f:Value) (r:List V→Hp→VK→Prop):Prop:=
 ∀(pins:List (Addr×Obj)) (s:Shared) (σ:St) (H:Hp) (xs:List V) (us:List Value) (Q:VK),Inv X pins σ H s→Vals xs us→r xs H Q→
  wpAny (model X.prog X.w) X.A (call f us) (EP X pins σ Q) X.xe s
def tOp (r:R2) (ta tb:TE):TE:=fun σ H Q=>ta σ H fun x H1=>tb σ H1 fun y H2=>r x y H2 Q
def rI (C:Int→Int→Prop) (g:Int→Int→V):R2:=fun x y H Q=>∃i j,x=.int i∧y=.int j∧C i j∧Q (g i j) H
def rI0 (g:Int→Int→V):R2:=fun x y H Q=>∃i j,x=.int i∧y=.int j∧Q (g i j) H
section
variable {X:Cx} {a b c:Expr} {ta tb tc:TE} {pos:Pos}
theorem binT (ha:PE X a ta) (hb:PE X b tb) {pins:List (Addr×Obj)} {s:Shared} {σ:St} {H:Hp} {R:V→V→Hp→Prop} (I:Inv X pins σ H s)
  (h:ta σ H fun x H1=>tb σ H1 fun y H2=>R x y H2) {Q:Value→Shared→Prop} {f:Value→Value→Sem Value}
  (hf:∀v u s2 x y H2,Inv X pins σ H2 s2→RelV x v→RelV y u→R x y H2→wpAny (model X.prog X.w) X.A (f v u) Q X.xe s2):
  wpAny (model X.prog X.w) X.A (eval a X.env) (fun v s₁=>wpAny (model X.prog X.w) X.A (eval b X.env) (fun u s₂=>wpAny (model X.prog X.w) X.A (f v u) Q X.xe s₂) X.xe s₁) X.xe s:=by
 refine thn (ha pins s σ H _ I h) fun v s1 hpt=>?_
 obtain⟨x,H1,I1,r1,q1⟩:=hpt
 refine thn (hb pins s1 σ H1 _ I1 q1) fun u s2 hpt=>?_
 obtain⟨y,H2,I2,r2,q2⟩:=hpt
 exact hf v u s2 x y H2 I2 r1 r2 q2
theorem bj {op:Operator} {r:R2} (ho:OpR X (binaryOp op) r) (ha:PE X a ta) (hb:PE X b tb):PE X (.BinOp a op b pos) (tOp r ta tb):=by
 intro pins s σ H Q I h
 exact wpAny_BinOp (binT ha hb I h fun v u s2 x y H2 I2 rx ry q=>ho pins s2 σ H2 x y v u Q I2 rx ry q)
theorem opI {f:Value→Value→Sem Value} {C:Int→Int→Prop} {g:Int→Int→Int}
  (rule:∀(i j:Int) (t u:Tok) (s:Shared) (Q:Value→Shared→Prop) (E:Value→Shared→Prop),C i j→Q (.int (g i j) s.toks) { s with toks:=s.toks+1 }→wpAny (model X.prog X.w) X.A (f (.int i t) (.int j u)) Q E s):
  OpR X f (rI C fun i j=>.int (g i j)):=by
 intro pins s σ H x y v u Q I rx ry h
 obtain⟨i,j,rfl,rfl,hc,q⟩:=h
 obtain⟨t,rfl⟩:=rx
 obtain⟨t',rfl⟩:=ry
 exact rule i j t t' s _ _ hc ⟨.int (g i j),H,I.tok _,⟨_,rfl⟩,q⟩
theorem opI0 {f:Value→Value→Sem Value} {g:Int→Int→Int}
  (rule:∀(i j:Int) (t u:Tok) (s:Shared) (Q:Value→Shared→Prop) (E:Value→Shared→Prop),Q (.int (g i j) s.toks) { s with toks:=s.toks+1 }→wpAny (model X.prog X.w) X.A (f (.int i t) (.int j u)) Q E s):
  OpR X f (rI0 fun i j=>.int (g i j)):=by
 intro pins s σ H x y v u Q I rx ry h
 obtain⟨i,j,rfl,rfl,q⟩:=h
 obtain⟨t,rfl⟩:=rx
 obtain⟨t',rfl⟩:=ry
 exact rule i j t t' s _ _ ⟨.int (g i j),H,I.tok _,⟨_,rfl⟩,q⟩
theorem opB0 {f:Value→Value→Sem Value} {g:Int→Int→Bool}
  (rule:∀(i j:Int) (t u:Tok) (s:Shared) (Q:Value→Shared→Prop) (E:Value→Shared→Prop),Q (.bool (g i j)) s→wpAny (model X.prog X.w) X.A (f (.int i t) (.int j u)) Q E s):
  OpR X f (rI0 fun i j=>.bl (g i j)):=by
 intro pins s σ H x y v u Q I rx ry h
 obtain⟨i,j,rfl,rfl,q⟩:=h
 obtain⟨t,rfl⟩:=rx
 obtain⟨t',rfl⟩:=ry
 exact rule i j t t' s _ _ ⟨.bl (g i j),H,I,rfl,q⟩
def CPow (i j:Int):Prop:=0≤j∧j≤1000000∧i.natAbs <2 ^ 64
theorem cQ:OpR X (binaryOp .Add) (rI0 fun i j=>.int (i+j)):=opI0 fun _ _ _ _ _ _ _ q=>add_int q
theorem op_sub:OpR X (binaryOp .Sub) (rI0 fun i j=>.int (i - j)):=opI0 fun _ _ _ _ _ _ _ q=>sub_int q
theorem cL:OpR X (binaryOp .Mod) (rI (fun _ j=>0 <j) fun i j=>.int (i % j)):=opI fun i j _ _ _ _ _ hc q=>by
 have h1:(0:Int) <j:=hc
 exact mod_int' (by omega) (by rw [Int.fmod_eq_emod_of_nonneg i (by omega)];exact q)
theorem op_pow:OpR X (binaryOp .Pow) (rI CPow fun i j=>.int (i ^ j.toNat)):=opI fun _ _ _ _ _ _ _ hc q=>pow_int_small hc.1 hc.2.1 hc.2.2 q
end
def scal:V→V→Bool
 | .non,.non=>true | .non,.int _=>true | .int _,.non=>true | .non,.bl _=>true | .bl _,.non=>true | .non,.str _=>true | .str _,.non=>true
 | .int _,.int _=>true | .bl _,.bl _=>true | .str _,.str _=>true | .byt _,.byt _=>true
 | .int _,.str _=>true | .str _,.int _=>true | .bl _,.str _=>true | .str _,.bl _=>true
 | _,_=>false
def rEq:R2:=fun x y H Q=>scal x y=true∧Q (.bl (decide (x=y))) H
def rNe:R2:=fun x y H Q=>scal x y=true∧Q (.bl (!decide (x=y))) H
theorem dec_int {i j:Int}:decide (V.int i=V.int j)=(i == j):=by
 rw [Bool.eq_iff_iff]
 simp
theorem dec_bl {i j:Bool}:decide (V.bl i=V.bl j)=(i == j):=by
 rw [Bool.eq_iff_iff]
 simp
theorem dec_str {i j:Str}:decide (V.str i=V.str j)=(i == j):=by
 rw [Bool.eq_iff_iff]
 simp
theorem dec_byt {i j:Array UInt8}:decide (V.byt i=V.byt j)=(i.toList == j.toList):=by
 rw [Bool.eq_iff_iff]
 cases i
 cases j
 simp
section
variable {X:Cx} {a b c:Expr} {ta tb tc:TE} {pos:Pos}
theorem cV {pins:List (Addr×Obj)} {σ:St} {H:Hp} {s:Shared} {Q:VK} {k k':Bool} (I:Inv X pins σ H s) (q:Q (.bl k) H) (e:k=k'):EP X pins σ Q (.bool k') s:=by
 subst e
 exact⟨.bl k,H,I,rfl,q⟩
theorem gJ:OpR X (compareOp .Eq) rEq:=by
 intro pins s σ H x y v u Q I rx ry h
 obtain⟨hs,q⟩:=h
 cases x with
 | non=>
  cases rx
  cases y with
  | non=>cases ry;exact PySem.EqNone.eq_none_none (cV I q (by simp))
  | bl j=>cases ry;exact PySem.EqNone.eq_none_bool (cV I q (by simp))
  | int j=>obtain⟨t',rfl⟩:=ry;exact PySem.EqNone.eq_none_int (cV I q (by simp))
  | str j=>obtain⟨t',rfl⟩:=ry;exact PySem.EqNone.eq_none_str (cV I q (by simp))
  | _=>exact absurd (show false=true from hs) Bool.false_ne_true
 | bl i=>
  cases rx
  cases y with
  | non=>cases ry;exact PySem.EqNone.eq_bool_none (cV I q (by simp))
  | bl j=>cases ry;exact eq_bool (cV I q dec_bl)
  | str j=>obtain⟨t',rfl⟩:=ry;exact PySem.EqMixed.eq_bool_str (cV I q (by simp))
  | _=>exact absurd (show false=true from hs) Bool.false_ne_true
 | int i=>
  obtain⟨t,rfl⟩:=rx
  cases y with
  | non=>cases ry;exact PySem.EqNone.eq_int_none (cV I q (by simp))
  | int j=>obtain⟨t',rfl⟩:=ry;exact eq_int (cV I q dec_int)
  | str j=>obtain⟨t',rfl⟩:=ry;exact PySem.EqMixed.eq_int_str (cV I q (by simp))
  | _=>exact absurd (show false=true from hs) Bool.false_ne_true
 | str i=>
  obtain⟨t,rfl⟩:=rx
  cases y with
  | non=>cases ry;exact PySem.EqNone.eq_str_none (cV I q (by simp))
  | bl j=>cases ry;exact PySem.EqMixed.eq_str_bool (cV I q (by simp))
  | int j=>obtain⟨t',rfl⟩:=ry;exact PySem.EqMixed.eq_str_int (cV I q (by simp))
  | str j=>obtain⟨t',rfl⟩:=ry;exact eq_str (cV I q dec_str)
  | _=>exact absurd (show false=true from hs) Bool.false_ne_true
 | byt i=>
  obtain⟨t,rfl⟩:=rx
  cases y with
  | byt j=>obtain⟨t',rfl⟩:=ry;exact PySem.W.eq_bytes (cV I q dec_byt)
  | _=>exact absurd (show false=true from hs) Bool.false_ne_true
 | _=>cases y <;> exact absurd (show false=true from hs) Bool.false_ne_true
theorem op_ne:OpR X (compareOp .NotEq) rNe:=by
 intro pins s σ H x y v u Q I rx ry h
 obtain⟨hs,q⟩:=h
 cases x with
 | non=>
  cases rx
  cases y with
  | non=>cases ry;exact PySem.EqNone.ne_none_none (cV I q (by simp))
  | bl j=>cases ry;exact PySem.EqNone.ne_none_bool (cV I q (by simp))
  | int j=>obtain⟨t',rfl⟩:=ry;exact PySem.EqNone.ne_none_int (cV I q (by simp))
  | str j=>obtain⟨t',rfl⟩:=ry;exact PySem.EqNone.ne_none_str (cV I q (by simp))
  | _=>exact absurd (show false=true from hs) Bool.false_ne_true
 | bl i=>
  cases rx
  cases y with
  | non=>cases ry;exact PySem.EqNone.ne_bool_none (cV I q (by simp))
  | bl j=>cases ry;exact ne_bool (cV I q (congrArg not dec_bl))
  | str j=>obtain⟨t',rfl⟩:=ry;exact PySem.EqMixed.ne_bool_str (cV I q (by simp))
  | _=>exact absurd (show false=true from hs) Bool.false_ne_true
 | int i=>
  obtain⟨t,rfl⟩:=rx
  cases y with
  | non=>cases ry;exact PySem.EqNone.ne_int_none (cV I q (by simp))
  | int j=>obtain⟨t',rfl⟩:=ry;exact ne_int (cV I q (congrArg not dec_int))
  | str j=>obtain⟨t',rfl⟩:=ry;exact PySem.EqMixed.ne_int_str (cV I q (by simp))
  | _=>exact absurd (show false=true from hs) Bool.false_ne_true
 | str i=>
  obtain⟨t,rfl⟩:=rx
  cases y with
  | non=>cases ry;exact PySem.EqNone.ne_str_none (cV I q (by simp))
  | bl j=>cases ry;exact PySem.EqMixed.ne_str_bool (cV I q (by simp))
  | int j=>obtain⟨t',rfl⟩:=ry;exact PySem.EqMixed.ne_str_int (cV I q (by simp))
  | str j=>obtain⟨t',rfl⟩:=ry;exact ne_str (cV I q (congrArg not dec_str))
  | _=>exact absurd (show false=true from hs) Bool.false_ne_true
 | byt i=>
  obtain⟨t,rfl⟩:=rx
  cases y with
  | byt j=>obtain⟨t',rfl⟩:=ry;exact PySem.W.ne_bytes (cV I q (congrArg not dec_byt))
  | _=>exact absurd (show false=true from hs) Bool.false_ne_true
 | _=>cases y <;> exact absurd (show false=true from hs) Bool.false_ne_true
theorem xU:OpR X (compareOp .Lt) (rI0 fun i j=>.bl (decide (i <j))):=opB0 fun _ _ _ _ _ _ _ q=>lt_int q
theorem xP:OpR X (compareOp .LtE) (rI0 fun i j=>.bl (decide (i≤j))):=opB0 fun _ _ _ _ _ _ _ q=>le_int q
theorem op_gt:OpR X (compareOp .Gt) (rI0 fun i j=>.bl (decide (j <i))):=opB0 fun _ _ _ _ _ _ _ q=>gt_int q
theorem yh:OpR X (compareOp .In) (fun x y H Q=>∃i j,x=.str i∧y=.str j∧Q (.bl (!(Builtin.Str.occurrences j i 0 j.length 1).isEmpty)) H):=by
 intro pins s σ H x y v u Q I rx ry h
 obtain⟨i,j,rfl,rfl,q⟩:=h
 obtain⟨t,rfl⟩:=rx
 obtain⟨t',rfl⟩:=ry
 exact in_str (cV I q rfl)
theorem bW (b:Expr) {op:CmpOp} (h:op≠.In:=by decide) (h2:op≠.NotIn:=by decide):behindInMarks op b=false:=by
 have e1:(op == CmpOp.In)=false:=by cases op <;> first | rfl | exact absurd rfl h
 have e2:(op == CmpOp.NotIn)=false:=by cases op <;> first | rfl | exact absurd rfl h2
 cases b <;> simp [behindInMarks,e1,e2]
theorem zp {op:CmpOp} {r:R2} (ho:OpR X (compareOp op) r) (ha:PE X a ta) (hb:PE X b tb) (hm:behindInMarks op b=false):PE X (.Compare a [op] [b] pos) (tOp r ta tb):=by
 intro pins s σ H Q I h
 exact wpAny_Compare1 (binT ha hb I h fun v u s2 x y H2 I2 rx ry q=>ho pins s2 σ H2 x y v u Q I2 rx ry q) hm
def tTest (t:TE):TT:=fun σ H Q=>t σ H fun x H'=>∃k,x=.bl k∧Q k H'
theorem bC {op:CmpOp} {r:R2} (ho:OpR X (compareOp op) r) (ha:PE X a ta) (hb:PE X b tb) (hm:behindInMarks op b=false):PT X (.Compare a [op] [b] pos) (tTest (tOp r ta tb)):=by
 intro pins s σ H Q I h
 refine wpAny_isTrue_Compare1 (thn (ha pins s σ H _ I h) fun v s1 ⟨x,H1,I1,r1,q1⟩=>thn (hb pins s1 σ H1 _ I1 q1) fun u s2 ⟨y,H2,I2,r2,q2⟩=>
  thn (ho pins s2 σ H2 x y v u _ I2 r1 r2 q2) fun c s3 ⟨z,H3,I3,r3,k,e,q3⟩=>?_) hm
 subst e
 cases r3
 exact wpAny_truthy_bool ⟨H3,I3,q3⟩
def tChain (r r':R2) (ta tb tc:TE):TE:=fun σ H Q=>ta σ H fun x H1=>tb σ H1 fun y H2=>r x y H2 fun z H3=>∃k,z=.bl k∧
 (if k=true then tc σ H3 fun w' H4=>r' y w' H4 Q else Q (.bl false) H3)
theorem pe_chain {op op':CmpOp} {r r':R2} (ho:OpR X (compareOp op) r) (ho':OpR X (compareOp op') r') (ha:PE X a ta) (hb:PE X b tb) (hc:PE X c tc)
  (hm:lastMarks [op,op'] [b,c]=false:=by with_unfolding_all rfl):PE X (.Compare a [op,op'] [b,c] pos) (tChain r r' ta tb tc):=by
 intro pins s σ H Q I h
 refine Compare_chain (thn (ha pins s σ H _ I h) fun v s1 ⟨x,H1,I1,r1,q1⟩=>chain_link (thn (hb pins s1 σ H1 _ I1 q1) fun u s2 ⟨y,H2,I2,r2,q2⟩=>
  thn (ho pins s2 σ H2 x y v u _ I2 r1 r2 q2) fun d s3 ⟨z,H3,I3,r3,k,e,q3⟩=>?_)) hm
 subst e
 cases r3
 refine wpAny_truthy_bool ?_
 cases k with
 | false=>exact ite_ff ⟨.bl false,H3,I3,rfl,q3⟩
 | true=>exact ite_tt (chain_last (thn (hc pins s3 σ H3 _ I3 q3) fun w' s4 ⟨z',H4,I4,r4,q4⟩=>ho' pins s4 σ H4 y z' u w' Q I4 r2 r4 q4))
theorem pQ {op op':CmpOp} {r r':R2} (ho:OpR X (compareOp op) r) (ho':OpR X (compareOp op') r') (ha:PE X a ta) (hb:PE X b tb) (hc:PE X c tc)
  (hm:lastMarks [op,op'] [b,c]=false:=by with_unfolding_all rfl):PT X (.Compare a [op,op'] [b,c] pos) (tTest (tChain r r' ta tb tc)):=by
 intro pins s σ H Q I h
 refine isTrue_chain (thn (ha pins s σ H _ I h) fun v s1 ⟨x,H1,I1,r1,q1⟩=>test_link (thn (hb pins s1 σ H1 _ I1 q1) fun u s2 ⟨y,H2,I2,r2,q2⟩=>
  thn (ho pins s2 σ H2 x y v u _ I2 r1 r2 q2) fun d s3 ⟨z,H3,I3,r3,k,e,q3⟩=>?_)) hm
 subst e
 cases r3
 refine wpAny_truthy_bool ?_
 cases k with
 | false=>
  obtain⟨k',e',q'⟩:=q3
  cases e'
  exact ite_ff ⟨H3,I3,q'⟩
 | true=>
  refine ite_tt (test_last (thn (hc pins s3 σ H3 _ I3 q3) fun w' s4 ⟨z',H4,I4,r4,q4⟩=>thn (ho' pins s4 σ H4 y z' u w' _ I4 r2 r4 q4) fun d' s5 hpt=>?_))
  obtain⟨z2,H5,I5,r5,k2,e2,q5⟩:=hpt
  subst e2
  cases r5
  exact wpAny_truthy_bool ⟨H5,I5,q5⟩
theorem line63:(sizeLine:Nat) <2 ^ 63:=by rw [sizeLine_eq];decide
theorem wB:OpR X (binaryOp .Add) (fun x y H Q=>∃i j,x=.str i∧y=.str j∧i.length+j.length≤sizeLine∧Q (.str (i ++ j)) H):=by
 intro pins s σ H x y v u Q I rx ry h
 obtain⟨i,j,rfl,rfl,hz,q⟩:=h
 obtain⟨t,rfl⟩:=rx
 obtain⟨t',rfl⟩:=ry
 exact add_str (fun t' tk=>⟨.str (i ++ j),H,I.tok _,⟨_,rfl⟩,q⟩) hz
theorem vals1 {x:V} {us:List Value} (r:Vals [x] us):∃u,us=[u]∧RelV x u:=by
 cases r with
 | cons r1 r2=>cases r2;exact⟨_,rfl,r1⟩
theorem vals2 {x y:V} {us:List Value} (r:Vals [x,y] us):∃u w',us=[u,w']∧RelV x u∧RelV y w':=by
 cases r with
 | cons r1 r2=>
  cases r2 with
  | cons r3 r4=>cases r4;exact⟨_,_,rfl,r1,r3⟩
theorem call_max2 (hc:X.calm=true):qm X (.builtin "max") (fun xs H Q=>∃i j,xs=[.int i,.int j]∧Q (.int (if j >i then j else i)) H):=by
 intro pins s σ H xs us Q I r h
 obtain⟨i,j,rfl,q⟩:=h
 obtain⟨u,w',rfl,⟨t,rfl⟩,⟨t',rfl⟩⟩:=vals2 r
 refine max_two_ints (I.ok.hd hc) fun h' tk k=>⟨_,H,I.kept k,?_,q⟩
 by_cases hj:j >i
 ·rw [if_pos hj,if_pos hj];exact⟨_,rfl⟩
 ·rw [if_neg hj,if_neg hj];exact⟨_,rfl⟩
theorem call_str_int:qm X (.type "str") (fun xs H Q=>∃i,xs=[.int i]∧i.natAbs.log2 <1920∧Q (.str (toString i)) H):=by
 intro pins s σ H xs us Q I r h
 obtain⟨i,rfl,hz,q⟩:=h
 obtain⟨u,rfl,t,rfl⟩:=vals1 r
 exact PySem.P.str_of_int hz ⟨.str _,H,I.tok _,⟨_,rfl⟩,q⟩
def LenV (K:PySem.W.Frag) (x:V) (H:Hp) (n:Nat):Prop:=
 match x with
 | .str y=>y.length≤sizeLine∧n=y.length
 | .byt y=>y.size≤sizeLine∧n=y.size
 | .ref p=>(∃xs,SqL K H p xs∧n=xs.length)∨∃xs,SqT K H p xs∧n=xs.length
 | _=>False
theorem cj:qm X (.builtin "len") (fun xs H Q=>∃x n,xs=[x]∧LenV X.K x H n∧Q (.int n) H):=by
 intro pins s σ H xs us Q I r h
 obtain⟨x,n,rfl,e,q⟩:=h
 obtain⟨u,rfl,rx⟩:=vals1 r
 have hl:=line63
 have hs:sizeLine=16777216:=sizeLine_eq
 cases x with
 | str y=>
  obtain⟨t,rfl⟩:=rx
  obtain⟨hy,e'⟩:y.length≤sizeLine∧n=y.length:=e
  subst e'
  exact len_str (by omega) ⟨.int _,H,I.tok _,⟨_,rfl⟩,q⟩
 | byt y=>
  obtain⟨t,rfl⟩:=rx
  obtain⟨hy,e'⟩:y.size≤sizeLine∧n=y.size:=e
  subst e'
  exact PySem.W.len_bytes (by omega) ⟨.int _,H,I.tok _,⟨_,rfl⟩,q⟩
 | ref p=>
  cases rx
  have e':(∃xs,SqL X.K H p xs∧n=xs.length)∨∃xs,SqT X.K H p xs∧n=xs.length:=e
  rcases e' with ⟨xs,hx,e'⟩ | ⟨xs,hx,e'⟩
  ·subst e'
   obtain⟨its,r',pl,hz⟩:=I.list hx
   have hlen:=r'.length
   exact Calls.call_len_list pl.isList (by simp only [List.size_toArray];omega) ⟨.int xs.length,H,I.tok _,⟨_,by simp only [List.size_toArray];rw [hlen]⟩,q⟩
  ·subst e'
   obtain⟨its,r',pl,hz⟩:=I.tuple hx
   have hlen:=r'.length
   exact len_tuple pl (by simp only [List.size_toArray];omega) ⟨.int xs.length,H,I.tok _,⟨_,by simp only [List.size_toArray];rw [hlen]⟩,q⟩
 | _=>exact(show False from e).elim
end
end L2
namespace L2
open PySem PySem.Spec PyProof.Rows
structure ObjM (h:Heap) (x dx C:Addr) (mA:Str→Option Value):Prop where
 obj:h.get? x=some (PySem.W.instObj C dx)
 ns:h.Ns1 dx mA
 ne:dx≠x
theorem yg {h:Heap} {dx:Addr} {mA:Str→Option Value} (n:h.Ns1 dx mA):∃od,h.get? dx=some od∧∀name,PySem.W.lookIn name od=some (mA name):=by
 obtain⟨o,es,ep,ho,hd,hk,_,hm⟩:=n
 refine⟨o,ho,fun name=>?_⟩
 have e:=hm name
 unfold nsFind findBy at e
 rw [←Array.find?_toList] at e
 unfold PySem.W.lookIn
 rw [hd]
 dsimp only
 split
 ·rename_i y q
  rw [q] at e
  exact congrArg some e
 ·rename_i q
  rw [q] at e
  have a:es.toList.any (·.refKey)=false:=by
   rw [List.any_eq_false]
   intro y hy
   obtain⟨z,t,hkey⟩:=hk y (Array.mem_toList_iff.mp hy)
   simp [DictEntry.refKey,hkey]
  have a':¬es.toList.any (·.refKey)=true:=by rw [a];exact Bool.false_ne_true
  rw [if_neg a']
  exact congrArg some e
theorem ObjM.look {h:Heap} {x dx C:Addr} {mA:Str→Option Value} (I:ObjM h x dx C mA):∃od,PySem.W.InstAt h x (PySem.W.instObj C dx) C (some od)∧∀name,PySem.W.lookIn name od=some (mA name):=
 let ⟨od,ho,hl⟩:=yg I.ns
 ⟨od,⟨I.obj,rfl,rfl,ho⟩,hl⟩
section
variable {prog:Program} {w:World} {A:Around} {E:Value→Shared→Prop} {s:Shared} {K:PySem.W.Frag} {x dx C f:Addr} {mA:Str→Option Value} {name:Str} {v:Value}
theorem get_map {expr:Bool} {Q:Value→Shared→Prop} (X:K.In s.heap) (I:ObjM s.heap x dx C mA) (hg:PySem.W.plainGet K C name=true) (hh:PySem.W.hasDictIn K C=true)
  (ha:PySem.W.findIn K (.ref C) name=some none) (hv:mA name=some v) (hv':PySem.W.handedIn v=true) (h:Q v { s with toks:=s.toks+1 }):
  wpAny (model prog w) A (getAttr (.ref x) name expr) Q E s:=by
 obtain⟨od,J,hl⟩:=I.look
 exact PySem.W.get_value X J (PySem.W.plainGet_of hg).1 (PySem.W.findObj_own hh ha rfl (by rw [hl,hv])) hv' h
theorem get_meth {pl:Sem Bool} {Q:Value×List Value→Shared→Prop} (X:K.In s.heap) (I:ObjM s.heap x dx C mA) (hg:PySem.W.plainGet K C name=true)
  (hf:PySem.W.findIn K (.ref C) name=some (some (.ref f))) (ht:PySem.W.isFn K (.ref f)=true) (hv:mA name=none) (h:Q (.ref f,[.ref x]) s):
  wpAny (model prog w) A (getMethod (.ref x) name pl) Q E s:=by
 obtain⟨od,J,hl⟩:=I.look
 exact PySem.W.method_fn X J (PySem.W.plainGet_of hg).1 (PySem.W.plainGet_of hg).2 hf (beq_iff_eq.mp ht) (by show(PySem.W.lookIn name od).map (·.isSome)=some false;rw [hl,hv];rfl) h
theorem set_map {ns:List Str} {Q:Unit→Shared→Prop} (X:K.In s.heap) (I:ObjM s.heap x dx C mA)
  (hs:PySem.W.findIn K (.ref C) "__setattr__" =some (some (.builtin "object.__setattr__"))) (hp:PySem.W.plainOver K C=true) (ht:PySem.W.takerIn K C name=some none) (hh:PySem.W.hasDictIn K C=true)
  (hw:PySem.Within mA ns) (hsz:ns.length≤sizeLine)
  (h:∀h',ObjM h' x dx C (fun y=>if y=name then some v else mA y)→Heap.SameBut dx s.heap h'→Q () { s with heap:=h',toks:=s.toks+2 }):
  wpAny (model prog w) A (setAttr (.ref x) name v) Q E s:=by
 obtain⟨od,J,hl⟩:=I.look
 refine PySem.W.set_plain X J hs (PySem.W.osa_open (s:={ s with toks:=s.toks+1 }) (r:=none) X J hp ht fun b=>?_)
 obtain⟨cd,hc,hd'⟩:=PySem.W.any_some hh
 have hx:s.heap.get? x=some ⟨.ref C,some dx,.plain,#[]⟩:=I.obj
 refine wpAny_bind (wpAny_pure (wpAny_bind (wpAny_bind (wpAny_loadPart hx (wpAny_bind (PySem.W.Looks.here (s:={ s with toks:=s.toks+1 }) (PySem.W.looks_clsIn X hc) ?_))))))
 rw [hd']
 refine wpAny_pure (a:=some dx) (wpAny_bind (wpAny_pure (wpAny_bind ?_)))
 refine wpAny_nsSet1 (s:={ s with toks:=s.toks+1 }) I.ns fun h' hn2 hs2=>?_
 obtain⟨oD,esD,epD,hoD,hdD,hcD⟩:=hn2.count (PySem.Within.cons name v hw)
 refine wpAny_bind (wpAny_lookBehind hoD (by rw [hdD];exact pastItsLine_dict (Nat.le_trans hcD (by rw [List.length_cons];omega))) ?_)
 exact wpAny_pure (h _ ⟨(hs2.2 _ (Ne.symm I.ne)).trans I.obj,hn2,I.ne⟩ hs2)
theorem make_map {R:Result→Shared→Prop} {vs:List Value} {kw:List (Str×Value)} (X:K.In s.heap) (hm:PySem.W.makesIn K C=true)
  (hi:PySem.W.findIn K (.ref C) "__init__" =some (some (.ref f))) (hf:PySem.W.typeIn K (.ref f)=some (.type "function"))
  (h:codeAny (model prog w) (A.under (.builtin "type.__call__" ⟨.ref C:: vs,kw⟩)) (.call (.ref f) ⟨.ref (s.heap.objs.size+1):: vs,kw⟩) (PySem.W.InitBack (s.heap.objs.size+1) R)
   { s with heap:=(s.heap.push PySem.W.emptyDict).push (PySem.W.instObj C s.heap.objs.size) }):
  codeAny (model prog w) A (.call (.ref C) ⟨vs,kw⟩) R s:=by
 obtain⟨hh,g,d,t,os⟩:=s
 exact PySem.W.make_core (PySem.W.makes_of X hm) (PySem.W.looks_findIn X hi) (fun self=>PySem.W.bind_fn X self hf) (.inl rfl) h
end
def bu (f:Str) (v:V):List (Str×V)→List (Str×V)
 | []=>[(f,v)]
 | (g,x):: r=>if g=f then(g,v):: r else(g,x):: bu f v r
theorem aM (f g:Str) (v:V):∀fs:List (Str×V),(bu f v fs).lookup g=if g=f then some v else fs.lookup g
 | []=>by
  show List.lookup g [(f,v)]=_
  by_cases h:g=f
  ·have hb:(g == f)=true:=beq_iff_eq.mpr h
   simp only [List.lookup,hb,if_pos h]
  ·have hb:(g == f)=false:=beq_eq_false_iff_ne.mpr h
   simp only [List.lookup,hb,if_neg h]
 | (k,x):: r=>by
  have ih:=aM f g v r
  rw [show bu f v ((k,x):: r)=(if k=f then(k,v):: r else(k,x):: bu f v r) from rfl]
  by_cases hk:k=f
  ·rw [if_pos hk]
   by_cases h:g=k
   ·have hb:(g == k)=true:=beq_iff_eq.mpr h
    simp only [List.lookup,hb,if_pos (h.trans hk)]
   ·have hb:(g == k)=false:=beq_eq_false_iff_ne.mpr h
    simp only [List.lookup,hb,if_neg (fun e:g=f=>h (e.trans hk.symm))]
  ·rw [if_neg hk]
   by_cases h:g=k
   ·have hb:(g == k)=true:=beq_iff_eq.mpr h
    simp only [List.lookup,hb,if_neg (fun e:g=f=>hk (h.symm.trans e))]
   ·have hb:(g == k)=false:=beq_eq_false_iff_ne.mpr h
    simp only [List.lookup,hb]
    exact ih
theorem yj (f:Str) (v:V):∀fs:List (Str×V),f∈(bu f v fs).map (·.1)∧∀g,g∈fs.map (·.1)→g∈(bu f v fs).map (·.1)
 | []=>⟨by simp [bu],fun g h=>by simp at h⟩
 | (k,x):: r=>by
  obtain⟨i1,i2⟩:=yj f v r
  rw [show bu f v ((k,x):: r)=(if k=f then(k,v):: r else(k,x):: bu f v r) from rfl]
  by_cases hk:k=f
  ·rw [if_pos hk]
   subst hk
   exact⟨by simp,fun g h=>by simpa using h⟩
  ·rw [if_neg hk]
   refine⟨?_,fun g h=>?_⟩
   ·rw [List.map_cons]
    exact List.mem_cons_of_mem _ i1
   ·rw [List.map_cons] at h ⊢
    rcases List.mem_cons.mp h with e | e
    ·exact List.mem_cons.mpr (.inl e)
    ·exact List.mem_cons_of_mem _ (i2 g e)
theorem uw (f:Str) (v:V):∀fs:List (Str×V),(bu f v fs).length≤fs.length+1
 | []=>by simp [bu]
 | (k,x):: r=>by
  have ih:=uw f v r
  rw [show bu f v ((k,x):: r)=(if k=f then(k,v):: r else(k,x):: bu f v r) from rfl]
  by_cases hk:k=f
  ·rw [if_pos hk,List.length_cons,List.length_cons];omega
  ·rw [if_neg hk,List.length_cons,List.length_cons];omega
theorem rZ.some_of {v:V} {o:Option Value} (r:rZ (some v) o):∃u,o=some u∧RelV v u:=by
 cases o with
 | none=>exact(show False from r).elim
 | some u=>exact⟨u,rfl,r⟩
theorem rZ.none_of {o:Option Value} (r:rZ none o):o=none:=by
 cases o with
 | none=>rfl
 | some u=>exact(show False from r).elim
theorem handed_of {v:V} {u:Value} (r:RelV v u):PySem.W.handedIn u=true:=by
 cases v with
 | non=>cases (show u=Value.none from r);rfl
 | bl b=>cases (show u=Value.bool b from r);rfl
 | int i=>obtain⟨t,e⟩:=(show ∃t,u=Value.int i t from r);cases e;rfl
 | str x=>obtain⟨t,e⟩:=(show ∃t,u=Value.str x t from r);cases e;rfl
 | byt b=>obtain⟨t,e⟩:=(show ∃t,u=Value.bytes b t from r);cases e;rfl
 | flt b=>obtain⟨t,e⟩:=(show ∃t,u=Value.float b t from r);cases e;rfl
 | ref a=>cases (show u=Value.ref a from r);rfl
 | ty n=>cases (show u=Value.type n from r);rfl
section
variable {P:Program} {w:World} {H H':Hp} {h h':Heap} {a C dx:Addr} {fs fs':List (Str×V)}
theorem ins_get (hok:HOk P w H h) (e:H a=some (.ins C dx fs)):∃mA,ObjM h a dx C mA∧(∀f,rZ (fs.lookup f) (mA f))∧PySem.Within mA (fs.map (·.1))∧fs.length≤1000∧H dx=some (.own a):=by
 obtain⟨d,z,ne,ob,mA,n,r,q⟩:=(show dO P w H h a (.ins C dx fs) from hok a _ e)
 exact⟨mA,⟨ob,n,ne⟩,r,q,z,d⟩
end
structure Cls (K:PySem.W.Frag) (C:Addr):Prop where
 pg:PySem.W.plainGet K C Str.empty=true
 hd:PySem.W.hasDictIn K C=true
 po:PySem.W.plainOver K C=true
 sa:PySem.W.findIn K (.ref C) "__setattr__" =some (some (.builtin "object.__setattr__"))
theorem Cls.get {K:PySem.W.Frag} {C:Addr} (c:Cls K C) (f:Str):PySem.W.plainGet K C f=true:=c.pg
def bB (K:PySem.W.Frag) (C:Addr) (f:Str):Prop:=PySem.W.findIn K (.ref C) f=some none
theorem bB.taker {K:PySem.W.Frag} {C:Addr} {f:Str} (n:bB K C f):PySem.W.takerIn K C f=some none:=by
 unfold PySem.W.takerIn
 rw [show PySem.W.findIn K (.ref C) f=some none from n]
 rfl
structure Meth (K:PySem.W.Frag) (C:Addr) (m:Str) (f:Addr):Prop where
 at_:PySem.W.findIn K (.ref C) m=some (some (.ref f))
 fn:PySem.W.isFn K (.ref f)=true
 kp:PySem.W.keepIn K (.ref f)=true
section
variable {X:Cx} {pins:List (Addr×Obj)} {σ:St} {H:Hp} {s:Shared} {a C dx:Addr} {fs:List (Str×V)} {f:Str} {v:V} {A:Around} {E:Value→Shared→Prop}
theorem getattr_ok {b:Bool} {Q:Value→Shared→Prop} (I:Inv X pins σ H s) (e:H a=some (.ins C dx fs)) (c:Cls X.K C) (n:bB X.K C f) (l:fs.lookup f=some v)
  (h:∀u s',Inv X pins σ H s'→RelV v u→Q u s'):wpAny (model X.prog X.w) A (getAttr (.ref a) f b) Q E s:=by
 obtain⟨mA,O,r,_,_,_⟩:=ins_get I.hok e
 obtain⟨u,hu,ru⟩:=rZ.some_of (v:=v) (o:=mA f) (by rw [←l];exact r f)
 exact get_map I.kIn O (c.get f) c.hd n hu (handed_of ru) (h u _ (I.tok _) ru)
theorem wZ {m:Str} {g:Addr} {pl:Sem Bool} {Q:Value×List Value→Shared→Prop} (I:Inv X pins σ H s) (e:H a=some (.ins C dx fs)) (c:Cls X.K C) (k:Meth X.K C m g) (l:fs.lookup m=none)
  (h:Q (.ref g,[.ref a]) s):wpAny (model X.prog X.w) A (getMethod (.ref a) m pl) Q E s:=by
 obtain⟨mA,O,r,_,_,_⟩:=ins_get I.hok e
 have hn:mA m=none:=rZ.none_of (by rw [←l];exact r m)
 exact get_meth I.kIn O (c.get m) k.at_ k.fn hn h
theorem setattr_ok {y:V} {u:Value} {Q:Unit→Shared→Prop} (I:Inv X pins σ H s) (e:H a=some (.ins C dx fs)) (c:Cls X.K C) (n:bB X.K C f) (hl:fs.length <1000) (ry:RelV y u)
  (h:∀s',Inv X pins σ (upd H a (.ins C dx (bu f y fs))) s'→Q () s'):wpAny (model X.prog X.w) A (setAttr (.ref a) f u) Q E s:=by
 obtain⟨mA,O,r,wi,_,ho⟩:=ins_get I.hok e
 have hz:(fs.map (·.1)).length≤sizeLine:=by rw [List.length_map,sizeLine_eq];omega
 refine set_map I.kIn O c.sa c.po n.taker c.hd wi hz fun h' O' sb=>h _ ?_
 have hd:∃o,h'.get? dx=some o:=let ⟨o,_,_,e',_⟩:=O'.ns;⟨o,e'⟩
 refine I.write (x:=a) (e:=dx) (by rw [e];exact True.intro) (.inr ho) (fun b q hb z=>(sb.2 b hb).trans z) hd ?_
 refine⟨by rw [aK O.ne];exact ho,?_,O.ne,O'.obj,_,O'.ns,fun g=>?_,fun g hg=>?_⟩
 ·have:=uw f y fs;omega
 ·show rZ ((bu f y fs).lookup g) (if g=f then some u else mA g)
  rw [aM]
  by_cases q:g=f
  ·rw [if_pos q,if_pos q];exact ry
  ·rw [if_neg q,if_neg q];exact r g
 ·by_cases q:g=f
  ·rw [q];exact(yj f y fs).1
  ·refine(yj f y fs).2 g (wi g fun z=>hg ?_)
   show(if g=f then some u else mA g)=none
   rw [if_neg q];exact z
theorem Inv.made (I:Inv X pins σ H s):Inv X pins σ (upd (upd H s.heap.objs.size (.own (s.heap.objs.size+1))) (s.heap.objs.size+1) (.ins C s.heap.objs.size []))
  { s with heap:=(s.heap.push PySem.W.emptyDict).push (PySem.W.instObj C s.heap.objs.size) }:=by
 have e1:(s.heap.push PySem.W.emptyDict).get? s.heap.objs.size=some PySem.W.emptyDict:=Heap.get?_push_size s.heap rfl
 have e2:((s.heap.push PySem.W.emptyDict).push (PySem.W.instObj C s.heap.objs.size)).get? (s.heap.objs.size+1)=some (PySem.W.instObj C s.heap.objs.size):=by
  have:=Heap.get?_push_size (s.heap.push PySem.W.emptyDict) (o:=PySem.W.instObj C s.heap.objs.size) rfl
  rwa [Heap.size_push] at this
 have e3:(s.heap.push PySem.W.emptyDict).Ns s.heap.objs.size (fun _=>none):=⟨PySem.W.emptyDict,#[],_,e1,rfl,(fun e he=>absurd he (by simp)),fun _=>rfl⟩
 have I1:=I.laid (a:=s.heap.objs.size) (o:=.own (s.heap.objs.size+1)) (h':=s.heap.push PySem.W.emptyDict) (t':=s.toks) (fun b u q=>Heap.get?_push_of_some _ q) (Nat.le_refl _) ⟨_,e1⟩
 refine I1.laid (a:=s.heap.objs.size+1) (o:=.ins C s.heap.objs.size []) (t':=s.toks) (fun b u q=>Heap.get?_push_of_some _ q) (Nat.le_of_eq (Heap.size_push _ _)) ?_
 have ne:s.heap.objs.size≠s.heap.objs.size+1:=Nat.ne_of_lt (Nat.lt_succ_self _)
 refine⟨by rw [aK ne,aq],Nat.zero_le _,ne,e2,fun _=>none,(Heap.Ns1.of_empty e3).at fun o q=>Heap.get?_push_of_some _ q,fun _=>True.intro,fun y hy=>absurd rfl hy⟩
theorem attr_of {prog:Program} {w:World} {env:Env} {e:Expr} {f:Str} {pos:Pos} {s:Shared} {Q:Value→Shared→Prop} (hb:attributeBase e f env (eval e env)=eval e env)
  (h:wpAny (model prog w) A (eval e env) (fun o s₁=>wpAny (model prog w) A (getAttr o f true) Q E s₁) E s):wpAny (model prog w) A (eval (.Attribute e f pos) env) Q E s:=
 Attribute_any_ h (by rw [arm_eval_Attribute,hb])
end
def tFld (K:PySem.W.Frag) (ta:TE) (f:Str):TE:=fun σ H Q=>ta σ H fun x H1=>∃a C dx fs v,x=.ref a∧H1 a=some (.ins C dx fs)∧Cls K C∧bB K C f∧fs.lookup f=some v∧Q v H1
def sFld (K:PySem.W.Frag) (ta tv:TE) (f:Str):TS:=fun D σ H=>tv σ H fun y H1=>ta σ H1 fun x H2=>∃a C dx fs,x=.ref a∧H2 a=some (.ins C dx fs)∧Cls K C∧bB K C f∧fs.length <1000∧
 D.nx σ (upd H2 a (.ins C dx (bu f y fs)))
section
variable {X:Cx} {o e value:Expr} {f:Str} {pos pos' tpos:Pos} {ta tv:TE}
theorem du (he:PE X e ta) (hb:attributeBase e f X.env (eval e X.env)=eval e X.env):PE X (.Attribute e f pos) (tFld X.K ta f):=by
 intro pins s σ H Q I h
 refine attr_of hb (thn (he pins s σ H _ I h) fun u s1 hpt=>?_)
 obtain⟨x,H1,I1,rx,a,C,dx,fs,v,ex,ea,c,n,l,q⟩:=hpt
 subst ex
 obtain rfl:u=Value.ref a:=rx
 exact getattr_ok I1 ea c n l fun u' s2 I2 ru=>⟨v,H1,I2,ru,q⟩
theorem sZ (ha:PE X o ta) (hv:PE X value tv) (hs:swapsWith value (some (.Attribute o f pos')) pos.line X.env=pure false):PS X (.Assign [.Attribute o f pos'] value pos) (sFld X.K ta tv f):=by
 intro pins s σ H D I h
 refine plainObj_wpAny_Assign_Attribute (thn (hv pins s σ H _ I h) fun u s1 ⟨y,H1,I1,ry,q⟩=>thn (ha pins s1 σ H1 _ I1 q) fun ov s2 hpt=>?_) hs
 obtain⟨x,H2,I2,rx,a,C,dx,fs,ex,ea,c,n,l,q2⟩:=hpt
 subst ex
 obtain rfl:ov=Value.ref a:=rx
 exact setattr_ok I2 ea c n l ry fun s3 I3=>⟨σ,_,I3,q2⟩
end
section
variable {X:Cx} {pins:List (Addr×Obj)} {σ:St} {H:Hp} {s:Shared} {A:Around} {E:Value→Shared→Prop} {Q:Value→Shared→Prop} {c:Value} {b:Bool}
end
end L2
namespace L2
open PySem PySem.Spec PyProof.Rows
structure Room (k:Nat) (A:Around):Prop where
 hd:A.handled=none
 dp:A.depth+3 * k+5 <recursionLimit
 un:A.units+16 * k+200 <cLine
theorem Room.mono {j k:Nat} {A:Around} (r:Room k A) (h:j≤k):Room j A:=⟨r.hd,by have:=r.dp;omega,by have:=r.un;omega⟩
theorem Room.deeper {k:Nat} {A:Around} (r:Room (k+1) A) (env:Env):Room k (A.deeper env):=
 ⟨r.hd,by have:=r.dp;show A.depth+1+3 * k+5 <_;omega,by have:=r.un;show A.units+3+16 * k+200 <_;omega⟩
theorem make_depth {A:Around} {C:Addr} {us:List Value} {kw:List (Str×Value)}:(A.under (.builtin "type.__call__" ⟨.ref C:: us,kw⟩)).depth=A.depth+1:=by
 first | rfl | simp [Around.under,Code.weight,Code.isCreation,Code.isGuard,Code.isCaller,Code.frames,Code.isFrame,guardIds]
theorem make_units {A:Around} {C:Addr} {us:List Value} {kw:List (Str×Value)}:(A.under (.builtin "type.__call__" ⟨.ref C:: us,kw⟩)).units=A.units+1:=by
 first | rfl | simp [Around.under,Code.cUnits,Code.frames,Code.isFrame]
theorem Room.make {k:Nat} {A:Around} (r:Room (k+1) A) (C:Addr) (us:List Value) (kw:List (Str×Value)):Room k (A.under (.builtin "type.__call__" ⟨.ref C:: us,kw⟩)):=
 ⟨r.hd,by have:=r.dp;rw [make_depth];omega,by have:=r.un;rw [make_units];omega⟩
theorem Room.depth {k:Nat} {A:Around} (r:Room k A):A.depth <recursionLimit:=by have:=r.dp;omega
theorem Room.units {k:Nat} {A:Around} (r:Room k A):A.units+64 <cLine:=by have:=r.un;omega
def tNil:TA:=fun _ H Q=>Q [] H
def tCons (ta:TE) (tr:TA):TA:=fun σ H Q=>ta σ H fun x H1=>tr σ H1 fun xs H2=>Q (x:: xs) H2
section
variable {X:Cx} {e:Expr} {es:List Expr} {te:TE} {t:TA} {pos:Pos}
theorem ak:PA X [] tNil:=fun _ _ _ _ H Q I h=>Calls.spliced_nil ⟨[],H,I,.nil,h⟩
theorem aa (ha:PE X e te) (hr:PA X es t) (hs:starEach (e:: es) X.env=(false,eval e X.env):: starEach es X.env:=by rfl):PA X (e:: es) (tCons te t):=by
 intro pos pins s σ H Q I h
 rw [hs]
 show wpAny _ _ (spliced ((false,eval e X.env):: backTo pos (starEach es X.env))) _ _ s
 refine Calls.spliced_cons (thn (ha pins s σ H _ I h) fun u s1 hpt=>?_)
 obtain⟨x,H1,I1,r1,q1⟩:=hpt
 exact thn (hr pos pins s1 σ H1 _ I1 q1) fun us s2 ⟨xs,H2,I2,r2,q2⟩=>⟨x:: xs,H2,I2,.cons r1 r2,q2⟩
def tTup (t:TA):TE:=fun σ H Q=>t σ H fun xs H1=>xs.length≤sizeLine∧∀p,H1 p=none→Q (.ref p) (upd H1 p (.tup xs))
def tLst (t:TA):TE:=fun σ H Q=>t σ H fun xs H1=>xs.length≤sizeLine∧∀p,H1 p=none→Q (.ref p) (upd H1 p (.lst xs))
theorem cM {x1} (h:PA X es t):PE X (.Tuple es x1 pos) (tTup t):=by
 intro pins s σ H Q I hq
 refine wpAny_Tuple_spliced (thn (h pos pins s σ H _ I hq) fun us s1 ⟨xs,H1,I1,r,z,q⟩=>⟨by rw [←r.length];exact z,?_⟩)
 have hf:H1 s1.heap.objs.size=none:=I1.hok.fresh (Nat.le_refl _)
 refine⟨.ref s1.heap.objs.size,upd H1 s1.heap.objs.size (.tup xs),I1.laid (t':=s1.toks) (fun b u e=>Heap.get?_push_of_some _ e) (Nat.le_refl _) ?_,rfl,q _ hf⟩
 exact⟨z,us,r,⟨_,Heap.get?_push_size _ rfl,rfl,_,rfl⟩⟩
theorem bh (h:PA X es t):PE X (.List es pos) (tLst t):=by
 intro pins s σ H Q I hq
 refine wpAny_List_spliced (thn (h pos pins s σ H _ I hq) fun us s1 ⟨xs,H1,I1,r,z,q⟩=>⟨by rw [←r.length];exact z,?_⟩)
 have hf:H1 s1.heap.objs.size=none:=I1.hok.fresh (Nat.le_refl _)
 refine⟨.ref s1.heap.objs.size,upd H1 s1.heap.objs.size (.lst xs),I1.laid (t':=s1.toks) (fun b u e=>Heap.get?_push_of_some _ e) (Nat.le_refl _) ?_,rfl,q _ hf⟩
 exact⟨z,us,0,r,Heap.get?_push_size _ rfl⟩
end
abbrev Sp:=List V→Hp→VK→XK→Prop
abbrev CXT:=List Env→Hp→Shared→XK→Value→Shared→Prop
structure Env0 (P:Program) (w:World) (K:PySem.W.Frag) (mg:Str→Option Value) (base:Heap) (A:Around) (outer:List Env) (s:Shared) (H:Hp):Prop where
 frames:A.frames=some outer
 mod:Mod K mg base
 bs:∀b o,base.get? b=some o→s.heap.get? b=some o∧H b=none
 bsz:base.objs.size≤s.heap.objs.size
 funs:s.heap.FunFrames base outer
 frf:∀b∈frs outer,H b=none
 hok:HOk P w H s.heap
 bare:AllBare s.gens
def CE (outer:List Env) (P:Program) (w:World) (H:Hp) (s:Shared) (Q:VK) (u:Value) (s':Shared):Prop:=
 ∃v H',s'.os=s.os∧AllBare s'.gens∧Un (frs outer) [] H H' s.heap s'.heap∧HOk P w H' s'.heap∧RelV v u∧Q v H'
def CR (CX:CXT) (outer:List Env) (P:Program) (w:World) (H:Hp) (s:Shared) (Q:VK) (E:XK) (r:Result) (s':Shared):Prop:=
 match r with
 | .ok (.ret u)=>CE outer P w H s Q u s'
 | .ok _=>False
 | .error e=>CX outer H s E e s'
structure FnOk (P:Program) (w:World) (K:PySem.W.Frag) (mg:Str→Option Value) (base:Heap) (CX:CXT) (k:Nat) (f:Addr) (fd:FuncData) (ps:List Str) (sp:Sp):Prop where
 len:∀vs H Q E,sp vs H Q E→vs.length=ps.length
 run:∀(A:Around) (outer:List Env) (s:Shared) (H:Hp) (args:Args) (us:List Value) (vs:List V) (Q:VK) (E:XK),Room k A→Env0 P w K mg base A outer s H→BindsTo s fd args (ps.zip us)→Vals vs us→sp vs H Q E→
  codeAny (model P w) A (.call (.ref f) args) (CR CX outer P w H s Q E) s
theorem Env0.make {P:Program} {w:World} {K:PySem.W.Frag} {mg:Str→Option Value} {base:Heap} {A:Around} {outer:List Env} {s:Shared} {H:Hp} (e:Env0 P w K mg base A outer s H) (C:Addr) (us:List Value) (kw:List (Str×Value)):
  Env0 P w K mg base (A.under (.builtin "type.__call__" ⟨.ref C:: us,kw⟩)) outer s H:=⟨by first | exact e.frames | (simpa [Around.under,Code.envs,Code.isFrame,pushEnvs] using e.frames),e.mod,e.bs,e.bsz,e.funs,e.frf,e.hok,e.bare⟩
section
variable {X:Cx} {pins:List (Addr×Obj)} {σ:St} {H:Hp} {s s':Shared}
theorem Inv.env0 (I:Inv X pins σ H s):Env0 X.prog X.w X.K X.mg X.base X.A X.stack s H:=
 ⟨I.ok.frames,I.ok.mod,I.bs,Nat.le_trans I.ok.bsz I.sz,I.stack,I.stkFree,I.hok,I.bare⟩
theorem Inv.after {Q:VK} {u:Value} (I:Inv X pins σ H s) (h:CE X.stack X.prog X.w H s Q u s'):EP X pins σ Q u s':=by
 obtain⟨v,H',os,bare,un,hok,r,q⟩:=h
 obtain⟨hh,g,d,t,os'⟩:=s'
 obtain rfl:os'=s.os:=os
 exact⟨v,H',I.call (h':=hh) (g':=g) (d':=d) (t':=t) (ch:=[]) un hok bare (fun b z=>absurd z (by simp)),r,q⟩
end
def tCall (sp:Sp) (dvs:List V) (E:XK) (t:TA):TE:=fun σ H Q=>t σ H fun vs H1=>sp (vs ++ dvs) H1 Q E
def tMeth (C:Addr) (m:Str) (sp:Sp) (dvs:List V) (E:XK) (ta:TE) (t:TA):TE:=fun σ H Q=>ta σ H fun x H1=>∃a dx fs,x=.ref a∧H1 a=some (.ins C dx fs)∧fs.lookup m=none∧
 t σ H1 fun vs H2=>sp (x:: (vs ++ dvs)) H2 Q E
def tMake (C:Addr) (sp:Sp) (dvs:List V) (E:XK) (t:TA):TE:=fun σ H Q=>t σ H fun vs H1=>∀x dx,H1 x=none→H1 dx=none→dx≠x→
 sp (.ref x:: (vs ++ dvs)) (upd (upd H1 dx (.own x)) x (.ins C dx [])) (fun v H2=>v=.non∧Q (.ref x) H2) E
def Binds (K:PySem.W.Frag) (fd:FuncData) (ps:List Str) (ds:List Value):Prop:=
 ∀(s:Shared) (us:List Value),K.In s.heap→(us ++ ds).length=ps.length→BindsTo s fd ⟨us,[]⟩ (ps.zip (us ++ ds))
theorem Binds.all {K:PySem.W.Frag} {fd:FuncData} {ps:List Str} (h:∀us:List Value,us.length=ps.length→bindArgs fd ⟨us,[]⟩=pure (ps.zip us)):Binds K fd ps []:=fun s us _ hl=>by
 rw [List.append_nil] at hl ⊢
 exact .of_eq (h us hl)
def oV (CX:CXT) (X:Cx) (E:XK):Prop:=∀(pins:List (Addr×Obj)) (σ:St) (H:Hp) (s:Shared) (e:Value) (s':Shared),Inv X pins σ H s→CX X.stack H s E e s'→X.xe e s'
section
variable {X:Cx} {CX:CXT} {k:Nat} {f C:Addr} {fd:FuncData} {ps:List Str} {sp:Sp} {dvs:List V} {ds:List Value} {E:XK} {x m:Str} {p pos apos:Pos} {e o:Expr} {es:List Expr} {ta:TE} {t:TA}
theorem run_fn {pins:List (Addr×Obj)} {σ:St} {H:Hp} {s:Shared} {Q:VK} {us:List Value} {vs:List V} (F:FnOk X.prog X.w X.K X.mg X.base CX k f fd ps sp) (hr:Room k X.A) (hb:Binds X.K fd ps ds) (hd:Vals dvs ds) (hx:oV CX X E)
  (I:Inv X pins σ H s) (r:Vals vs us) (h:sp (vs ++ dvs) H Q E):wpAny (model X.prog X.w) X.A (call (.ref f) us) (EP X pins σ Q) X.xe s:=by
 have r2:Vals (vs ++ dvs) (us ++ ds):=r.append hd
 have hl:(us ++ ds).length=ps.length:=by rw [←r2.length];exact F.len _ _ _ _ h
 refine wpAny_call (codeAny_mono (F.run X.A X.stack s H ⟨us,[]⟩ (us ++ ds) (vs ++ dvs) Q E hr I.env0 (hb s us I.kIn hl) r2 h) fun r s' hq=>?_)
 cases r with
 | error e=>exact hx pins σ H s e s' I hq
 | ok fl=>
  cases fl with
  | ret u=>exact I.after hq
  | next=>exact False.elim hq
  | brk=>exact False.elim hq
  | cont=>exact False.elim hq
theorem aH (F:FnOk X.prog X.w X.K X.mg X.base CX k f fd ps sp) (hr:Room k X.A) (hg:Gl X x) (hm:X.mg x=some (.ref f)) (hk:PySem.W.keepIn X.K (.ref f)=true) (hb:Binds X.K fd ps ds) (hd:Vals dvs ds) (hx:oV CX X E)
  (ha:PA X (e:: es) t) (hdb:(x == ("__debug__" :Str))=false:=by decide) (he:starEach (e:: es) X.env=(false,eval e X.env):: starEach es X.env:=by rfl) (hpl:(backTo pos (starEach es X.env)).any (·.1)=false:=by rfl):
  PE X (.Call (.Name x p) (e:: es) [] pos) (tCall sp dvs E t):=by
 intro pins s σ H Q I h
 refine wpAny_Call_Name_kw (tM I hg hm ?_ hdb)
 refine PySem.W.callWith_K (h₀:=X.base) I.ok.mod.kin hk (thn (ha pos pins s σ H _ I h) fun us s1 ⟨vs,H1,I1,r,q⟩=>⟨I1.kIn,?_⟩) he hpl
 exact run_fn F hr hb hd hx I1 r q
theorem xT {pl:Sem Bool} (he:PE X o ta) (c:Cls X.K C) (hm:Meth X.K C m f) (F:FnOk X.prog X.w X.K X.mg X.base CX k f fd ps sp) (hr:Room k X.A) (hb:Binds X.K fd ps ds) (hd:Vals dvs ds) (hx:oV CX X E) (ha:PA X (e:: es) t)
  (hst:starEach (e:: es) X.env=(false,eval e X.env):: starEach es X.env:=by rfl) (hpl:(backTo pos (starEach es X.env)).any (·.1)=false:=by rfl)
  (ht:eval (.Call (.Attribute o m apos) (e:: es) [] pos) X.env=(do
   let ov ←eval o X.env
   standAt apos.atName
   let (f,first) ←holding [ov] (getMethod ov m pl)
   callWith pos f first (backTo pos (starEach (e:: es) X.env)) (backToKw pos (keywordEach [] X.env))):=by rfl):
  PE X (.Call (.Attribute o m apos) (e:: es) [] pos) (tMeth C m sp dvs E ta t):=by
 intro pins s σ H Q I h
 refine PySem.W.methodCall_KW (pl:=pl) (thn (he pins s σ H _ I h) fun u s1 hpt=>?_) ht
 obtain⟨x,H1,I1,rx,a,dx,fs,ex,ea,l,q⟩:=hpt
 subst ex
 obtain rfl:u=Value.ref a:=rx
 refine wZ I1 ea c hm l ?_
 refine PySem.W.callWith_K (first:=[.ref a]) (h₀:=X.base) I.ok.mod.kin hm.kp (thn (ha pos pins s1 σ H1 _ I1 q) fun us s2 ⟨vs,H2,I2,r,q2⟩=>⟨I2.kIn,?_⟩) hst hpl
 exact run_fn (us:=.ref a:: us) (vs:=.ref a:: vs) F hr hb hd hx I2 (.cons rfl r) q2
theorem rm {pl:Sem Bool} (he:PE X o ta) (c:Cls X.K C) (hm:Meth X.K C m f) (F:FnOk X.prog X.w X.K X.mg X.base CX k f fd ps sp) (hr:Room k X.A) (hb:Binds X.K fd ps ds) (hd:Vals dvs ds) (hx:oV CX X E)
  (ht:eval (.Call (.Attribute o m apos) [] [] pos) X.env=(do
   let ov ←eval o X.env
   standAt apos.atName
   let (f,first) ←holding [ov] (getMethod ov m pl)
   callWith pos f first (backTo pos (starEach [] X.env)) (backToKw pos (keywordEach [] X.env))):=by rfl):
  PE X (.Call (.Attribute o m apos) [] [] pos) (tMeth C m sp dvs E ta tNil):=by
 intro pins s σ H Q I h
 refine PySem.W.methodCall_KW (pl:=pl) (thn (he pins s σ H _ I h) fun u s1 hpt=>?_) ht
 obtain⟨x,H1,I1,rx,a,dx,fs,ex,ea,l,q⟩:=hpt
 subst ex
 obtain rfl:u=Value.ref a:=rx
 refine wZ I1 ea c hm l ?_
 exact PySem.W.callWith_K0 (first:=[.ref a]) I1.kIn hm.kp (run_fn (us:=[.ref a]) (vs:=[.ref a]) F hr hb hd hx I1 (.cons rfl .nil) q)
structure Mk (K:PySem.W.Frag) (C f:Addr):Prop where
 makes:PySem.W.makesIn K C=true
 init:PySem.W.findIn K (.ref C) "__init__" =some (some (.ref f))
 fn:PySem.W.isFn K (.ref f)=true
 kp:PySem.W.keepIn K (.ref C)=true
theorem run_make {pins:List (Addr×Obj)} {σ:St} {H:Hp} {s:Shared} {Q:VK} {us:List Value} {vs:List V} (M:Mk X.K C f) (F:FnOk X.prog X.w X.K X.mg X.base CX k f fd ps sp) (hr:Room (k+1) X.A) (hb:Binds X.K fd ps ds) (hd:Vals dvs ds)
  (hx:oV CX X E) (I:Inv X pins σ H s) (r:Vals vs us)
  (h:∀x dx,H x=none→H dx=none→dx≠x→sp (.ref x:: (vs ++ dvs)) (upd (upd H dx (.own x)) x (.ins C dx [])) (fun v H2=>v=.non∧Q (.ref x) H2) E):
  wpAny (model X.prog X.w) X.A (call (.ref C) us) (EP X pins σ Q) X.xe s:=by
 have hq:=h (s.heap.objs.size+1) s.heap.objs.size (I.hok.fresh (Nat.le_succ _)) (I.hok.fresh (Nat.le_refl _)) (Nat.ne_of_lt (Nat.lt_succ_self _))
 have I2:=Inv.made (C:=C) I
 have r2:Vals (V.ref (s.heap.objs.size+1):: (vs ++ dvs)) (Value.ref (s.heap.objs.size+1):: (us ++ ds)):=.cons rfl (r.append hd)
 have hl:(Value.ref (s.heap.objs.size+1):: us ++ ds).length=ps.length:=by
  have e:=r2.length
  rw [F.len _ _ _ _ hq] at e
  exact e.symm
 refine wpAny_call (make_map (f:=f) I.kIn M.makes M.init (beq_iff_eq.mp M.fn) (codeAny_mono (F.run _ X.stack _ _ ⟨Value.ref (s.heap.objs.size+1):: us,[]⟩ (Value.ref (s.heap.objs.size+1):: (us ++ ds)) _ _ E (hr.make C us [])
  (I2.env0.make C us []) (hb _ (Value.ref (s.heap.objs.size+1):: us) I2.kIn hl) r2 hq) fun r s' hq'=>?_))
 cases r with
 | error e=>exact hx pins σ _ _ e s' I2 hq'
 | ok fl=>
  cases fl with
  | ret u=>
   obtain⟨v,H',I3,rv,ev,q3⟩:=I2.after hq'
   subst ev
   exact⟨rv,⟨V.ref (s.heap.objs.size+1),H',I3,rfl,q3⟩⟩
  | next=>exact False.elim hq'
  | brk=>exact False.elim hq'
  | cont=>exact False.elim hq'
theorem iZ (M:Mk X.K C f) (F:FnOk X.prog X.w X.K X.mg X.base CX k f fd ps sp) (hr:Room (k+1) X.A) (hg:Gl X x) (hm:X.mg x=some (.ref C)) (hb:Binds X.K fd ps ds) (hd:Vals dvs ds) (hx:oV CX X E)
  (ha:PA X (e:: es) t) (hdb:(x == ("__debug__" :Str))=false:=by decide) (he:starEach (e:: es) X.env=(false,eval e X.env):: starEach es X.env:=by rfl) (hpl:(backTo pos (starEach es X.env)).any (·.1)=false:=by rfl):
  PE X (.Call (.Name x p) (e:: es) [] pos) (tMake C sp dvs E t):=by
 intro pins s σ H Q I h
 refine wpAny_Call_Name_kw (tM I hg hm ?_ hdb)
 refine PySem.W.callWith_K (h₀:=X.base) I.ok.mod.kin M.kp (thn (ha pos pins s σ H _ I h) fun us s1 ⟨vs,H1,I1,r,q⟩=>⟨I1.kIn,?_⟩) he hpl
 exact run_make M F hr hb hd hx I1 r q
end
section
variable {X:Cx} {CX:CXT} {k:Nat} {f C:Addr} {fd:FuncData} {ps ks:List Str} {sp:Sp} {E:XK} {x m:Str} {p pos apos kpos:Pos} {e o:Expr} {es:List Expr} {kws:List Keyword} {te ta:TE} {t tk:TA} {nm:Option Str}
variable {g:List Value→List Value→List Value} {gV:List V→List V→List V}
end
structure FnScope (N P:List Str) (sc:Scope):Prop where
 kind:sc.kind=.function
 co:sc.isCoroutine=false
 gen:sc.isGenerator=false
 nd:N.Nodup
 pre:N.take P.length=P
 par:∀x∈P,sc.names.lookup x=some .local∨sc.names.lookup x=some .cell
 nofree:∀y∈sc.names,y.2≠.free
theorem bindL_out {kindOf:Str→Option NameKind} {x:Str}:∀{binds:List (Str×Value)} {m:Str→Option Value},(∀v,(x,v)∉binds)→bindL kindOf binds m x=m x
 | [],_,_=>rfl
 | (n,v):: r,m,h=>by
  unfold bindL
  rw [bindL_out fun w hw=>h w (List.mem_cons_of_mem _ hw)]
  split
  ·have:x≠n:=by rintro rfl;exact h v List.mem_cons_self
   simp [this]
  ·rfl
theorem bindC_out {kindOf:Str→Option NameKind} {x:Str}:∀{binds:List (Str×Value)} {m:Str→Option Value},(∀v,(x,v)∉binds)→bindC kindOf binds m x=m x
 | [],_,_=>rfl
 | (n,v):: r,m,h=>by
  unfold bindC
  rw [bindC_out fun w hw=>h w (List.mem_cons_of_mem _ hw)]
  split
  ·rfl
  ·have:x≠n:=by rintro rfl;exact h v List.mem_cons_self
   simp [this]
theorem bindL_get {kindOf:Str→Option NameKind} {x:Str} {v:Value}:∀{P:List Str} {vs:List Value} {i:Nat} {m:Str→Option Value},P.Nodup→P[i]?=some x→vs[i]?=some v→kindOf x=some .local→
  bindL kindOf (P.zip vs) m x=some v
 | [],_,_,_,_,h,_,_=>by simp at h
 | _:: _,[],_,_,_,_,h,_=>by simp at h
 | p:: P,w:: vs,0,m,nd,h1,h2,hk=>by
  simp at h1 h2;subst h1;subst h2
  show bindL kindOf ((p,w):: P.zip vs) m p=_
  unfold bindL
  rw [bindL_out fun v hv=>(List.nodup_cons.mp nd).1 (List.of_mem_zip hv).1,if_pos hk]
  simp
 | p:: P,w:: vs,i+1,m,nd,h1,h2,hk=>by
  show bindL kindOf ((p,w):: P.zip vs) m x=_
  unfold bindL
  exact bindL_get (i:=i) (List.nodup_cons.mp nd).2 (by simpa using h1) (by simpa using h2) hk
theorem bindC_get {kindOf:Str→Option NameKind} {x:Str} {v:Value}:∀{P:List Str} {vs:List Value} {i:Nat} {m:Str→Option Value},P.Nodup→P[i]?=some x→vs[i]?=some v→kindOf x≠some .local→
  bindC kindOf (P.zip vs) m x=some v
 | [],_,_,_,_,h,_,_=>by simp at h
 | _:: _,[],_,_,_,_,h,_=>by simp at h
 | p:: P,w:: vs,0,m,nd,h1,h2,hk=>by
  simp at h1 h2;subst h1;subst h2
  show bindC kindOf ((p,w):: P.zip vs) m p=_
  unfold bindC
  rw [bindC_out fun v hv=>(List.nodup_cons.mp nd).1 (List.of_mem_zip hv).1,if_neg hk]
  simp
 | p:: P,w:: vs,i+1,m,nd,h1,h2,hk=>by
  show bindC kindOf ((p,w):: P.zip vs) m x=_
  unfold bindC
  exact bindC_get (i:=i) (List.nodup_cons.mp nd).2 (by simpa using h1) (by simpa using h2) hk
def start (N:List Str) (vs:List V):St:=vs.map some ++ List.replicate (N.length - vs.length) none
def kI (CX:CXT) (P:Program) (w:World) (K:PySem.W.Frag) (mg:Str→Option Value) (base:Heap) (N:List Str) (qual:Str) (scope:Scope) (f:Addr) (cd:Value) (A:Around) (outer:List Env) (s:Shared) (H:Hp) (E:XK):Cx where
 prog:=P
 w:=w
 K:=K
 mg:=mg
 base:=base
 A:=A.deeper (envOfC qual scope s.heap.objs.size f cd)
 N:=N
 s₀:=s
 H₀:=H
 env:=envOfC qual scope s.heap.objs.size f cd
 outer:=outer
 stack:=envOfC qual scope s.heap.objs.size f cd:: outer
 ex:=[]
 calm:=true
 fn:=fun _=>true
 pn:=[]
 xe:=fun e s'=>wpAny (model P w) (A.deeper (envOfC qual scope s.heap.objs.size f cd)) (leaving (envOfC qual scope s.heap.objs.size f cd) e) (fun _ s''=>CX outer H s E e s'') (fun e' s''=>CX outer H s E e' s'') s'
theorem cell_has {sc:Scope} {n:Nat} {x:Str} (h:sc.names.lookup x=some .cell):∃c,(cellsFrom n sc.names []).lookup x=some c:=by
 have q:=PySem.W.cellsFrom_some sc.names n [] (.inl h)
 exact Option.isSome_iff_exists.mp q
theorem inv_start {CX:CXT} {P:Program} {w:World} {K:PySem.W.Frag} {mg:Str→Option Value} {base:Heap} {N ps:List Str} {qual:Str} {scope:Scope} {f:Addr} {cd:Value} {A:Around} {outer:List Env} {s s1:Shared} {H:Hp} {E:XK} {us:List Value} {vs:List V}
  (S:FnScope N ps scope) (hd:A.handled=none) (e0:Env0 P w K mg base A outer s H) (hl:vs.length=ps.length) (r:Vals vs us)
  (x:InCallC s s.heap.objs.size (bindL (envOfC qual scope s.heap.objs.size f cd).kindOf (ps.zip us) fun _=>none) (cellsFrom (s.heap.objs.size+1) scope.names []) (bindC (envOfC qual scope s.heap.objs.size f cd).kindOf (ps.zip us) fun _=>none) s1):
  Inv (kI CX P w K mg base N qual scope f cd A outer s H E) [] (start N vs) H s1:=by
 have hpl:ps.length≤N.length:=by have:=congrArg List.length S.pre;rw [List.length_take] at this;omega
 obtain⟨h1,tk,rfl,hk⟩:=x.done
 have noA:∀b:Addr,b∉(kI CX P w K mg base N qual scope f cd A outer s H E).ex:=fun b z=>absurd (show b∈([]:List Addr) from z) (by simp)
 refine⟨⟨e0.mod,S.kind,rfl,rfl,Nat.le_refl _,fun y z c h1 h2=>?_,fun y hy=>?_,fun y c _ h=>?_,fun _=>hd,Around.frames_deeper e0.frames,.inr ⟨rfl,rfl⟩,fun b z=>absurd z (noA b),e0.bs,e0.bsz,fun b _ _=>noA b,fun b z=>absurd z (noA b),e0.funs,e0.frf⟩,
  rfl,e0.bare,Un.kept hk,⟨_,x.toInCall.ns,fun i y v h1 h2 h3=>?_⟩,fun y c h=>⟨_,x.cell y c h⟩,e0.hok.fresh (Nat.le_refl _),fun y c h=>?_,fun p hp=>absurd (show p∈([]:List (Addr×Obj)) from hp) (by simp),e0.hok.kept hk,?_⟩
 ·exact name_of_addr x.apart (PySem.mem_of_lookup h1) (PySem.mem_of_lookup h2)
 ·have hy:scope.names.lookup y=some .cell∨scope.names.lookup y=some .free:=hy
  rcases hy with hy | hy
  ·exact cell_has hy
  ·exact absurd rfl (S.nofree _ (PySem.mem_of_lookup hy))
 ·exact Nat.le_of_lt (x.above y c (PySem.mem_of_lookup h))
 ·have hi:i <vs.length:=by
   unfold start at h2
   by_cases hi:i <vs.length
   ·exact hi
   ·rw [List.getElem?_append_right (by simpa using hi)] at h2
    rw [List.getElem?_replicate] at h2
    split at h2 <;> cases h2
  have ha:vs[i]?=some v:=by
   unfold start at h2
   rw [List.getElem?_append_left (by simpa using hi),List.getElem?_map] at h2
   cases e:vs[i]? with
   | none=>rw [e] at h2;cases h2
   | some a=>rw [e] at h2;cases h2;rfl
  obtain⟨u,hu,rv⟩:=r.get ha
  have hp:ps[i]?=some y:=by
   rw [←S.pre,List.getElem?_take_of_lt (by omega)];exact h1
  have ndP:ps.Nodup:=by rw [←S.pre];exact S.nd.sublist (List.take_sublist _ _)
  refine⟨u,rv,?_⟩
  rcases S.par y (List.mem_of_getElem? hp) with k | k
  ·exact .inl ⟨k,bindL_get ndP hp hu k⟩
  ·obtain⟨c,e⟩:=cell_has (n:=s.heap.objs.size+1) k
   refine .inr ⟨.inl k,c,e,?_⟩
   have q:=x.cell y c e
   rw [bindC_get ndP hp hu (by show scope.names.lookup y≠_;rw [k];decide)] at q
   exact q
 ·exact e0.hok.fresh (Nat.le_of_lt (x.above y c (PySem.mem_of_lookup h)))
 ·unfold start
  show _=N.length
  rw [List.length_append,List.length_map,List.length_replicate]
  omega
theorem fn_of {CX:CXT} {P:Program} {w:World} {K:PySem.W.Frag} {mg:Str→Option Value} {base:Heap} {k:Nat} {f:Addr} {name qual:Str} {params:Arguments} {body:List Stmt} {scope:Scope} {dV kV doc pm cdv ct oc:Value} {an od:Option Addr}
  {osl:Array (Option Value)} {N ps:List Str} {sp:Sp} (lk:K.lookup f=some ⟨oc,od,.func (PySem.W.fnOf name qual params body scope dV kV doc pm an cdv ct),osl⟩) (hcd:PySem.W.codeIn K cdv qual=true) (S:FnScope N ps scope)
  (len:∀vs H Q E,sp vs H Q E→vs.length=ps.length)
  (hbody:∀(A:Around) (outer:List Env) (s:Shared) (H:Hp) (vs:List V) (Q:VK) (E:XK),Room k (A.deeper (envOfC qual scope s.heap.objs.size f cdv))→sp vs H Q E→
   ∃t,PSs (kI CX P w K mg base N qual scope f cdv A outer s H E) body t∧t { nx:=fun _ H'=>Q .non H',rt:=Q } (start N vs) H):
  FnOk P w K mg base CX (k+1) f (PySem.W.fnOf name qual params body scope dV kV doc pm an cdv ct) ps sp:=by
 refine⟨len,fun A outer s H args us vs Q E hr e0 hb r hsp=>?_⟩
 have hl:=len _ _ _ _ hsp
 have KX:K.In s.heap:=e0.mod.kin.keeps fun b o e=>(e0.bs b o e).1
 have lim:s.heap.NoLimit:=e0.mod.nolimit.keeps fun b o e=>(e0.bs b o e).1
 have hkind:∀y∈ps.zip us,scope.names.lookup y.1=some .local∨(scope.names.lookup y.1=some .cell∧((cellsFrom (s.heap.objs.size+1) scope.names []).lookup y.1).isSome=true):=fun⟨n,v⟩ hy=>by
  rcases S.par n (List.of_mem_zip hy).1 with q | q
  ·exact .inl q
  ·exact .inr ⟨q,PySem.W.cellsFrom_some _ _ _ (.inl q)⟩
 refine codeAny_call_function hr.depth (KX _ _ lk) rfl S.co S.gen rfl (PySem.W.codeRec_of KX hcd) (hb _ _ _ _ ?_)
 refine wpAny_newFunctionEnv_cells S.kind hkind fun env he s1 x=>?_
 subst he
 refine⟨lim.keeps x.toInCall.keep,codeAny_func ?_⟩
 obtain⟨t,ht,hq⟩:=hbody A outer s H vs Q E (hr.deeper _) hsp
 have I:Inv (kI CX P w K mg base N qual scope f cdv A outer s H E) [] (start N vs) H s1:=inv_start S hr.hd e0 hl r x
 refine wpAny_mono (ht [] s1 (start N vs) H _ I hq) (fun fl s' hs=>?_) fun e s' hs=>hs
 have fin:∀{σ':St} {H':Hp} {v:V} {u:Value},Inv (kI CX P w K mg base N qual scope f cdv A outer s H E) [] σ' H' s'→RelV v u→Q v H'→CE outer P w H s Q u s':=
  fun {σ' H' v u} J rv q=>⟨v,H',J.os,J.bare,J.base,J.hok,rv,q⟩
 cases fl with
 | ret u=>
  obtain⟨v,σ',H',J,rv,q⟩:=hs
  exact fin J rv q
 | next=>
  obtain⟨σ',H',J,q⟩:=hs
  exact fin (v:=V.non) (u:=Value.none) J rfl q
 | brk=>
  obtain⟨_,_,_,q⟩:=hs
  exact False.elim q
 | cont=>
  obtain⟨_,_,_,q⟩:=hs
  exact False.elim q
end L2
namespace L2
open PySem PySem.Spec PyProof.Rows
section
variable {X:Cx} {x:Str} {p pos:Pos} {e:Expr} {es:List Expr} {t:TA} {id T:String} {r:List V→Hp→VK→Prop}
def tCB (r:List V→Hp→VK→Prop) (t:TA):TE:=fun σ H Q=>t σ H fun vs H1=>r vs H1 Q
theorem bI (hc:qm X (.builtin id) r) (hg:Gl X x) (hm:X.mg x=none) (hv:bootBuiltins x=some (.builtin id)) (ha:PA X (e:: es) t) (hn:x≠ "__name__" :=by decide) (hdb:(x == ("__debug__" :Str))=false:=by decide)
  (he:starEach (e:: es) X.env=(false,eval e X.env):: starEach es X.env:=by rfl) (hpl:(backTo pos (starEach es X.env)).any (·.1)=false:=by rfl):PE X (.Call (.Name x p) (e:: es) [] pos) (tCB r t):=by
 intro pins s σ H Q I h
 refine wpAny_Call_Name_kw (zU I hg hm hv ?_ hn hdb)
 exact PyProof.Rows.callWith_builtin1 (thn (ha pos pins s σ H _ I h) fun us s1 ⟨vs,H1,I1,r1,q1⟩=>hc pins s1 σ H1 vs us Q I1 r1 q1) he hpl
theorem fC (hc:qm X (.type T) r) (hg:Gl X x) (hm:X.mg x=none) (hv:bootBuiltins x=some (.type T)) (ha:PA X (e:: es) t) (hn:x≠ "__name__" :=by decide) (hdb:(x == ("__debug__" :Str))=false:=by decide)
  (he:starEach (e:: es) X.env=(false,eval e X.env):: starEach es X.env:=by rfl) (hpl:(backTo pos (starEach es X.env)).any (·.1)=false:=by rfl):PE X (.Call (.Name x p) (e:: es) [] pos) (tCB r t):=by
 intro pins s σ H Q I h
 refine wpAny_Call_Name_kw (zU I hg hm hv ?_ hn hdb)
 exact PyProof.Rows.callWith_type1 (thn (ha pos pins s σ H _ I h) fun us s1 ⟨vs,H1,I1,r1,q1⟩=>hc pins s1 σ H1 vs us Q I1 r1 q1) he hpl
end
end L2
namespace HT
open PySem PyProof.Rows
section
open PySem.SeqAt
open PySem.AutoSeq1 (wpAny_loadPart')
open PySem.MeetsSeq PySem.MeetsSeq2 PySem.MeetsSeq3
end
section
variable {prog:Program} {w:World} {A:Around} {E:Value→Shared→Prop} {s:Shared}
def sIx (n d:Nat):Option Int→Nat
 | none=>d
 | some v=>if v <0 then(v+(n:Int)).toNat else min v.toNat n
theorem sIx_none (n d:Nat):sIx n d none=d:=rfl
theorem vG (n d k:Nat):sIx n d (some (k:Int))=min k n:=by
 show(if (k:Int) <0 then((k:Int)+(n:Int)).toNat else min (k:Int).toNat n)=min k n
 rw [if_neg (by omega),Int.toNat_natCast]
end
end HT
namespace L2
open PySem PySem.Spec PyProof.Rows
abbrev TO:=St→Hp→(Option Int→Hp→Prop)→Prop
def PO (X:Cx) (e:Option Expr) (t:TO):Prop:=
 ∀(pins:List (Addr×Obj)) (s:Shared) (σ:St) (H:Hp) (Q:Option Int→Hp→Prop),Inv X pins σ H s→t σ H Q→
  wpAny (model X.prog X.w) X.A (evalPart e X.env) (fun u s'=>∃o H',Inv X pins σ H' s'∧IsPart u o∧Q o H') X.xe s
def tNoPart:TO:=fun _ H Q=>Q none H
def tPart (t:TE):TO:=fun σ H Q=>t σ H fun x H1=>∃i,x=.int i∧Q (some i) H1
section
variable {X:Cx} {e:Expr} {te:TE} {lo hi:Option Expr} {tl th:TO} {pos p2:Pos}
theorem rU:PO X none tNoPart:=by
 intro pins s σ H Q I h
 rw [evalPart_none]
 exact wpAny_pure ⟨none,H,I,.none,h⟩
theorem d8 (h:PE X e te):PO X (some e) (tPart te):=by
 intro pins s σ H Q I hw
 rw [evalPart_some]
 refine thn (h pins s σ H _ I hw) fun u s1 hpt=>?_
 obtain⟨x,H1,I1,r1,q1⟩:=hpt
 obtain⟨i,rfl,q⟩:=q1
 obtain⟨t,rfl⟩:=r1
 exact⟨some i,H1,I1,.int i t,q⟩
def SlR (X:Cx) (r:V→Option Int→Option Int→Hp→VK→Prop):Prop:=
 ∀(pins:List (Addr×Obj)) (s:Shared) (σ:St) (H:Hp) (x:V) (v vl vu:Value) (lo hi:Option Int) (sl:Addr) (Q:VK),Inv X pins σ H s→RelV x v→s.heap.IsSliceOf sl vl vu .none→IsPart vl lo→IsPart vu hi→r x lo hi H Q→
  ∃T id,typeLookup (.type T) "__getitem__" =pure (some (.builtin id))∧s.TypeIs v T∧wpAny (model X.prog X.w) X.A (getItem v (.ref sl)) (EP X pins σ Q) X.xe s
def tSl (r:V→Option Int→Option Int→Hp→VK→Prop) (te:TE) (tl th:TO):TE:=fun σ H Q=>te σ H fun x H1=>tl σ H1 fun l H2=>th σ H2 fun u H3=>r x l u H3 Q
theorem fL {r:V→Option Int→Option Int→Hp→VK→Prop} (hr:SlR X r) (he:PE X e te) (hl:PO X lo tl) (hu:PO X hi th):PE X (.Subscript e (.Slice lo hi none p2) pos) (tSl r te tl th):=by
 intro pins s σ H Q I h
 refine Subscript_ (thn (he pins s σ H _ I h) fun v s1 hpt=>?_)
 obtain⟨x,H1,I1,r1,q1⟩:=hpt
 refine wpAny_Slice (thn (hl pins s1 σ H1 _ I1 q1) fun vl s2 ⟨l,H2,I2,pl,q2⟩=>thn (hu pins s2 σ H2 _ I2 q2) fun vu s3 hpt=>?_)
 obtain⟨u,H3,I3,pu,q3⟩:=hpt
 rw [evalPart_none]
 refine wpAny_pure ?_
 have I4:Inv X pins σ H3 { s3 with heap:=s3.heap.push { cls:=.type "slice",data:=.fields #[vl,vu,.none] } }:=I3.kept (t':=s3.toks) fun b ob q=>Heap.get?_push_of_some _ q
 obtain⟨T,id,hT,ht,hg⟩:=hr pins { s3 with heap:=s3.heap.push { cls:=.type "slice",data:=.fields #[vl,vu,.none] } } σ H3 x v vl vu l u s3.heap.objs.size Q I4 r1 (Heap.IsSliceOf.new ..) pl pu q3
 show wpAny (model X.prog X.w) X.A (subscriptTail e (.Slice lo hi none p2) v (.ref s3.heap.objs.size)) (EP X pins σ Q) X.xe { s3 with heap:=s3.heap.push { cls:=.type "slice",data:=.fields #[vl,vu,.none] } }
 exact tail_any (ops:=[.ref s3.heap.objs.size,v]) ht hT hg (by with_unfolding_all rfl)
def oU (xs:List V) (lo hi:Option Int):List V:=(xs.drop (HT.sIx xs.length 0 lo)).take (HT.sIx xs.length xs.length hi - HT.sIx xs.length 0 lo)
theorem cutV_length (xs:List V) (lo hi:Option Int):(oU xs lo hi).length≤xs.length:=by
 unfold oU
 rw [List.length_take,List.length_drop]
 omega
end
end L2
namespace L2
open PySem PySem.Spec PyProof.Rows
def ixN (n:Nat) (i:Int):Option Nat:=if 0≤i then(if i <n then some i.toNat else none) else if -(n:Int)≤i then some (i+n).toNat else none
def atI {α:Type} (xs:List α) (i:Int):Option α:=(ixN xs.length i).bind fun j=>xs[j]?
theorem ixN_seq {n:Nat} {i:Int} {j:Nat} (h:ixN n i=some j):seqIndex? i n=some j∧j <n∧ -(n:Int)≤i∧i <n:=by
 unfold ixN at h
 by_cases h0:0≤i
 ·rw [if_pos h0] at h
  by_cases h1:i <n
  ·rw [if_pos h1] at h
   have e:i.toNat=j:=Option.some.inj h
   exact⟨by rw [seqIndex_of h0 h1,e],by omega,by omega,h1⟩
  ·rw [if_neg h1] at h;cases h
 ·rw [if_neg h0] at h
  by_cases h1: -(n:Int)≤i
  ·rw [if_pos h1] at h
   have e:(i+n).toNat=j:=Option.some.inj h
   exact⟨by rw [seqIndex_neg (by omega) h1,e],by omega,h1,by omega⟩
  ·rw [if_neg h1] at h;cases h
theorem atI_get {α:Type} {xs:List α} {i:Int} {v:α} (h:atI xs i=some v):∃j,seqIndex? i xs.length=some j∧xs[j]?=some v∧j <xs.length∧ -(xs.length:Int)≤i∧i <xs.length:=by
 unfold atI at h
 cases e:ixN xs.length i with
 | none=>rw [e] at h;cases h
 | some j=>
  rw [e] at h
  obtain⟨h1,h2,h3,h4⟩:=ixN_seq e
  exact⟨j,h1,h,h2,h3,h4⟩
theorem aQ {α:Type} {xs:List α} {j:Nat} {v:α} (h:xs[j]?=some v):atI xs (j:Int)=some v:=by
 have hj:j <xs.length:=(List.getElem?_eq_some_iff.mp h).1
 have e:ixN xs.length (j:Int)=some j:=by
  unfold ixN
  rw [if_pos (by omega),if_pos (by omega)];simp
 unfold atI;rw [e];exact h
def PlainIx (b:Expr):Prop:=∀o i,subscripted b false o i=operate [o,i] (getItem o i)
def IxR (X:Cx) (r:R2):Prop:=
 ∀(value slice:Expr) (pins:List (Addr×Obj)) (s:Shared) (σ:St) (H:Hp) (x y:V) (v u:Value) (Q:VK),Inv X pins σ H s→RelV x v→RelV y u→r x y H Q→
  subscripted slice false v u=operate [v,u] (getItem v u)→wpAny (model X.prog X.w) X.A (subscriptTail value slice v u) (EP X pins σ Q) X.xe s
def MtR (X:Cx) (id:String) (r:V→List V→Hp→VK→Prop):Prop:=
 ∀(pins:List (Addr×Obj)) (s:Shared) (σ:St) (H:Hp) (x:V) (xs:List V) (v:Value) (us:List Value) (Q:VK),Inv X pins σ H s→RelV x v→Vals xs us→r x xs H Q→
  wpAny (model X.prog X.w) X.A (call (.builtin id) (v:: us)) (EP X pins σ Q) X.xe s
section
variable {X:Cx} {a b:Expr} {ta tb:TE} {pos:Pos}
theorem bG {r:R2} (hr:IxR X r) (ha:PE X a ta) (hb:PE X b tb) (hs:PlainIx b):PE X (.Subscript a b pos) (tOp r ta tb):=by
 intro pins s σ H Q I h
 exact Subscript_ (binT ha hb I h fun v u s2 x y H2 I2 rx ry q=>hr a b pins s2 σ H2 x y v u Q I2 rx ry q (hs _ _))
def rIxL (K:PySem.W.Frag):R2:=fun x y H Q=>∃p xs i v,x=.ref p∧y=.int i∧SqL K H p xs∧atI xs i=some v∧Q v H
def rIxT (K:PySem.W.Frag):R2:=fun x y H Q=>∃p xs i v,x=.ref p∧y=.int i∧SqT K H p xs∧atI xs i=some v∧Q v H
def rIxS:R2:=fun x y H Q=>∃z i c,x=.str z∧y=.int i∧z.length≤sizeLine∧atI z.cps.toList i=some c∧Q (.str ⟨#[c]⟩) H
theorem bN:IxR X (rIxL X.K):=by
 intro value slice pins s σ H x y v u Q I rx ry h hs
 obtain⟨p,xs,i,z,rfl,rfl,hq,he,q⟩:=h
 cases rx
 obtain⟨t,rfl⟩:=ry
 obtain⟨its,r,pl,hz⟩:=I.list hq
 obtain⟨j,h1,h2,h3,h4,h5⟩:=atI_get he
 obtain⟨w,ew,rw'⟩:=r.get h2
 have hl:=r.length
 have hn:=line63
 have fin:EP X pins σ Q w s:=⟨z,H,I,rw',q⟩
 by_cases h0:0≤i
 ·have hj:i.toNat=j:=by
   rw [seqIndex_of h0 h5] at h1
   exact Option.some.inj h1
  exact item_listR pl.isList h0 (by omega) (by rw [hj];simpa using ew) fin hs
 ·have hj:(i+(its.toArray.size:Int)).toNat=j:=by
   rw [seqIndex_neg (by omega) h4] at h1
   rw [List.size_toArray,←hl]
   exact Option.some.inj h1
  exact subscriptTail_builtinR (x:=w) pl.isList.typeIs slot_list_getitem.lookup
   (wpAny_getItem_list_neg (Q:=fun r s'=>r=w∧EP X pins σ Q r s') pl.isList (by omega) (by rw [List.size_toArray] <;> omega) (by omega) (by rw [hj];simpa using ew) ⟨rfl,fin⟩) hs
theorem dW:IxR X (rIxT X.K):=by
 intro value slice pins s σ H x y v u Q I rx ry h hs
 obtain⟨p,xs,i,z,rfl,rfl,hq,he,q⟩:=h
 cases rx
 obtain⟨t,rfl⟩:=ry
 obtain⟨its,r,pl,hz⟩:=I.tuple hq
 obtain⟨j,h1,h2,h3,h4,h5⟩:=atI_get he
 obtain⟨w,ew,rw'⟩:=r.get h2
 have hl:=r.length
 have hn:=line63
 have fin:EP X pins σ Q w s:=⟨z,H,I,rw',q⟩
 exact subscriptTail_builtinR (x:=w) pl.typeIs slot_tuple_getitem.lookup
  (getItem_tuple (j:=j) (Q:=fun r s'=>r=w∧EP X pins σ Q r s') pl (by omega) (by omega) (by rw [List.size_toArray,←hl];exact h1) (by simpa using ew) ⟨rfl,fin⟩) hs
theorem Ak:IxR X rIxS:=by
 intro value slice pins s σ H x y v u Q I rx ry h hs
 obtain⟨z,i,c,rfl,rfl,hz,he,q⟩:=h
 obtain⟨t,rfl⟩:=rx
 obtain⟨t',rfl⟩:=ry
 obtain⟨j,h1,h2,h3,h4,h5⟩:=atI_get he
 have hl:z.cps.toList.length=z.length:=by simp [Str.length]
 rw [hl] at h1 h4 h5
 have hn:=line63
 exact tail_any (typeIs_str s z t) slot_str_getitem.lookup (getItem_str (c:=c) (by
  have e1:decide (i < -(2 ^ 63:Int))=false:=decide_eq_false (by omega)
  have e2:decide (i≥2 ^ 63)=false:=decide_eq_false (by omega)
  rw [e1,e2,Bool.or_false]) (by rw [h1];simpa using h2) ⟨.str ⟨#[c]⟩,H,I.tok _,⟨_,rfl⟩,q⟩) hs
theorem slice_bounds (lo hi:Option Int) (n:Nat):(sliceBounds lo hi none n).1=((HT.sIx n 0 lo:Nat):Int)∧(sliceBounds lo hi none n).2.1=((HT.sIx n n hi:Nat):Int)∧(sliceBounds lo hi none n).2.2=1:=by
 refine⟨?_,?_,rfl⟩
 ·cases lo with
  | none=>simp [sliceBounds,HT.sIx]
  | some i=>
   simp only [sliceBounds,HT.sIx,Option.getD_none,show(1:Int) >0 by decide,if_true]
   by_cases h:i <0
   ·simp only [h,if_true] <;> omega
   ·simp only [h,if_false] <;> omega
 ·cases hi with
  | none=>simp [sliceBounds,HT.sIx]
  | some i=>
   simp only [sliceBounds,HT.sIx,Option.getD_none,show(1:Int) >0 by decide,if_true]
   by_cases h:i <0
   ·simp only [h,if_true] <;> omega
   ·simp only [h,if_false] <;> omega
theorem slicePick_cut (its:List Value) (lo hi:Option Int):slicePick its.toArray lo hi none=((its.drop (HT.sIx its.length 0 lo)).take (HT.sIx its.length its.length hi - HT.sIx its.length 0 lo)).toArray:=by
 obtain⟨h1,h2,h3⟩:=slice_bounds lo hi its.toArray.size
 unfold slicePick
 rw [h1,h2,h3]
 simp only [sliceRange_one,pick_run,List.size_toArray] <;> rfl
def rSlL (K:PySem.W.Frag):V→Option Int→Option Int→Hp→VK→Prop:=fun x lo hi H Q=>∃a xs,x=.ref a∧SqL K H a xs∧∀p,H p=none→Q (.ref p) (upd H p (.lst (oU xs lo hi)))
theorem lg:SlR X (rSlL X.K):=by
 intro pins s σ H x v vl vu lo hi sl Q I rx hs pl pu h
 obtain⟨a,xs,rfl,hx,q⟩:=h
 cases rx
 obtain⟨its,r,ht,hz⟩:=I.list hx
 have hlen:=r.length
 refine⟨"list",_,slot_list_getitem.lookup,ht.isList.typeIs,?_⟩
 refine wpAny_getItem_list_slice ht.isList hs pl pu .none (by simp) ?_ (by rw [List.size_toArray] <;> omega)
 rw [slicePick_cut,←hlen]
 refine⟨.ref s.heap.objs.size,_,I.laid (t':=s.toks) (o:=.lst (oU xs lo hi)) (fun b ob q=>Heap.get?_push_of_some _ q) (Nat.le_refl _) ?_,rfl,q _ (I.hok.fresh (Nat.le_refl _))⟩
 exact⟨Nat.le_trans (cutV_length xs lo hi) hz,_,0,(r.drop (HT.sIx xs.length 0 lo)).take (HT.sIx xs.length xs.length hi - HT.sIx xs.length 0 lo),Heap.get?_push_size _ rfl⟩
def ud:V→Bool
 | .non=>true
 | .bl _=>true
 | .int _=>true
 | .str _=>true
 | _=>false
def eqV:V→V→Bool
 | .non,.non=>true
 | .bl a,.bl b=>a == b
 | .bl a,.int b=>(if a then 1 else 0) == b
 | .int a,.bl b=>a == (if b then 1 else 0)
 | .int a,.int b=>a == b
 | .str a,.str b=>a == b
 | _,_=>false
theorem eqAt_V {A:Around} {s:Shared} {y x:V} {u v:Value} (ry:RelV y u) (rx:RelV x v) (fy:ud y=true) (fx:ud x=true):SeqAt.EqAt A s u v (eqV y x):=by
 cases y with
 | non=>
  cases ry
  cases x with
  | non=>cases rx;exact SeqAt.EqAt.same _
  | bl b=>cases rx;exact SeqAt.EqAt.none_bool b
  | int b=>obtain⟨t,rfl⟩:=rx;exact SeqAt.EqAt.none_int b t
  | str b=>obtain⟨t,rfl⟩:=rx;exact SeqAt.EqAt.none_str b t
  | _=>exact absurd (show false=true from fx) Bool.false_ne_true
 | bl a=>
  cases ry
  cases x with
  | non=>cases rx;exact SeqAt.EqAt.bool_none a
  | bl b=>cases rx;exact SeqAt.EqAt.bool_bool a b
  | int b=>obtain⟨t,rfl⟩:=rx;exact SeqAt.EqAt.bool_int a b t
  | str b=>obtain⟨t,rfl⟩:=rx;exact SeqAt.EqAt.bool_str a b t
  | _=>exact absurd (show false=true from fx) Bool.false_ne_true
 | int a=>
  obtain⟨t',rfl⟩:=ry
  cases x with
  | non=>cases rx;exact SeqAt.EqAt.int_none a t'
  | bl b=>cases rx;exact SeqAt.EqAt.int_bool a t' b
  | int b=>obtain⟨t,rfl⟩:=rx;exact SeqAt.EqAt.int_int a t' b t
  | str b=>obtain⟨t,rfl⟩:=rx;exact SeqAt.EqAt.int_str a t' b t
  | _=>exact absurd (show false=true from fx) Bool.false_ne_true
 | str a=>
  obtain⟨t',rfl⟩:=ry
  cases x with
  | non=>cases rx;exact SeqAt.EqAt.str_none a t'
  | bl b=>cases rx;exact SeqAt.EqAt.str_bool a t' b
  | int b=>obtain⟨t,rfl⟩:=rx;exact SeqAt.EqAt.str_int a t' b t
  | str b=>obtain⟨t,rfl⟩:=rx;exact SeqAt.EqAt.str_str a t' b t
  | _=>exact absurd (show false=true from fx) Bool.false_ne_true
 | _=>exact absurd (show false=true from fy) Bool.false_ne_true
def eqU (x:V) (u:Value):Bool:=match u with
 | .none=>eqV .non x
 | .bool b=>eqV (.bl b) x
 | .int i _=>eqV (.int i) x
 | .str z _=>eqV (.str z) x
 | _=>false
theorem eqU_of {x y:V} {u:Value} (r:RelV y u) (f:ud y=true):eqU x u=eqV y x:=by
 cases y with
 | non=>cases r;rfl
 | bl b=>cases r;rfl
 | int i=>obtain⟨t,rfl⟩:=r;rfl
 | str z=>obtain⟨t,rfl⟩:=r;rfl
 | _=>exact absurd (show false=true from f) Bool.false_ne_true
theorem xW {x:V}:∀{xs:List V} {us:List Value},Vals xs us→xs.all ud=true→us.any (eqU x)=xs.any fun y=>eqV y x
 | _,_,.nil,_=>rfl
 | y:: xs,u:: us,.cons r t,f=>by
  rw [List.all_cons,Bool.and_eq_true] at f
  rw [List.any_cons,List.any_cons,eqU_of r f.1,xW t f.2]
theorem ux {A:Around} {s:Shared} {x:V} {v:Value} (rx:RelV x v) (fx:ud x=true):∀{xs:List V} {us:List Value},Vals xs us→xs.all ud=true→∀u∈us,SeqAt.EqAt A s u v (eqU x u)
 | _,_,.nil,_=>fun u hu=>by cases hu
 | y:: xs,u:: us,.cons r t,f=>fun u' hu=>by
  rw [List.all_cons,Bool.and_eq_true] at f
  rcases List.mem_cons.mp hu with rfl | hu
  ·rw [eqU_of r f.1];exact eqAt_V r rx f.1 fx
  ·exact ux rx fx t f.2 u' hu
def inV (x:V) (xs:List V):Bool:=xs.any fun y=>eqV y x
def rIn (K:PySem.W.Frag) (neg:Bool):R2:=fun x y H Q=>∃p xs,y=.ref p∧(SqL K H p xs∨SqT K H p xs)∧ud x=true∧xs.all ud=true∧Q (.bl (if neg then !inV x xs else inV x xs)) H
theorem op_in_seq:OpR X (compareOp .In) (rIn X.K false):=by
 intro pins s σ H x y v u Q I rx ry h
 obtain⟨p,xs,rfl,hq,fx,fs,q⟩:=h
 cases ry
 rcases hq with hq | hq
 ·obtain⟨its,r,pl,hz⟩:=I.list hq
  refine SeqAt.in_listAt (eqU x) pl.isList (fun w hw=>ux rx fx r fs w (by simpa using hw)) ⟨.bl _,H,I,rfl,?_⟩
  rw [show its.toArray.any (eqU x)=its.any (eqU x) by simp,xW r fs]
  exact q
 ·obtain⟨its,r,pl,hz⟩:=I.tuple hq
  refine SeqAt.in_tupleAt (eqU x) pl (fun w hw=>ux rx fx r fs w (by simpa using hw)) ⟨.bl _,H,I,rfl,?_⟩
  rw [show its.toArray.any (eqU x)=its.any (eqU x) by simp,xW r fs]
  exact q
theorem xJ:OpR X (compareOp .NotIn) (rIn X.K true):=by
 intro pins s σ H x y v u Q I rx ry h
 obtain⟨p,xs,rfl,hq,fx,fs,q⟩:=h
 cases ry
 rcases hq with hq | hq
 ·obtain⟨its,r,pl,hz⟩:=I.list hq
  refine SeqAt.notIn_listAt (eqU x) pl.isList (fun w hw=>ux rx fx r fs w (by simpa using hw)) ⟨.bl _,H,I,rfl,?_⟩
  rw [show its.toArray.any (eqU x)=its.any (eqU x) by simp,xW r fs]
  exact q
 ·obtain⟨its,r,pl,hz⟩:=I.tuple hq
  refine SeqAt.notIn_tupleAt (eqU x) pl (fun w hw=>ux rx fx r fs w (by simpa using hw)) ⟨.bl _,H,I,rfl,?_⟩
  rw [show its.toArray.any (eqU x)=its.any (eqU x) by simp,xW r fs]
  exact q
theorem call_list_of:qm X (.type "list") (fun xs H Q=>∃p ys,xs=[.ref p]∧(SqL X.K H p ys∨SqT X.K H p ys)∧∀l,H l=none→Q (.ref l) (upd H l (.lst ys))):=by
 intro pins s σ H xs us Q I r h
 obtain⟨p,ys,rfl,hq,q⟩:=h
 obtain⟨u,rfl,rx⟩:=vals1 r
 cases rx
 have fin:∀(its:List Value),Vals ys its→ys.length≤sizeLine→∀(h':Heap) (c':Nat),(∀b o',s.heap.get? b=some o'→h'.get? b=some o')→
   h'.get? s.heap.objs.size=some { cls:=.type "list",dict:=none,data:=.seq its.toArray c',slots:=#[] }→EP X pins σ Q (.ref s.heap.objs.size) { s with heap:=h' }:=fun its r' hz h' c' kp e=>
  ⟨.ref s.heap.objs.size,_,I.laid (t':=s.toks) kp (Nat.le_refl _) (show dO X.prog X.w _ h' _ (.lst ys) from⟨hz,its,c',r',e⟩),rfl,q _ (I.hok.fresh (Nat.le_refl _))⟩
 rcases hq with hq | hq
 ·obtain⟨its,r',pl,hz⟩:=I.list hq
  have hlen:=r'.length
  obtain⟨o,ho,hc,n,hd⟩:=pl.isList
  exact call_list_seq p (.inl rfl) ho hc hd (fun h' c' kp e=>fin its r' hz h' c' kp e) (by simp only [List.size_toArray] <;> omega)
 ·obtain⟨its,r',pl,hz⟩:=I.tuple hq
  have hlen:=r'.length
  obtain⟨o,ho,hc,n,hd⟩:=pl
  exact call_list_seq p (.inr rfl) ho hc hd (fun h' c' kp e=>fin its r' hz h' c' kp e) (by simp only [List.size_toArray] <;> omega)
theorem call_tuple_of:qm X (.type "tuple") (fun xs H Q=>∃p ys,xs=[.ref p]∧((SqL X.K H p ys∧∀l,H l=none→Q (.ref l) (upd H l (.tup ys)))∨(SqT X.K H p ys∧Q (.ref p) H))):=by
 intro pins s σ H xs us Q I r h
 obtain⟨p,ys,rfl,h⟩:=h
 obtain⟨u,rfl,rx⟩:=vals1 r
 cases rx
 rcases h with ⟨hq,q⟩ | ⟨hq,q⟩
 ·obtain⟨its,r',pl,hz⟩:=I.list hq
  have hlen:=r'.length
  refine call_tuple_list pl.isList (fun h' kp=>?_) (by simp only [List.size_toArray] <;> omega)
  have I1:Inv X pins σ H { s with heap:=h' }:=I.kept (t':=s.toks) kp
  have I2:Inv X pins σ (upd H h'.objs.size (.tup ys)) { s with heap:=h'.push { cls:=.type "tuple",data:=.seq its.toArray } }:=
   I1.laid (t':=s.toks) (fun b o e=>Heap.get?_push_of_some _ e) (Nat.le_refl _) (show dO X.prog X.w _ _ _ (.tup ys) from⟨hz,its,r',IsTup.new _ _⟩)
  exact⟨.ref h'.objs.size,_,I2,rfl,q _ (I1.hok.fresh (Nat.le_refl _))⟩
 ·obtain⟨its,r',pl,hz⟩:=I.tuple hq
  exact call_tuple_same pl ⟨.ref p,H,I,rfl,q⟩
def tyV (K:PySem.W.Frag) (T:String) (x:V) (H:Hp):Prop:=match x with
 | .str _=>T= "str"
 | .int _=>T= "int"
 | .ref p=>(T= "list" ∧∃xs,SqL K H p xs)∨(T= "tuple" ∧∃o,K.lookup p=some o∧o.cls=.type "tuple" ∧o.dict=none)∨
   (T= "dict" ∧((∃kvs,H p=some (.dK kvs))∨∃kvs,H p=some (.dT kvs)))∨(T= "set" ∧∃S n,H p=some (.set S n))
 | _=>False
theorem tyV_is {pins:List (Addr×Obj)} {σ:St} {H:Hp} {s:Shared} {T:String} {x:V} {v:Value} (I:Inv X pins σ H s) (r:RelV x v) (ty:tyV X.K T x H):
  s.TypeIs v T∧∀a,v=.ref a→∃ob,s.heap.get? a=some ob∧ob.dict=none:=by
 cases x with
 | str z=>
  obtain⟨t,rfl⟩:=r
  cases (show T= "str" from ty)
  exact⟨typeIs_str s z t,fun _ e=>nomatch e⟩
 | int i=>
  obtain⟨t,rfl⟩:=r
  cases (show T= "int" from ty)
  exact⟨typeIs_int s i t,fun _ e=>nomatch e⟩
 | ref p=>
  cases r
  rcases ty with ⟨rfl,xs,hq⟩ | ⟨rfl,o,hk,hc,hd⟩ | ⟨rfl,hk⟩ | ⟨rfl,S,n,hk⟩
  ·obtain⟨its,_,pl,_⟩:=I.list hq
   refine⟨pl.isList.typeIs,fun a e=>?_⟩
   cases e
   obtain⟨o,n,e,c,hd,_⟩:=pl
   exact⟨o,e,hd⟩
  ·refine⟨⟨o,I.kIn p o hk,hc⟩,fun a e=>?_⟩
   cases e
   exact⟨o,I.kIn _ o hk,hd⟩
  ·have z:∃o,s.heap.get? p=some o∧o.ExactDict:=by
    rcases hk with ⟨kvs,hk⟩ | ⟨kvs,hk⟩
    ·obtain⟨_,_,_,_,o,_,_,e,ex,_⟩:=I.hok p _ hk
     exact⟨o,e,ex⟩
    ·obtain⟨_,_,_,_,o,_,_,e,ex,_⟩:=I.hok p _ hk
     exact⟨o,e,ex⟩
   obtain⟨o,e,ex⟩:=z
   refine⟨⟨o,e,ex.1⟩,fun a e2=>?_⟩
   cases e2
   exact⟨o,e,ex.2.1⟩
  ·obtain⟨o,_,_,_,e,ex,_⟩:=I.hok p _ hk
   refine⟨⟨o,e,ex.1⟩,fun a e2=>?_⟩
   cases e2
   exact⟨o,e,ex.2.1⟩
 | _=>exact False.elim ty
def tBM0 (K:PySem.W.Frag) (T:String) (r:V→List V→Hp→VK→Prop) (to:TE):TE:=fun σ H Q=>to σ H fun x H1=>tyV K T x H1∧r x [] H1 Q
def tBM (K:PySem.W.Frag) (T:String) (r:V→List V→Hp→VK→Prop) (to:TE) (t:TA):TE:=fun σ H Q=>to σ H fun x H1=>tyV K T x H1∧t σ H1 fun xs H2=>r x xs H2 Q
variable {o e:Expr} {es:List Expr} {to:TE} {t:TA} {name:Str} {apos cpos:Pos} {T id:String} {r:V→List V→Hp→VK→Prop}
theorem pe_bm0 (pa:PlainAttrs T) (slot:Slot T name id) (hty:typeOf (.builtin id)=pure (.type "method_descriptor")) (hm:MtR X id r) (ho:PE X o to)
  (hbase:attributeBase o name X.env (eval o X.env)=eval o X.env:=by rfl) (hline:(apos.endLine == cpos.line)=true:=by rfl):PE X (.Call (.Attribute o name apos) [] [] cpos) (tBM0 X.K T r to):=by
 intro pins s σ H Q I h
 refine wpAny_Call_method0_late hbase hline (thn (ho pins s σ H _ I h) fun v s1 hpt=>?_)
 obtain⟨x,H1,I1,r1,ty,q1⟩:=hpt
 obtain⟨h1,h2⟩:=tyV_is I1 r1 ty
 exact⟨T,id,pa,slot,hty,h1,h2,Calls.callWith_builtin rfl (PySem.evalArgs_none (hm pins s1 σ H1 x [] v [] Q I1 r1 .nil q1))⟩
theorem ir (pa:PlainAttrs T) (slot:Slot T name id) (hty:typeOf (.builtin id)=pure (.type "method_descriptor")) (hm:MtR X id r) (ho:PE X o to) (ha:PA X (e:: es) t)
  (hbase:attributeBase o name X.env (eval o X.env)=eval o X.env:=by rfl)
  (hfew:((backTo cpos (starEach (e:: es) X.env)).all (fun x=>!x.1) && (backToKw cpos (keywordEach [] X.env)).all (fun x=>x.1.isSome)
   && decide ((e:: es).length+([]:List Keyword).length+(if ([]:List Keyword).isEmpty then 0 else 1) <30))=true:=by rfl)
  (hline:(apos.endLine == cpos.line)=true:=by rfl) (hs:starEach (e:: es) X.env=(false,eval e X.env):: starEach es X.env:=by rfl) (hplain:(backTo cpos (starEach es X.env)).any (·.1)=false:=by rfl):
  PE X (.Call (.Attribute o name apos) (e:: es) [] cpos) (tBM X.K T r to t):=by
 intro pins s σ H Q I h
 refine wpAny_Call_method_late hbase hfew hline rfl (thn (ho pins s σ H _ I h) fun v s1 hpt=>?_)
 obtain⟨x,H1,I1,r1,ty,q1⟩:=hpt
 obtain⟨h1,h2⟩:=tyV_is I1 r1 ty
 refine⟨T,id,pa,slot,hty,h1,h2,?_⟩
 have hA:=ha cpos pins s1 σ H1 _ I1 q1
 rw [hs] at hA ⊢
 refine Calls.callWith_builtin (by show(false || (backTo cpos (starEach es X.env)).any (·.1))=false;rw [hplain] <;> rfl) (Calls.evalArgs_plain ?_)
 exact thn hA fun us s2 ⟨vs,H2,I2,r2,q2⟩=>hm pins s2 σ H2 x vs v us Q I2 r1 r2 q2
end
end L2
namespace L2
open PySem PySem.Spec PyProof.Rows
def MtM (X:Cx) (id:String) (r:V→List V→Hp→VK→Prop):Prop:=
 ∀(pins:List (Addr×Obj)) (s:Shared) (σ:St) (H:Hp) (x:V) (xs:List V) (v:Value) (us:List Value) (Q:VK),Inv X pins σ H s→RelV x v→Vals xs us→r x xs H Q→
  wpAny (model X.prog X.w) X.A (call (.builtin id) (v:: us)) (EP X pins σ Q) X.xe s
theorem Vals.one:∀{x:V} {us:List Value},Vals [x] us→∃u,us=[u]∧RelV x u
 | _,_,.cons r .nil=>⟨_,rfl,r⟩
theorem Vals.zero:∀{us:List Value},Vals [] us→us=[]
 | _,.nil=>rfl
theorem Vals.dropLast {xs:List V} {us:List Value} (h:Vals xs us):Vals xs.dropLast us.dropLast:=by
 induction h with
 | nil=>exact .nil
 | cons r t ih=>
  cases t with
  | nil=>exact .nil
  | cons q t'=>exact .cons r ih
theorem Vals.eraseIdx:∀{xs:List V} {us:List Value} (i:Nat),Vals xs us→Vals (xs.eraseIdx i) (us.eraseIdx i)
 | _,_,_,.nil=>.nil
 | _,_,0,.cons _ t=>t
 | _,_,i+1,.cons r t=>.cons r (Vals.eraseIdx i t)
theorem erase_last {α:Type} (l:List α):l.eraseIdx (l.length - 1)=l.dropLast:=by
 induction l with
 | nil=>rfl
 | cons a r ih=>
  cases r with
  | nil=>rfl
  | cons b r=>
   have e:(a:: b:: r).length - 1=((b:: r).length - 1)+1:=by
    have h1:(a:: b:: r).length=r.length+2:=rfl
    have h2:(b:: r).length=r.length+1:=rfl
    omega
   rw [e,List.eraseIdx_cons_succ,ih]
   all_goals rfl
theorem len_erase {α:Type}:∀(l:List α) (i:Nat),(l.eraseIdx i).length≤l.length
 | [],_=>Nat.le_refl _
 | _:: _,0=>Nat.le_succ _
 | _:: r,i+1=>Nat.succ_le_succ (len_erase r i)
section
variable {X:Cx} {pins:List (Addr×Obj)} {σ:St} {H:Hp} {s:Shared} {l b:Addr} {xs ys zs:List V}
theorem Inv.lset {its its':List Value} {n:Nat} {f:Array Value→Array Value} {t':Nat} (I:Inv X pins σ H s) (hH:H l=some (.lst xs))
  (e:s.heap.get? l=some { cls:=.type "list",data:=.seq its.toArray n }) (hf:f its.toArray=its'.toArray) (hv:Vals ys its') (hz:ys.length≤sizeLine):
  Inv X pins σ (upd H l (.lst ys)) { s with heap:=s.heap.update l (Obj.mapSeq f),toks:=t' }:=by
 have q:=PySem.IsL.update e f
 rw [hf] at q
 refine I.write (x:=l) (e:=l) (by rw [hH];exact trivial) (.inl rfl) (fun b' u hb hu=>(Heap.get?_update_other s.heap (Obj.mapSeq f) (Ne.symm hb)).trans hu) ⟨_,q⟩ ?_
 exact⟨hz,its',_,hv,q⟩
theorem Inv.lnew {its:List Value} {t':Nat} (I:Inv X pins σ H s) (hv:Vals ys its) (hz:ys.length≤sizeLine):
  Inv X pins σ (upd H s.heap.objs.size (.lst ys)) { s with heap:=s.heap.push { cls:=.type "list",data:=.seq its.toArray },toks:=t' }:=
 I.laid (fun _ _ q=>Heap.get?_push_of_some _ q) (Nat.le_refl _) ⟨hz,its,0,hv,Heap.get?_push_size _ rfl⟩
theorem Inv.fresh (I:Inv X pins σ H s):H s.heap.objs.size=none:=I.hok.fresh (Nat.le_refl _)
theorem Inv.lstM (I:Inv X pins σ H s) (hH:H l=some (.lst xs)):xs.length≤sizeLine∧∃(its:List Value) (n:Nat),Vals xs its∧xs.length=its.length∧s.heap.get? l=some { cls:=.type "list",data:=.seq its.toArray n }:=by
 obtain⟨z,its,n,r,e⟩:=I.hok l _ hH
 exact⟨z,its,n,r,r.length,e⟩
theorem notLongL {n:Nat} (h:n≤sizeLine):Builtin.List.listTooLong n=false:=by
 unfold Builtin.List.listTooLong
 exact decide_eq_false (by omega)
end
section
variable {X:Cx}
def rAppend:V→List V→Hp→VK→Prop:=fun x vs H Q=>∃l xs y,x=.ref l∧vs=[y]∧H l=some (.lst xs)∧xs.length <sizeLine∧Q .non (upd H l (.lst (xs ++ [y])))
theorem dh:MtM X "list.append" rAppend:=by
 intro pins s σ H x vs v us Q I rx rv h
 obtain⟨l,xs,y,rfl,rfl,hH,hz,q⟩:=h
 cases rx
 obtain⟨u,rfl,ru⟩:=rv.one
 obtain⟨z,its,n,r,hl,e⟩:=I.lstM hH
 refine call_meets F.slot_list_append ⟨_,e,rfl⟩ F.entry_list_append (F.args_list_append_2 _ _) (PySem.list_append l its.toArray n u (by rw [List.size_toArray];omega)) ⟨e,?_⟩
 refine⟨.non,_,I.lset (its':=its ++ [u]) hH e (by simp) (r.append (.cons ru .nil)) ?_,rfl,q⟩
 rw [List.length_append,List.length_singleton]
 omega
def rExtend:V→List V→Hp→VK→Prop:=fun x vs H Q=>∃l b xs zs,x=.ref l∧vs=[.ref b]∧H l=some (.lst xs)∧H b=some (.lst zs)∧xs.length+zs.length≤sizeLine∧Q .non (upd H l (.lst (xs ++ zs)))
theorem mt_extend:MtM X "list.extend" rExtend:=by
 intro pins s σ H x vs v us Q I rx rv h
 obtain⟨l,b,xs,zs,rfl,rfl,hH,hB,hz,q⟩:=h
 cases rx
 obtain⟨u,rfl,ru⟩:=rv.one
 cases ru
 obtain⟨z,its,n,r,hl,e⟩:=I.lstM hH
 obtain⟨z2,its2,n2,r2,hl2,e2⟩:=I.lstM hB
 have hsz:its.toArray.size+its2.toArray.size≤sizeLine:=by rw [List.size_toArray,List.size_toArray];omega
 have hlong:¬(!its.toArray.isEmpty && Builtin.List.listTooLong (its.toArray.size+its2.toArray.size))=true:=by
  rw [notLongL hsz,Bool.and_false]
  exact Bool.false_ne_true
 refine call_meets F.slot_list_extend ⟨_,e,rfl⟩ F.entry_list_extend (F.args_list_extend_2 _ _)
  (AutoSeq1.list_extend_list_list_0 l its.toArray n b its2.toArray n2 hlong (by rw [List.size_toArray];omega) (by omega)) ⟨e,e2,?_⟩
 refine⟨.non,_,I.lset (its':=its ++ its2) hH e (by simp) (r.append r2) ?_,rfl,q⟩
 rw [List.length_append]
 omega
def rPop:V→List V→Hp→VK→Prop:=fun x vs H Q=>∃l xs y,x=.ref l∧vs=[]∧H l=some (.lst xs)∧xs[xs.length - 1]?=some y∧Q y (upd H l (.lst xs.dropLast))
theorem mt_pop:MtM X "list.pop" rPop:=by
 intro pins s σ H x vs v us Q I rx rv h
 obtain⟨l,xs,y,rfl,rfl,hH,hy,q⟩:=h
 cases rx
 have hus:=rv.zero
 subst hus
 obtain⟨z,its,n,r,hl,e⟩:=I.lstM hH
 obtain⟨u,hu,ru⟩:=r.get hy
 have hy':its.toArray[its.toArray.size - 1]?=some u:=by
  show its.toArray[its.length - 1]?=some u
  rw [←Array.getElem?_toList,←hl]
  exact hu
 refine call_meets F.slot_list_pop ⟨_,e,rfl⟩ F.entry_list_pop (F.args_list_pop_1 _) (MeetsSeq.list_pop_last l its.toArray n u hy' (by rw [List.size_toArray];omega)) ⟨e,?_⟩
 refine⟨y,_,I.lset (its':=its.dropLast) hH e ?_ r.dropLast ?_,ru,q⟩
 ·show its.toArray.eraseIdxIfInBounds (its.toArray.size - 1)=its.dropLast.toArray
  rw [List.size_toArray,List.eraseIdxIfInBounds_toArray,erase_last]
 ·rw [List.length_dropLast]
  omega
def rPopAt:V→List V→Hp→VK→Prop:=fun x vs H Q=>∃l xs i k y,x=.ref l∧vs=[.int i]∧H l=some (.lst xs)∧ -(2 ^ 63)≤i∧i <2 ^ 63∧seqIndex? i xs.length=some k∧xs[k]?=some y∧Q y (upd H l (.lst (xs.eraseIdx k)))
theorem Am:MtM X "list.pop" rPopAt:=by
 intro pins s σ H x vs v us Q I rx rv h
 obtain⟨l,xs,i,k,y,rfl,rfl,hH,h1,h2,hk,hy,q⟩:=h
 cases rx
 obtain⟨u,rfl,ru⟩:=rv.one
 obtain⟨t,rfl⟩:=ru
 obtain⟨z,its,n,r,hl,e⟩:=I.lstM hH
 obtain⟨w,hw,rw'⟩:=r.get hy
 refine call_meets F.slot_list_pop ⟨_,e,rfl⟩ F.entry_list_pop (F.args_list_pop_2 _ _)
  (MeetsSeq.list_pop_at l its.toArray n i t k w (fitsIndex_both h1 h2) (by rw [List.size_toArray,←hl];exact hk) (by rw [←Array.getElem?_toList];exact hw) (by rw [List.size_toArray];omega)) ⟨e,?_⟩
 refine⟨y,_,I.lset (its':=its.eraseIdx k) hH e ?_ (r.eraseIdx k) ?_,rw',q⟩
 ·show its.toArray.eraseIdxIfInBounds k=(its.eraseIdx k).toArray
  rw [List.eraseIdxIfInBounds_toArray]
 ·have:=len_erase xs k
  omega
def rCat:R2:=fun x y H Q=>∃l b xs zs,x=.ref l∧y=.ref b∧H l=some (.lst xs)∧H b=some (.lst zs)∧xs.length+zs.length≤sizeLine∧∀p,H p=none→Q (.ref p) (upd H p (.lst (xs ++ zs)))
theorem op_cat:OpR X (binaryOp .Add) rCat:=by
 intro pins s σ H x y v u Q I rx ry h
 obtain⟨l,b,xs,zs,rfl,rfl,hH,hB,hz,q⟩:=h
 cases rx
 cases ry
 obtain⟨z,its,n,r,hl,e⟩:=I.lstM hH
 obtain⟨z2,its2,n2,r2,hl2,e2⟩:=I.lstM hB
 refine PySem.P.add_list e e2 ?_ (by rw [List.size_toArray,List.size_toArray];omega)
 have ea:its.toArray ++ its2.toArray=(its ++ its2).toArray:=by simp
 rw [ea]
 exact⟨.ref _,_,I.lnew (t':=s.toks) (r.append r2) (by rw [List.length_append];omega),rfl,q _ I.fresh⟩
end
section
variable {prog:Program} {w:World} {A:Around} {E:Value→Shared→Prop} {s:Shared}
end
section
variable {X:Cx}
end
end L2
namespace Att
open PySem PySem.W PySem.Calls PyProof.Rows
theorem ints_of_wellAll {P:Params} {h:Heap}:∀(ns:List Int) (vs:List Value),WellAll P h vs (ns.map WData.int)→IntsAre vs ns:=by
 intro ns
 induction ns with
 | nil=>
  intro vs w
  rw [List.map_nil] at w
  cases w
  exact .nil
 | cons n ns ih=>
  intro vs w
  rw [List.map_cons] at w
  cases w with
  | cons a b=>
   cases a
   exact .cons _ _ (ih _ b)
theorem script_of {l:OpenLaw} {n:Nat} (hn:l.most=some n) {P:Params} {h:Heap} {args:List WData} {vals:List Value}
  (hpre:l.row.toRowW.claim.pre args=true) (hwl:WellAll P h vals args):
  ∃a vs ns,vals=[Value.ref a]∧args=[WData.list (ns.map WData.int)]∧h.get? a=some { cls:=.type "list",data:=.seq vs.toArray }∧IntsAre vs ns∧ns.length≤n:=by
 have hsh:WShape.hasAll [] args [.list .int]=true:=(pre_splitW hpre).1
 have hc:l.pre.holds [] { args:=args }=true:=(pre_splitW hpre).2
 obtain⟨d,r,rfl,h1,h2⟩:=hasAllW_cons hsh
 obtain rfl:=hasAllW_nil h2
 obtain⟨xs,rfl,h3⟩:=hasW_list h1
 obtain⟨ns,rfl⟩:=items_int h3
 have hlen:ns.length≤n:=by
  unfold OpenLaw.pre at hc
  have h4:(WTm.not (.lt (.lit (.int (n:Int))) (.len (.arg 0)))).holds [] { args:=[.list (ns.map .int)] }=true:=by
   have h4:=(holds_andW hc).1
   rw [hn] at h4
   exact h4
  have h5:=condW_of h4 (w_not (w_lt w_lit (w_len_list (w_arg rfl))))
  rw [List.length_map] at h5
  refine Nat.le_of_not_lt fun q=>?_
  have q':(n:Int) <((ns.length:Nat):Int):=by omega
  first
   | (rw [decide_eq_true q'] at h5;exact absurd h5 (by decide))
   | (simp at h5;omega)
 cases hwl with
 | cons w1 w2=>
  cases w2
  cases w1 with
  | list ho hall=>exact⟨_,_,ns,rfl,rfl,ho,ints_of_wellAll ns _ hall,hlen⟩
theorem post_true (l:OpenLaw) (args:List WData):l.row.toRowW.claim.post args (.bool true) args=true:=
 postW_of (r:=l.row.toRowW) (X:=(true == true))
  (show WShape.has [] (.bool true) .bool=true by first | rfl | decide | simp [WShape.has,WShape.arms,WShape.armsAll])
  (show(WTm.eq .res (.lit (.bool true))).value [] { args:=args,res:=some (.bool true),after:=args }=some (.bool (true == true)) from w_eq_bool (w_res rfl) w_lit) rfl
theorem attach_call {l:OpenLaw} {n:Nat} {q:Program} {loose:List Str} {XP:(Str→Option Value)→Heap→Prop} {YP:World→Heap→Prop} {d:DefRec}
  (hn:l.most=some n) (hdf:d.params.defaults=[])
  (call:∀(w:World) (s₀ s₁:Shared) (mg mb:Str→Option Value) (fa:Addr) (o:Obj) (pm cd doc:Value) (a:Addr) (vs:List Value) (ns:List Int),
   Ground q loose [] XP w s₀ mg mb s₁.heap→YP w s₁.heap→
   s₁.heap.get? fa=some o→o.data=.func (docDef d.name d.params d.body d.scope pm cd doc)→s₁.heap.CodeRec cd d.name→mg d.name=some (.ref fa)→
   s₁.heap.get? a=some { cls:=.type "list",data:=.seq vs.toArray }→IntsAre vs ns→ns.length≤n→s₁.gens= #[]→
   codeAny (model l.prog w) callerA (.call (.ref fa) ⟨[.ref a],[]⟩) (fun r s'=>r=.ok (.ret (.bool true))∧OldK s₁.heap s'.heap∧s'.os=s₁.os∧AllBare s'.gens) s₁):
  WalkO q loose XP YP l.row.toRowW d [] (fun f vs=>PySem.call f vs):=by
 intro w s₀ s₁ mg mb G Y fa o pm cd doc dV kV ho hd hcd hD hmg hg args vals as hpre hlay hrd hwl hlo
 obtain rfl:dV=.none:=Dflts.none hD hdf
 obtain rfl:kV=.none:=Dflts.noKw hD
 obtain⟨a,vs,ns,rfl,rfl,hobj,hints,hlen⟩:=script_of hn hpre hwl
 refine enter_call (codeAny_mono (call w s₀ s₁ mg mb fa o pm cd doc a vs ns G Y ho (fd_plain hd) hcd hmg hobj hints hlen hg) fun r s' hq=>?_)
 obtain⟨rfl,h2,h3,h4⟩:=hq
 exact⟨.inl ⟨.bool true,.bool true,[],rfl,fun _=>rfl,.bool true,post_true l _,fun _=>⟨List.Pairwise.nil,fun _ hm=>(nomatch hm)⟩⟩,h2,h3,h4⟩
section
variable {prog:Program} {w:World} {A:Around} {E:Value→Shared→Prop} {s:Shared} {K:Frag}
end
end Att
namespace L2
open PySem PySem.Spec PyProof.Rows
theorem vals_ints:∀{vs:List Value} {ns:List Int},IntsAre vs ns→Vals (ns.map V.int) vs
 | _,_,.nil=>.nil
 | _,_,.cons n t h=>.cons ⟨t,rfl⟩ (vals_ints h)
def Only (H:Hp):Prop:=∀b,H b=none∨∃o xs,H b=some (.frz o (.lst xs))
theorem law_call {P:Program} {w:World} {K:PySem.W.Frag} {mg mb:Str→Option Value} {CX:CXT} {k:Nat} {fa a:Addr} {fd:FuncData} {x:Str} {sp:Sp} {s₁:Shared} {vs:List Value} {ns:List Int}
  (KX:K.In s₁.heap) (hns:s₁.heap.Ns mainGlobals mg) (hb:s₁.heap.Ns builtinsNs mb) (hbb:∀x:Str,x≠ "__name__" →mb x=bootBuiltins x) (hlim:s₁.heap.NoLimit) (hg:s₁.gens= #[])
  (ha:s₁.heap.get? a=some { cls:=.type "list",data:=.seq vs.toArray }) (hi:IntsAre vs ns) (hl:ns.length≤sizeLine) (hr:Room k callerA)
  (F:∀base:Heap,K.In base→base.Ns mainGlobals mg→FnOk P w K mg base CX k fa fd [x] sp) (hbind:∀(s:Shared) (u:Value),BindsTo s fd ⟨[u],[]⟩ [(x,u)])
  (hsp:∀H:Hp,Only H→SqL K H a (ns.map V.int)→sp [.ref a] H (fun v _=>v=.bl true) fun _ _ _=>False)
  (hCX:∀H e s',CX [] H s₁ (fun _ _ _=>False) e s'→False):
  codeAny (model P w) callerA (.call (.ref fa) ⟨[.ref a],[]⟩) (fun r s'=>r=.ok (.ret (.bool true))∧OldK s₁.heap s'.heap∧s'.os=s₁.os∧AllBare s'.gens) s₁:=by
 have rv:=vals_ints hi
 have lenV:=hi.length
 have core:∀H:Hp,Only H→SqL K H a (ns.map V.int)→HOk P w H s₁.heap→(∀b,H b≠none→b=a)→(H a≠none→K.lookup a=none)→
   codeAny (model P w) callerA (.call (.ref fa) ⟨[.ref a],[]⟩) (fun r s'=>r=.ok (.ret (.bool true))∧OldK s₁.heap s'.heap∧s'.os=s₁.os∧AllBare s'.gens) s₁:=by
  intro H hO hS hok hA hK
  have base_of:∀{b:Addr} {o:Obj},s₁.heap.get? b=some o→H b=none→(hidT s₁.heap H).get? b=some o:=fun e n=>hidT_get e n
  have noA:∀{b:Addr} {o:Obj} {es:Array DictEntry} {ep:Nat},s₁.heap.get? b=some o→o.data=.dict es ep→H b=none:=fun {b o es ep} e d=>by
   cases q:H b with
   | none=>rfl
   | some u=>
    have e':b=a:=hA b (by rw [q];simp)
    subst e'
    rw [ha] at e;cases e
    have d':Data.seq vs.toArray _=Data.dict es ep:=d
    cases d'
  have nsK:∀{b:Addr} {m:Str→Option Value},s₁.heap.Ns b m→(hidT s₁.heap H).Ns b m:=fun {b m} ⟨o,es,ep,e,d,r⟩=>⟨o,es,ep,base_of e (noA e d),d,r⟩
  have hKb:K.In (hidT s₁.heap H):=fun b o e=>base_of (KX b o e) (by
   cases q:H b with
   | none=>rfl
   | some u=>
    have e':b=a:=hA b (by rw [q];simp)
    subst e'
    rw [hK (by rw [q];simp)] at e;cases e)
  have hM:Mod K mg (hidT s₁.heap H):=⟨hKb,nsK hns,⟨mb,nsK hb,hbb⟩,let ⟨mc,h1,h2⟩:=hlim;⟨mc,nsK h1,h2⟩⟩
  have e0:Env0 P w K mg (hidT s₁.heap H) callerA [] s₁ H:=⟨rfl,hM,fun b o e=>of_hidT e,Nat.le_of_eq (hidT_size _ _),trivial,fun b hb=>absurd (show b∈([]:List Addr) from hb) (by simp),hok,.of_eq hg⟩
  refine codeAny_mono ((F _ hKb (nsK hns)).run callerA [] s₁ H ⟨[.ref a],[]⟩ [.ref a] [.ref a] _ _ hr e0 (hbind s₁ (.ref a)) (.cons rfl .nil) (hsp H hO hS)) fun r s' h=>?_
  cases r with
  | error e=>exact(hCX H e s' h).elim
  | ok fl=>
   cases fl with
   | next=>exact False.elim h
   | brk=>exact False.elim h
   | cont=>exact False.elim h
   | ret u=>
    obtain⟨v,H',os,bare,un,hok',r',q⟩:=h
    have q':v=.bl true:=q
    subst q'
    obtain rfl:u=Value.bool true:=r'
    refine⟨rfl,OldK.of_keep fun b o e=>?_,os,bare⟩
    cases q:H b with
    | none=>exact un.keep b o e q (by intro z;exact absurd (show b∈([]:List Addr) from z) (by simp)) (by simp)
    | some u=>
     rcases hO b with z | ⟨ob,xs,z⟩
     ·rw [q] at z;cases z
     ·have z2:=un.frzs b ob _ z
      obtain⟨e1,_⟩:=hok b _ z
      obtain⟨e2,_⟩:=hok' b _ z2
      rw [e] at e1;cases e1
      exact e2
 cases hk:K.lookup a with
 | some o=>
  have e:=KX a o hk
  rw [ha] at e
  cases e
  refine core (fun _=>none) (fun _=>.inl rfl) (.inr ⟨_,vs.toArray,_,hk,rfl,rfl,rfl,by rw [List.size_toArray,lenV];exact hl,by simpa using rv⟩) (fun b u z=>by have z':(none:Option HO)=some u:=z;cases z') (fun b z=>absurd rfl z) fun z=>absurd rfl z
 | none=>
  refine core (fun b=>if b=a then some (.frz { cls:=.type "list",data:=.seq vs.toArray } (.lst (ns.map V.int))) else none) (fun b=>?_) (.inl (.inr ⟨{ cls:=.type "list",data:=.seq vs.toArray },if_pos rfl⟩)) (fun b u z=>?_) (fun b z=>?_) fun _=>hk
  ·by_cases hb:b=a
   ·exact .inr ⟨_,_,if_pos hb⟩
   ·exact .inl (if_neg hb)
  ·by_cases hb:b=a
   ·have z':=(if_pos hb).symm.trans z
    cases z'
    subst hb
    exact⟨ha,by rw [List.length_map];exact hl,vs,_,rv,ha⟩
   ·have z':=(if_neg hb).symm.trans z
    cases z'
  ·by_cases hb:b=a
   ·exact hb
   ·exact absurd (if_neg hb) z
end L2
namespace L2
open PySem PySem.Spec PyProof.Rows
theorem walk_of {l:PySem.W.OpenLaw} {n k:Nat} {q:Program} {loose:List Str} {XP:(Str→Option Value)→Heap→Prop} {YP:World→Heap→Prop} {d:DefRec} {K:Params→PySem.W.Frag} {CX:World→CXT} {sp:World→Sp} {x:Str}
  (hn:l.most=some n) (hn2:n≤sizeLine) (hdf:d.params.defaults=[]) (hr:Room k callerA)
  (hY:∀(w:World) (h:Heap),YP w h→(K w.params).In h)
  (F:∀(w:World) (mg:Str→Option Value) (fa:Addr) (h:Heap),(K w.params).In h→h.Ns mainGlobals mg→mg d.name=some (.ref fa)→
   ∃fd:FuncData,(∀(s:Shared) (u:Value),BindsTo s fd ⟨[u],[]⟩ [(x,u)])∧
    ∀base:Heap,(K w.params).In base→base.Ns mainGlobals mg→FnOk l.prog w (K w.params) mg base (CX w) k fa fd [x] (sp w))
  (hsp:∀(w:World) (H:Hp) (a:Addr) (ns:List Int),ns.length≤n→Only H→SqL (K w.params) H a (ns.map V.int)→sp w [.ref a] H (fun v _=>v=.bl true) fun _ _ _=>False)
  (hCX:∀(w:World) (H:Hp) (s:Shared) (e:Value) (s':Shared),CX w [] H s (fun _ _ _=>False) e s'→False):
  PySem.W.WalkO q loose XP YP l.row.toRowW d [] (fun f vs=>PySem.call f vs):=by
 refine Att.attach_call hn hdf fun w s₀ s₁ mg mb fa o pm cd doc a vs ns G Y ho hd hcd hmg hobj hints hlen hg=>?_
 have KX:=hY w _ Y
 obtain⟨fd,hb,hF⟩:=F w mg fa _ KX G.T.g hmg
 exact law_call KX G.T.g G.T.b G.T.builtins G.T.nolimit hg hobj hints (Nat.le_trans hlen hn2) hr hF hb (fun H hO hS=>hsp w H a ns hlen hO hS) fun H e s'=>hCX w H s₁ e s'
end L2
namespace L2
open PySem PySem.Spec PyProof.Rows
def inClass (s:Stmt) (j:Nat):Stmt:=match s with
 | .ClassDef _ _ _ body _ _ _ _ _ _ _=>body.getD j (.Pass ⟨0,0,0,0⟩)
 | _=>.Pass ⟨0,0,0,0⟩
def aX (s:Stmt):Arguments:=match s with
 | .FunctionDef _ a _ _ _ _ _ _ _ _=>a
 | _=>{ posonlyargs:=[],args:=[],vararg:=none,kwonlyargs:=[],kw_defaults:=[],kwarg:=none,defaults:=[] }
def aU (s:Stmt):List Stmt:=match s with
 | .FunctionDef _ _ b _ _ _ _ _ _ _=>b
 | _=>[]
def aA (s:Stmt):Scope:=match s with
 | .FunctionDef _ _ _ _ _ _ sc _ _ _=>sc
 | _=>{ kind:=.function,names:=[],isGenerator:=false,isCoroutine:=false }
abbrev CX0:CXT:=fun _ _ _ _ _ _=>False
abbrev E0:XK:=fun _ _ _=>False
theorem aN {X:Cx}:oV CX0 X E0:=fun _ _ _ _ _ _ _ h=>h.elim
structure Fun (K:PySem.W.Frag) (x qual:Str) (st:Stmt) (f:Addr) (fd:FuncData):Prop where
 ex:∃(oc:Value) (od:Option Addr) (kV doc pm:Value) (an:Option Addr) (cdv ct:Value) (osl:Array (Option Value)),
  fd=PySem.W.fnOf x qual (aX st) (aU st) (aA st) .none kV doc pm an cdv ct∧K.lookup f=some ⟨oc,od,.func fd,osl⟩∧PySem.W.codeIn K cdv qual=true
 kp:PySem.W.keepIn K (.ref f)=true
section
variable {P:Program} {w:World} {K:PySem.W.Frag} {mg:Str→Option Value} {base:Heap}
theorem Fun.ok {x qual:Str} {st:Stmt} {f:Addr} {fd:FuncData} {N ps:List Str} {k:Nat} {sp:Sp} (F:Fun K x qual st f fd) (S:FnScope N ps (aA st)) (len:∀vs H Q E,sp vs H Q E→vs.length=ps.length)
  (hbody:∀(cdv:Value) (A:Around) (outer:List Env) (s:Shared) (H:Hp) (vs:List V) (Q:VK) (E:XK),Room k (A.deeper (envOfC qual (aA st) s.heap.objs.size f cdv))→sp vs H Q E→
   ∃t,PSs (kI CX0 P w K mg base N qual (aA st) f cdv A outer s H E).nox (aU st) t∧t { nx:=fun _ H'=>Q .non H',rt:=Q } (start N vs) H):FnOk P w K mg base CX0 (k+1) f fd ps sp:=by
 obtain⟨oc,od,kV,doc,pm,an,cdv,ct,osl,rfl,lk,hcd⟩:=F.ex
 refine fn_of lk hcd S len fun A outer s H vs Q E hr hsp=>?_
 obtain⟨t,h,q⟩:=hbody cdv A outer s H vs Q E hr hsp
 exact⟨t,h.nox,q⟩
theorem Fun.binds {x qual:Str} {st:Stmt} {f:Addr} {fd:FuncData} {ps:List Str} (F:Fun K x qual st f fd)
  (h:∀(kV doc pm:Value) (an:Option Addr) (cdv ct:Value) (us:List Value),us.length=ps.length→bindArgs (PySem.W.fnOf x qual (aX st) (aU st) (aA st) .none kV doc pm an cdv ct) ⟨us,[]⟩=pure (ps.zip us)):Binds K fd ps []:=by
 obtain⟨oc,od,kV,doc,pm,an,cdv,ct,osl,rfl,lk,hcd⟩:=F.ex
 exact .all (h kV doc pm an cdv ct)
theorem bF {x qual:Str} {st:Stmt} {f:Addr} {oc:Value} {od an:Option Addr} {osl:Array (Option Value)} {kV doc pm cdv ct:Value} (l:K.lookup f=some ⟨oc,od,.func (PySem.W.fnOf x qual (aX st) (aU st) (aA st) .none kV doc pm an cdv ct),osl⟩)
  (c:PySem.W.codeIn K cdv qual=true) (k:PySem.W.keepIn K (.ref f)=true):Fun K x qual st f (PySem.W.fnOf x qual (aX st) (aU st) (aA st) .none kV doc pm an cdv ct):=⟨⟨oc,od,kV,doc,pm,an,cdv,ct,osl,rfl,l,c⟩,k⟩
end
section
variable {X:Cx}
theorem pv (i:Nat) {x:Str} {pos:Pos} (hN:X.N[i]?=some x:=by rfl) (hv:Vis X.env.scope x:=by first | exact Or.inl rfl | exact Or.inr (Or.inl rfl) | exact Or.inr (Or.inr rfl)) (hd:(x == ("__debug__" :Str))=false:=by decide)
  (hcd:(x == ("__classdict__" :Str))=false:=by decide):PE X (.Name x pos) (tVar i):=pe_var hN hv hd hcd
end
theorem fP {A B:Prop} (h:B):if false=true then A else B:=by
 rw [if_neg Bool.false_ne_true]
 exact h
theorem kW {A B:Prop} (h:A):if true=true then A else B:=by
 rw [if_pos rfl]
 exact h
theorem iy {c A B:Prop} [Decidable c] (h1:c→A) (h2:¬c→B):if c then A else B:=by
 by_cases h:c
 ·rw [if_pos h]
  exact h1 h
 ·rw [if_neg h]
  exact h2 h
def aO (H H':Hp):Prop:=∀b o,H b=some o→H' b=some o
theorem aO.refl (H:Hp):aO H H:=fun _ _ h=>h
theorem aO.trans {H H1 H2:Hp} (a:aO H H1) (b:aO H1 H2):aO H H2:=fun c o h=>b c o (a c o h)
theorem aO.free {H H':Hp} (e:aO H H') {l:Addr} (h:H' l=Option.none):H l=Option.none:=by
 cases q:H l with
 | none=>rfl
 | some o=>
  rw [e l o q] at h
  cases h
theorem aO.seq {K:PySem.W.Frag} {H H':Hp} {a:Addr} {xs:List V} (e:aO H H') (h:SqL K H a xs):SqL K H' a xs:=by
 rcases h with (h | ⟨o,h⟩) | h
 ·exact .inl (.inl (e _ _ h))
 ·exact .inl (.inr ⟨o,e _ _ h⟩)
 ·exact .inr h
end L2
set_option Elab.async false
set_option linter.all false
set_option maxRecDepth 100000
set_option Elab.async false
set_option maxHeartbeats 4000000
namespace L2
open PySem PySem.Spec PyProof.Rows
theorem ym {P:Program} {w:World} {H:Hp} {h:Heap} {a:Addr} {o:HO} (x:HOk P w H h) (hn:H a=none) (new:dO P w (upd H a o) h a o):HOk P w (upd H a o) h:=fun b u e=>by
 by_cases hb:b=a
 ·subst hb;rw [aq] at e;cases e;exact new
 ·rw [aK hb] at e
  exact(x b u e).stay (fun c v _ q=>q) (fun c q=>by rw [aK (aD q hn)];exact q) fun c xs q=>by rw [aK (aD q hn)];exact q
theorem Ad {α β:Type} {f:α→β→Sem (ForInStep β)} (g:α→β→β):∀(l:List α) (c:β),(∀x∈l,∀c,f x c=pure (.yield (g x c)))→forIn l c f=pure (l.foldl (fun c x=>g x c) c)
 | [],_,_=>rfl
 | x:: l,c,h=>by
  rw [List.forIn_cons,h x List.mem_cons_self,pure_bind]
  exact Ad g l (g x c) fun y hy=>h y (List.mem_cons_of_mem _ hy)
def wj (env:Env) (x:Str×NameKind) (cs:List (Str×Addr)):List (Str×Addr):=
 if x.2=.free then(match env.cells.lookup x.1 with | some c=>(x.1,c):: cs | none=>cs) else cs
def clos (env:Env) (l:List (Str×NameKind)) (c:List (Str×Addr)):List (Str×Addr):=l.foldl (fun c x=>wj env x c) c
theorem qN {env:Env} {scope:Scope} (h:∀y∈scope.names,y.2=.free→∃c,env.cells.lookup y.1=some c):closureFor scope env=pure (clos env scope.names []):=by
 simp only [closureFor]
 rw [Ad (wj env) scope.names [] fun x hx c=>?_]
 ·rfl
 ·obtain⟨n,k⟩:=x
  by_cases hk:k=.free
  ·subst hk
   obtain⟨a,ha⟩:=h _ hx rfl
   have ha':env.cells.lookup n=some a:=ha
   simp [cellOf,ha',wj]
  ·have:(k == NameKind.free)=false:=by simpa using hk
   simp [this,wj,hk]
theorem z8 {env:Env}:∀(l:List (Str×NameKind)) (c:List (Str×Addr)),(∀y a,c.lookup y=some a→env.cells.lookup y=some a)→∀y a,(clos env l c).lookup y=some a→env.cells.lookup y=some a
 | [],_,h=>h
 | x:: l,c,h=>by
  refine z8 l (wj env x c) fun y a e=>?_
  unfold wj at e
  by_cases hk:x.2=.free
  ·rw [if_pos hk] at e
   cases q:env.cells.lookup x.1 with
   | none=>rw [q] at e;exact h y a e
   | some b=>
    rw [q] at e
    by_cases hy:(y == x.1)=true
    ·have:y=x.1:=by simpa using hy
     subst this
     have e':((x.1,b):: c).lookup x.1=some a:=e
     simp [List.lookup_cons] at e'
     rw [q,e']
    ·have hy':(y == x.1)=false:=by simpa using hy
     have e':((x.1,b):: c).lookup y=some a:=e
     rw [List.lookup_cons,hy'] at e'
     exact h y a e'
  ·rw [if_neg hk] at e;exact h y a e
theorem uo {env:Env}:∀(l:List (Str×NameKind)) (c:List (Str×Addr)) (y:Str),((∃a,c.lookup y=some a)∨∃k∈l,k.1=y∧k.2=.free∧∃a,env.cells.lookup y=some a)→∃a,(clos env l c).lookup y=some a
 | [],_,_,h=>by
  rcases h with h | ⟨k,hk,_⟩
  ·exact h
  ·cases hk
 | x:: l,c,y,h=>by
  refine uo l (wj env x c) y ?_
  have up:(∃a,c.lookup y=some a)→∃a,(wj env x c).lookup y=some a:=fun⟨a,e⟩=>by
   unfold wj
   split
   ·split
    ·rename_i b q
     by_cases hy:(y == x.1)=true
     ·exact⟨b,by rw [List.lookup_cons,hy]⟩
     ·have hy':(y == x.1)=false:=by simpa using hy
      exact⟨a,by rw [List.lookup_cons,hy'];exact e⟩
    ·exact⟨a,e⟩
   ·exact⟨a,e⟩
  rcases h with h | ⟨k,hk,h1,h2,a,h3⟩
  ·exact .inl (up h)
  ·rcases List.mem_cons.mp hk with e | hk
   ·subst e
    left
    unfold wj
    rw [if_pos h2,h1,h3]
    exact⟨a,by simp [List.lookup_cons]⟩
   ·exact .inr ⟨k,hk,h1,h2,a,h3⟩
theorem mH (scope:Scope) (env:Env) (y:Str):(relabel scope env).names.lookup y=(scope.names.lookup y).map fun k=>if (k == NameKind.free && env.scope.kind == .function && env.kindOf y == some .cell)=true then .cell else k:=by
 show(scope.names.map _).lookup y=_
 induction scope.names with
 | nil=>rfl
 | cons p l ih=>
  obtain⟨n,k⟩:=p
  rw [List.map_cons]
  show List.lookup y ((if (k == NameKind.free && env.scope.kind == .function && env.kindOf n == some .cell)=true then(n,NameKind.cell) else(n,k)):: _)=_
  by_cases hy:(y == n)=true
  ·have:y=n:=by simpa using hy
   subst this
   by_cases hc:(k == NameKind.free && env.scope.kind == .function && env.kindOf y == some .cell)=true
   ·rw [if_pos hc]
    simp only [List.lookup_cons,beq_self_eq_true,Option.map_some]
    rw [if_pos hc]
   ·rw [if_neg hc]
    simp only [List.lookup_cons,beq_self_eq_true,Option.map_some]
    rw [if_neg hc]
  ·have hy':(y == n)=false:=by simpa using hy
   by_cases hc:(k == NameKind.free && env.scope.kind == .function && env.kindOf n == some .cell)=true
   ·rw [if_pos hc]
    simp only [List.lookup_cons,hy']
    exact ih
   ·rw [if_neg hc]
    simp only [List.lookup_cons,hy']
    exact ih
theorem pure_elim {α β:Type} {M:Model} {A:Around} {a:α} {Q:α→Shared→Prop} {E:Value→Shared→Prop} {m:Sem β} {Q':β→Shared→Prop} {E':Value→Shared→Prop} {s:Shared} (h:wpAny M A (pure a) Q E s) (k:Q a s→wpAny M A m Q' E' s):
  wpAny M A m Q' E' s:=fun Γ p hΓ=>k (h Γ p hΓ) Γ p hΓ
def cW (N:List Str) (js:List Nat):List Str:=js.map fun j=>(N[j]?).getD Str.empty
def cJ (σ:St) (js:List Nat):St:=js.map fun j=>(σ[j]?).join
def wI (X:Cx) (scope:Scope) (x:Str) (js:List Nat) (cl:List (Str×Addr)) (C:Addr) (s:Shared) (H:Hp) (ex:List Addr):Cx where
 prog:=X.prog
 w:=X.w
 K:=X.K
 mg:=X.mg
 base:=X.base
 A:=X.A
 N:=x:: cW X.N js
 s₀:=s
 H₀:=H
 env:=compEnvC scope cl C X.env
 outer:=X.stack
 stack:=X.stack
 ex:=ex
 fn:=fun _=>false
 calm:=X.calm
 pn:=[]
 xe:=fun _ _=>False
def PF (X:Cx) (ifs:List Expr) (t:TT):Prop:=
 ∀(pins:List (Addr×Obj)) (s:Shared) (σ:St) (H:Hp) (Q:Bool→Hp→Prop),Inv X pins σ H s→t σ H Q→
  wpAny (model X.prog X.w) X.A (forIn ifs true fun c r=>if r=true then do let ok ←isTrue c X.env (eval c X.env);pure (ForInStep.yield ok) else pure (ForInStep.yield r)) (TP X pins σ Q) X.xe s
def tYes:TT:=fun _ H Q=>Q true H
theorem fW {X:Cx}:PF X [] tYes:=fun _ _ _ H _ I h=>wpAny_pure ⟨H,I,h⟩
theorem pf_one {X:Cx} {c:Expr} {t:TT} (hc:PT X c t):PF X [c] t:=by
 intro pins s σ H Q I h
 rw [List.forIn_cons,if_pos rfl]
 refine wpAny_bind (wpAny_bind (thn (hc pins s σ H Q I h) fun b s1 q=>wpAny_pure ?_))
 show wpAny (model X.prog X.w) X.A (pure b) (TP X pins σ Q) X.xe s1
 exact wpAny_pure q
def CompEnd (js:List Nat) (tt:TT) (te:TE) (σ:St) (Qd:List V→Hp→Prop) (J:It) (H1:Hp):Prop:=∃W:Nat→Nat→List V→Hp→Prop,(∃m,W 0 m [] H1)∧∀i m ys H2,W i m ys H2→
 (J.stop i H2∧ys.length≤sizeLine∧Qd ys H2)∨
 (J.go i H2∧ys.length <sizeLine∧∃N:List V→Hp→Prop,(∀ys' H',N ys' H'→∃m',m' <m∧W (i+1) m' ys' H')∧∀x H3,J.yld i H2 x H3→tt (some x:: cJ σ js) H3 fun b H4=>
  if b=true then te (some x:: cJ σ js) H4 fun y H5=>N (ys ++ [y]) H5 else N ys H4)
def tComp (js:List Nat) (wi:TI) (tt:TT) (te:TE):TE:=fun σ H Q=>wi σ H (CompEnd js tt te σ fun ys H2=>∀D,H2 D=none→Q (.ref D) (upd H2 D (.lst ys)))
section
variable {X:Cx} {x:Str} {px pos:Pos} {iter elt:Expr} {ifs:List Expr} {scope:Scope} {wi:TI} {tt:TT} {te:TE}
theorem Aa (js:List Nat) {pins:List (Addr×Obj)} {σ:St} {s:Shared} {itv:Value} {Q:List V→Hp→Prop} {RR:Value→Addr→Result→Shared→Prop} {E:Value→Shared→Prop}
  (hc:X.calm=true) (hk:scope.kind=.function) (hx:scope.names.lookup x=some .local) (hcell:∀y∈scope.names,y.2≠.cell)
  (hfree:∀y∈scope.names,y.2=.free→X.env.kindOf y.1=some .cell∨X.env.kindOf y.1=some .free)
  (hN:(x:: cW X.N js).Nodup) (hjs:∀y∈cW X.N js,scope.names.lookup y=some .free)
  (hif:∀cl C s H ex,PF (wI X scope x js cl C s H ex) ifs tt) (he:∀cl C s H ex,PE (wI X scope x js cl C s H ex) elt te)
  (hit:PIE X pins σ (.Name x px) (CompEnd js tt te σ Q) itv s)
  (hR:∀D C s' H2 ys m,Inv X pins σ (upd H2 D (.lst ys)) s'→H2 D=none→s'.heap.Ns C m→(∀h',Heap.SameBut C s'.heap h'→Inv X pins σ (upd H2 D (.lst ys)) { s' with heap:=h' })→FpOk X pins (upd H2 D (.lst ys)) C→C≠D→Q ys H2→RR (.ref D) C (.ok .next) s'):
  wpAny (model X.prog X.w) X.A (newList []) (fun acc s₃=>wpAny (model X.prog X.w) X.A (newFunctionEnv scope X.env.globals (clos X.env scope.names []) [] X.env.qual none .none (some X.env)) (fun cenv s₄=>
   codeAny (model X.prog X.w) X.A (.compStart (.ListComp elt [⟨.Name x px,iter,ifs,0⟩] scope pos) 0 itv acc { cenv with scope:=relabel scope X.env }) (RR acc cenv.locals) s₄) E s₃) E s:=by
 obtain⟨it,fp,tn,J,H1,rfl,I1,T,st1,f1,W,⟨m0,w0⟩,turn⟩:=hit
 refine wpAny_newObj_type (wpAny_newFunctionEnv hcell (by intro y hy;simp at hy) (fun h₁ hns₁ hsb₁=>?_) hk)
 dsimp only at hns₁ hsb₁ ⊢
 generalize hH2:s.heap.push { cls:=.type "list",dict:=none,data:=.seq ([]:List Value).toArray }=Hl at hns₁ hsb₁ ⊢
 generalize hDe:s.heap.objs.size=D
 have hCe:Hl.objs.size=D+1:=by rw [←hH2,Heap.size_push,hDe]
 generalize hC:Hl.objs.size=C at hns₁ hsb₁ hCe ⊢
 subst hCe
 have hDC:D≠D+1:=Nat.ne_of_lt (Nat.lt_succ_self _)
 have lt:∀b o,s.heap.get? b=some o→b <D:=fun b o e=>hDe ▸ Heap.lt_size e
 have old:∀b o,s.heap.get? b=some o→h₁.get? b=some o:=fun b o e=>by
  have hb:=lt b o e
  refine hsb₁.extBut b o (Nat.ne_of_lt (Nat.lt_succ_of_lt hb)) (Heap.get?_push_of_some _ ?_)
  rw [←hH2];exact Heap.get?_push_of_some _ e
 have accD:h₁.get? D=some { cls:=.type "list",dict:=none,data:=.seq ([]:List Value).toArray }:=by
  refine hsb₁.extBut _ _ hDC (Heap.get?_push_of_some _ ?_)
  rw [←hH2,←hDe];exact Heap.get?_push_size _ rfl
 have fresh:∀a,D≤a→H1 a=none:=fun a ha=>I1.hok.fresh (by rw [hDe];exact ha)
 have fpD:∀b∈fp,b <D:=fun b hb=>by
  obtain⟨o,e,_⟩:=T.obj 0 s.heap st1 b hb
  exact lt b o e
 have cellD:∀y c,X.env.cells.lookup y=some c→c <D:=fun y c e=>by
  obtain⟨v,q⟩:=I1.cell y c e
  exact hDe ▸ q.lt
 generalize hcl:clos X.env scope.names []=cl
 have clsub:∀y c,cl.lookup y=some c→X.env.cells.lookup y=some c:=by
  rw [←hcl];exact z8 scope.names [] fun y a e=>by simp at e
 have frD:∀b∈frs X.stack,b <D:=fun b hb=>by
  obtain⟨_,o,ho,_⟩:=I1.stack.mem hb
  exact lt b o ho
 let Y:Cx:=wI X scope x js cl (D+1) s H1 fp
 have kinds:∀y,Y.env.kindOf y=some .cell∨Y.env.kindOf y=some .free→∃k∈scope.names,k.1=y∧k.2=.free:=fun y hy=>by
  have hy':(relabel scope X.env).names.lookup y=some .cell∨(relabel scope X.env).names.lookup y=some .free:=hy
  rw [mH] at hy'
  cases q:scope.names.lookup y with
  | none=>rw [q] at hy';simp at hy'
  | some k=>
   have hm:=PySem.mem_of_lookup q
   refine⟨(y,k),hm,rfl,?_⟩
   have h1:k≠.cell:=hcell _ hm
   rw [q] at hy'
   simp only [Option.map_some,Option.some.injEq] at hy'
   by_cases hkf:k=.free
   ·exact hkf
   ·have:(k == NameKind.free)=false:=by simpa using hkf
    simp only [this,Bool.false_and,Bool.false_eq_true,if_false] at hy'
    rcases hy' with e | e
    ·exact absurd e h1
    ·exact absurd e hkf
 have okY:Y.Ok:=by
  refine⟨I1.ok.mod,hk,I1.ok.glob,I1.ok.blt,(by show s.heap.objs.size≤D+1;rw [hDe];exact Nat.le_succ _),fun y z c h1 h2=>I1.ok.inj y z c (clsub y c h1) (clsub z c h2),fun y hy=>?_,fun y c h _=>absurd h (by show ¬(false=true);decide),I1.ok.hd,I1.ok.frames,.inl rfl,fun b hb=>⟨Nat.ne_of_lt (Nat.lt_succ_of_lt (fpD b hb)),fun y c e z=>(f1 b hb).2.2.2.2.1 y c (clsub y c e) z⟩,
   fun b o e=>I1.bs b o e,Nat.le_trans I1.ok.bsz I1.sz,fun b o e hb=>?_,fun b hb hf=>?_,I1.stack,I1.stkFree⟩
  ·obtain⟨k,hm,e1,e2⟩:=kinds y hy
   show ∃c,cl.lookup y=some c
   rw [←hcl]
   refine uo scope.names [] y (.inr ⟨k,hm,e1,e2,?_⟩)
   have:=hfree k hm e2
   rw [e1] at this
   exact I1.ok.has y this
  ·obtain⟨_,_,_,h4,_,_⟩:=f1 b hb
   rcases h4 with z | z
   ·exact I1.ok.noex b o e z
   ·exact absurd (Nat.lt_of_lt_of_le (Heap.lt_size e) (Nat.le_trans I1.ok.bsz z)) (Nat.lt_irrefl _)
  ·rcases List.mem_cons.mp (I1.stkSub b hf) with z | z
   ·exact(f1 b hb).2.1 z
   ·exact(f1 b hb).2.2.1 z
 have hxl:Y.env.scope.names.lookup x=some .local:=lookup_relabel_local hx
 let σ0:St:=none:: cJ σ js
 have IY:Inv Y [] σ0 H1 { s with heap:=h₁,toks:=s.toks+([]:List (Str×Value)).length }:=by
  refine⟨okY,rfl,I1.bare,Un.kept old,⟨_,hns₁,fun i y v e1 e2 e3=>?_⟩,fun y c e=>?_,fresh _ (Nat.le_succ _),fun y c e=>I1.freeC y c (clsub y c e),fun p hp=>absurd (show p∈([]:List (Addr×Obj)) from hp) (by simp),I1.hok.kept old,?_⟩
  ·cases i with
   | zero=>cases e2
   | succ i=>
    have e1':(cW X.N js)[i]?=some y:=e1
    have e2':(cJ σ js)[i]?=some (some v):=e2
    unfold cW at e1'
    unfold cJ at e2'
    rw [List.getElem?_map] at e1' e2'
    cases q:js[i]? with
    | none=>rw [q] at e1';cases e1'
    | some j=>
     rw [q] at e1' e2'
     simp only [Option.map_some,Option.some.injEq] at e1' e2'
     have hv:σ[j]?=some (some v):=by
      cases z:σ[j]? with
      | none=>rw [z] at e2';cases e2'
      | some w=>rw [z] at e2';simpa using e2'
     have hj:j <X.N.length:=by
      rw [←I1.len];exact(List.getElem?_eq_some_iff.mp hv).1
     have hy:X.N[j]?=some y:=by
      rw [List.getElem?_eq_getElem hj] at e1' ⊢
      rw [←e1'];rfl
     obtain⟨m,hn,hl⟩:=I1.loc
     have hmem:y∈cW X.N js:=List.mem_map.mpr ⟨j,List.mem_of_getElem? q,by rw [hy];rfl⟩
     have hfr:=hjs y hmem
     have hkx:=hfree _ (PySem.mem_of_lookup hfr) rfl
     have hvis:Vis X.env.scope y:=hkx.elim (fun z=>.inr (.inl z)) fun z=>.inr (.inr z)
     obtain⟨u,r,l⟩:=hl j y v hy hv hvis
     refine⟨u,r,?_⟩
     rcases l with ⟨kl,_⟩ | ⟨_,c,hc1,z⟩
     ·exfalso
      have kl':X.env.kindOf y=some .local:=kl
      rcases hkx with w | w <;> · rw [show X.env.kindOf y=_ from w] at kl';cases kl'
     ·obtain⟨c',hc'⟩:=uo (env:=X.env) scope.names [] y (.inr ⟨_,PySem.mem_of_lookup hfr,rfl,rfl,c,hc1⟩)
      rw [hcl] at hc'
      have e4:=clsub y c' hc'
      rw [hc1] at e4
      cases e4
      obtain⟨o,ho,hd⟩:=z
      refine .inr ⟨?_,c,hc',o,old c o ho,hd⟩
      rcases e3 with e3 | e3 | e3
      ·exfalso
       have e3':(relabel scope X.env).names.lookup y=some .local:=e3
       rw [mH,hfr] at e3'
       simp only [Option.map_some,Option.some.injEq] at e3'
       split at e3' <;> cases e3'
      ·exact .inl e3
      ·exact .inr e3
  ·obtain⟨v,q⟩:=I1.cell y c (clsub y c e)
   obtain⟨o,ho,hd⟩:=q
   exact⟨v,o,old c o ho,hd⟩
  ·show(cJ σ js).length+1=(cW X.N js).length+1
   unfold cJ cW
   rw [List.length_map,List.length_map]
 have mkR:∀(s':Shared) (H2:Hp) (ys:List V) (its:List Value) (σ':St),Inv Y [] σ' H2 s'→s'.heap.PlainList D its.toArray→Vals ys its→ys.length≤sizeLine→H2 D=none→Q ys H2→RR (.ref D) (D+1) (.ok .next) s':=by
  intro s' H2 ys its σ' I' pl rv hz hD hq
  obtain⟨m,hn,_⟩:=I'.loc
  have hn':s'.heap.Ns (D+1) m:=hn
  have hCn:H2 (D+1)=none:=I'.free
  have hch:∀b∈fp,(b∈X.ex∨X.s₀.heap.objs.size≤b)∧b≠X.env.locals∧(∀x c,X.env.cells.lookup x=some c→c≠b)∧∀p∈X.pn ++ pins,p.1≠b:=fun b hb=>by
   obtain⟨_,h2,_,h4,h5,h6⟩:=f1 b hb
   exact⟨h4,h2,h5,h6⟩
  have bs:Un (frs X.stack) fp H1 H2 s.heap s'.heap:=I'.base
  have all:∀h',Heap.SameBut (D+1) s'.heap h'→Inv X pins σ (upd H2 D (.lst ys)) { s' with heap:=h' }:=fun h' sb=>by
   have neD:∀b o,s.heap.get? b=some o→b≠D:=fun b o e=>Nat.ne_of_lt (lt b o e)
   have neC:∀b o,s.heap.get? b=some o→b≠D+1:=fun b o e=>Nat.ne_of_lt (Nat.lt_succ_of_lt (lt b o e))
   refine I1.call' (s':={ s' with heap:=h' }) (ch:=fp) I'.os ⟨fun b o e n hb hx=>?_,fun b o e n hb hx=>?_,fun b o e n hx=>?_,fun b o e hx=>?_,fun b xs e=>?_,fun b o u e=>?_,fun b ps e=>?_⟩ ?_ I'.bare hch
   ·exact(sb.2 b (neC b o e)).trans (bs.keep b o e n hb hx)
   ·obtain⟨sl,q⟩:=bs.slot b o e n hb hx
    exact⟨sl,(sb.2 b (neC b o e)).trans q⟩
   ·rw [aK (neD b o e)];exact bs.free b o e n hx
   ·obtain⟨o',q⟩:=bs.there b o e hx
    exact⟨o',(sb.2 b (neC b o e)).trans q⟩
   ·have:=bs.tups b xs e
    rw [aK (aD this hD)];exact this
   ·have:=bs.frzs b o u e
    rw [aK (aD this hD)];exact this
   ·obtain⟨more,q⟩:=bs.tbls b ps e
    exact⟨more,by rw [aK (aD q hD)];exact q⟩
   ·have h0:HOk X.prog X.w H2 h':=fun b u e=>(I'.hok b u e).stay (fun c v hc q=>(sb.2 c (by
     rintro rfl
     rcases hc with z | z
     ·rw [z,e] at hCn;cases hCn
     ·rw [z] at hCn;cases hCn)).trans q) (fun _ q=>q) fun _ _ q=>q
    refine ym h0 hD ?_
    obtain⟨n,e⟩:=pl
    exact⟨hz,its,n,rv,(sb.2 D hDC).trans e⟩
  have hall:=all s'.heap (.refl ..)
  refine hR D (D+1) s' H2 ys m hall hD hn' all ?_ hDC.symm hq
  refine⟨by rw [aK hDC.symm];exact hCn,?_,?_,.inr (Nat.le_trans I1.sz (by rw [hDe];exact Nat.le_succ _)),fun y c e z=>?_,fun p hp z=>?_⟩
  ·exact Nat.ne_of_gt (Nat.lt_trans (hDe ▸ I1.lt) (Nat.lt_succ_self _))
  ·exact I1.nofs (by rw [hDe];exact Nat.le_succ _)
  ·exact absurd z (Nat.ne_of_lt (Nat.lt_succ_of_lt (cellD y c e)))
  ·exact absurd z (Nat.ne_of_lt (Nat.lt_succ_of_lt (lt _ _ (I1.pin p hp).1)))
 have loop:∀s₃:Shared,s₃={ s with heap:=h₁,toks:=s.toks+([]:List (Str×Value)).length }→
   codeAny (model X.prog X.w) X.A (.compLoop (.ListComp elt [⟨.Name x px,iter,ifs,0⟩] scope pos) 0 (.ref it) (.ref D) Y.env) (RR (.ref D) (D+1)) s₃:=by
  rintro s₃ rfl
  have stat:∀{H':Hp} {ob:Obj},(∀b∈fp,H' b=none)→∀b∈fp,FpOk Y [(D,ob)] H' b:=fun {H'} {ob} hn b hb=>by
   refine⟨hn b hb,Nat.ne_of_lt (Nat.lt_succ_of_lt (fpD b hb)),fun hf=>okY.exfs b hb hf,.inl hb,fun y c e=>(okY.exf b hb).2 y c e,fun p hp z=>?_⟩
   have hp':p∈[(D,ob)]:=hp
   have e:p=(D,ob):=by simpa using hp'
   rw [e] at z
   exact absurd z (Ne.symm (Nat.ne_of_lt (fpD b hb)))
  refine codeAny_compLoop_tests (fun n s'=>∃i ys its H',∃ob:Obj,Inv Y [(D,ob)] σ0 H' s'∧(∃n,ob={ cls:=.type "list",data:=.seq its.toArray n })∧Vals ys its∧H' D=none∧tn i s'.heap∧(∀b∈fp,H' b=none)∧W i n ys H') ?_ m0
   ⟨0,[],[],H1,{ cls:=.type "list",dict:=none,data:=.seq ([]:List Value).toArray },?_,⟨_,rfl⟩,.nil,fresh _ (Nat.le_refl _),T.keep _ _ _ st1 fun b _ o e=>old b o e,fun b hb=>(f1 b hb).1,w0⟩
  ·rintro n s3 ⟨i,ys,its,H3,ob,I3,⟨cap,rfl⟩,rv,hD,st3,fr3,w3⟩
   rcases turn i n ys H3 w3 with ⟨stop,hz,hq⟩ | ⟨go,hz,N,hN7,step⟩
   ·refine wpAny_mono (T.done Y rfl rfl rfl hc i _ s3 σ0 H3 (fun _ _=>False) I3 (stat fr3) st3 stop) (fun r s4 ⟨hr,I4⟩=>?_) fun _ _ f=>f.elim
    subst hr
    exact mkR s4 H3 ys its σ0 (I4.pins_of fun p hp=>absurd hp (by simp)) ⟨cap,(I4.pin _ (List.mem_append_right _ List.mem_cons_self)).1⟩ rv hz hD hq
   ·refine wpAny_mono (T.item Y rfl rfl rfl hc i _ s3 σ0 H3 (fun _ _=>False) I3 (stat fr3) st3 go) (fun r s4 ⟨u,hr,h4⟩=>?_) fun _ _ f=>f.elim
    subst hr
    have h4':wpAny (model X.prog X.w) X.A (pure ():Sem Unit) (fun _ s2=>∃x H',Inv Y [(D,{ cls:=.type "list",data:=.seq its.toArray cap })] σ0 H' s2∧RelV x u∧J.yld i H3 x H'∧tn (i+1) s2.heap∧∀b∈fp,H' b=none) (fun _ _=>False) s4:=h4
    refine pure_elim h4' fun hpt=>?_
    obtain⟨xv,H5,I5,r5,y5,st5,fr5⟩:=hpt
    have I5':=I5.pinned (stat fr5) (T.obj _ _ st5)
    refine wpAny_mono (wpAny_assign_Name (yd (X:=Y) (E:=fun _ _=>False) (i:=0) (Q:=fun _ s6=>Inv Y ([(D,{ cls:=.type "list",data:=.seq its.toArray cap })] ++ z9 fp s4.heap) (some xv:: cJ σ js) H5 s6) I5' hN rfl (.inl hxl) r5 (fun s6 I6=>I6) (.inr hxl))) (fun _ s6 I6=>?_) fun _ _ f=>f.elim
    have hD5:H5 D=none:=(I6.pin _ (List.mem_append_right _ (List.mem_append_left _ List.mem_cons_self))).2.1
    have again:∀{s7:Shared} {H7:Hp} {ys7:List V} {its7:List Value} {cap7:Nat} {pl:List (Addr×Obj)},Inv Y ([(D,{ cls:=.type "list",data:=.seq its7.toArray cap7 })] ++ pl) (some xv:: cJ σ js) H7 s7→(∀b∈fp,∀o,s4.heap.get? b=some o→s7.heap.get? b=some o∧H7 b=none)→Vals ys7 its7→(∃m',m' <n∧W (i+1) m' ys7 H7)→
      ∃m,m <n∧∃i ys its H',∃ob:Obj,Inv Y [(D,ob)] σ0 H' s7∧(∃n,ob={ cls:=.type "list",data:=.seq its.toArray n })∧Vals ys its∧H' D=none∧tn i s7.heap∧(∀b∈fp,H' b=none)∧W i m ys H':=by
     intro s7 H7 ys7 its7 cap7 pl I7 kf rv7 ⟨m',hm,w7⟩
     refine⟨m',hm,i+1,ys7,its7,H7,_,I7.unpinned.weak rfl fun j v e=>?_,⟨cap7,rfl⟩,rv7,(I7.pin _ (List.mem_append_right _ (List.mem_append_left _ List.mem_cons_self))).2.1,T.keep _ _ _ st5 fun b hb o e=>(kf b hb o e).1,fun b hb=>?_,w7⟩
     ·cases j with
      | zero=>cases e
      | succ j=>exact e
     ·obtain⟨o,e,_⟩:=T.obj _ _ st5 b hb
      exact(kf b hb o e).2
    refine wpAny_mono (hif cl (D+1) s H1 fp _ s6 _ H5 _ I6 (step xv H5 y5)) (fun ok s7 ⟨H7,I7,q7⟩=>?_) fun _ _ f=>False.elim f
    have kf7:∀b∈fp,∀o,s4.heap.get? b=some o→s7.heap.get? b=some o∧H7 b=none:=fun b hb o e=>
     have z:=I7.pin (b,o) (List.mem_append_right _ (List.mem_append_right _ (mQ hb e)))
     ⟨z.1,z.2.1⟩
    cases ok with
    | false=>
     rw [if_neg Bool.false_ne_true] at q7 ⊢
     exact again I7 kf7 rv (hN7 _ _ q7)
    | true=>
     rw [if_pos rfl] at q7 ⊢
     refine wpAny_mono (he cl (D+1) s H1 fp _ s7 _ H7 _ I7 q7) (fun yv s8 ⟨y,H8,I8,r8,q8⟩=>?_) fun _ _ f=>False.elim f
     have pD:=I8.pin _ (List.mem_append_right _ (List.mem_append_left _ List.mem_cons_self))
     have hlen:=rv.length
     refine wpAny_list_append_plain (items:=its.toArray) ⟨cap,pD.1⟩ (fun h9 pl9 sb9=>?_) (by rw [List.size_toArray];omega)
     obtain⟨cap9,e9⟩:=pl9
     have I9:Inv Y [] (some xv:: cJ σ js) H8 { s8 with heap:=h9 }:=(I8.pins_of (pins':=[]) fun p hp=>absurd hp (by simp)).turned (t':=s8.toks) (it:=D) (fun b o hb e=>(sb9.2 b hb).trans e) pD.2.1 hDC
      (.inr (Nat.le_of_eq hDe)) (fun y c e z=>absurd z (Nat.ne_of_lt (cellD y c (clsub y c e)))) fun p hp=>absurd (show p∈([]:List (Addr×Obj)) from hp) (by simp)
     have kf9:∀b∈fp,∀o,s4.heap.get? b=some o→h9.get? b=some o∧H8 b=none:=fun b hb o e=>by
      have z:=I8.pin (b,o) (List.mem_append_right _ (List.mem_append_right _ (mQ hb e)))
      exact⟨(sb9.2 b (Nat.ne_of_lt (fpD b hb))).trans z.1,z.2.1⟩
     refine again (s7:={ s8 with heap:=h9 }) (its7:=its ++ [yv]) (cap7:=cap9) (pl:=[]) (I9.pins_of fun p hp=>?_) kf9 (rv.append (.cons r8 .nil)) (hN7 _ _ q8)
     have hp':p=(D,{ cls:=.type "list",data:=.seq (its ++ [yv]).toArray cap9 }):=by simpa using hp
     subst hp'
     refine⟨?_,pD.2.1,pD.2.2.1,pD.2.2.2.1,fun v z=>by cases z⟩
     rw [e9]
     simp
  ·refine IY.pins_of fun p hp=>?_
   have hp':p=(D,{ cls:=.type "list",dict:=none,data:=.seq ([]:List Value).toArray }):=by simpa using hp
   subst hp'
   exact⟨accD,fresh _ (Nat.le_refl _),hDC,fun hf=>Nat.lt_irrefl _ (frD _ hf),fun v z=>by cases z⟩
 exact codeAny_compStart_list (loop _ rfl) (wpAny_mono (T.self X.A 0 _ (fun v s'=>v=.ref it∧s'={ s with heap:=h₁,toks:=s.toks+([]:List (Str×Value)).length }) (fun _ _=>False) (T.keep _ _ _ st1 fun b _ o e=>old b o e) ⟨rfl,rfl⟩) (fun v s' ⟨e1,e2⟩=>by subst e1 e2;exact loop _ rfl) fun _ _ f=>f.elim)
theorem rQ (js:List Nat) (N0:List Str) (sc0:Scope) (hc:X.calm=true) (hi:PI X (.Name x px) iter wi)
  (hif:∀cl C s H ex,PF (wI X scope x js cl C s H ex) ifs tt) (he:∀cl C s H ex,PE (wI X scope x js cl C s H ex) elt te)
  (hk:scope.kind=.function:=by rfl) (hx:scope.names.lookup x=some .local:=by rfl) (hcell:∀y∈scope.names,y.2≠.cell:=by decide +kernel)
  (hnames:∀y∈scope.names,y.2=.local→scope.names.lookup y.1=some .local:=by decide +kernel)
  (hsc:X.env.scope=sc0:=by rfl) (hfree0:∀y∈scope.names,y.2=.free→sc0.names.lookup y.1=some .cell∨sc0.names.lookup y.1=some .free:=by decide +kernel)
  (hNN:X.N=N0:=by rfl) (hN0:(x:: cW N0 js).Nodup:=by decide +kernel) (hj0:∀y∈cW N0 js,scope.names.lookup y=some .free:=by decide +kernel)
  (hs:∀x,foldedSetIterable iter X.env x=pure x:=by intro _;rfl):
  PE X (.ListComp elt [⟨.Name x px,iter,ifs,0⟩] scope pos) (tComp js wi tt te):=by
 intro pins s σ H Q I h
 have hN:(x:: cW X.N js).Nodup:=by rw [hNN];exact hN0
 have hfree:∀y∈scope.names,y.2=.free→X.env.kindOf y.1=some .cell∨X.env.kindOf y.1=some .free:=fun y hy e=>by
  show X.env.scope.names.lookup y.1=some .cell∨X.env.scope.names.lookup y.1=some .free
  rw [hsc];exact hfree0 y hy e
 have hjs:∀y∈cW X.N js,scope.names.lookup y=some .free:=by rw [hNN];exact hj0
 rw [eval_ListComp]
 have hcl:closureFor scope X.env=pure (clos X.env scope.names []):=qN fun y hy e=>I.ok.has y.1 (hfree y hy e)
 refine wpAny_comprehension_free (use:=none) rfl hs hcl hk hnames (thn (hi pins s σ H _ I h) fun xv s1 h1=>thn h1 fun it s2 h2=>?_)
 refine Aa js (RR:=fun acc C=>compPost (model X.prog X.w) X.A X.xe none (EP X pins σ Q) acc C) (Q:=fun ys H2=>∀D,H2 D=none→Q (.ref D) (upd H2 D (.lst ys))) hc hk hx hcell hfree hN hjs hif he h2 ?_
 intro D C s' H2 ys m I' hD hn all fpC hCD hq
 exact⟨m,hn,fun h' sb=>⟨.ref D,_,all h' sb,rfl,hq D hD⟩⟩
theorem nU {i:Nat} {y:Str} {py spos:Pos} (js:List Nat) (N0:List Str) (sc0:Scope) (hc:X.calm=true) (hNX:X.N.Nodup) (hiy:X.N[i]?=some y) (hi:PI X (.Name x px) iter wi)
  (hif:∀cl C s H ex,PF (wI X scope x js cl C s H ex) ifs tt) (he:∀cl C s H ex,PE (wI X scope x js cl C s H ex) elt te)
  (hsw:swapsWith (.ListComp elt [⟨.Name x px,iter,ifs,0⟩] scope pos) (some (.Name y py)) spos.line X.env=pure true:=by rfl) (hy:X.env.scope.names.lookup y=some .local:=by rfl)
  (hk:scope.kind=.function:=by rfl) (hx:scope.names.lookup x=some .local:=by rfl) (hcell:∀y∈scope.names,y.2≠.cell:=by decide +kernel)
  (hnames:∀y∈scope.names,y.2=.local→scope.names.lookup y.1=some .local:=by decide +kernel)
  (hsc:X.env.scope=sc0:=by rfl) (hfree0:∀y∈scope.names,y.2=.free→sc0.names.lookup y.1=some .cell∨sc0.names.lookup y.1=some .free:=by decide +kernel)
  (hNN:X.N=N0:=by rfl) (hN0:(x:: cW N0 js).Nodup:=by decide +kernel) (hj0:∀y∈cW N0 js,scope.names.lookup y=some .free:=by decide +kernel)
  (hs:∀x,foldedSetIterable iter X.env x=pure x:=by intro _;rfl):
  PS X (.Assign [.Name y py] (.ListComp elt [⟨.Name x px,iter,ifs,0⟩] scope pos) spos) (tAsg (tComp js wi tt te) (gName i)):=by
 intro pins s σ H D I h
 have hN:(x:: cW X.N js).Nodup:=by rw [hNN];exact hN0
 have hfree:∀y∈scope.names,y.2=.free→X.env.kindOf y.1=some .cell∨X.env.kindOf y.1=some .free:=fun y hy e=>by
  show X.env.scope.names.lookup y.1=some .cell∨X.env.scope.names.lookup y.1=some .free
  rw [hsc];exact hfree0 y hy e
 have hjs:∀y∈cW X.N js,scope.names.lookup y=some .free:=by rw [hNN];exact hj0
 rw [exec_Assign_Name_used _ _ _ _ hsw]
 refine wpAny_bind (wpAny_standAt (wpAny_bind ?_))
 show wpAny _ X.A (do let _ ←comprehension (.ListComp elt [⟨.Name x px,iter,ifs,0⟩] scope pos) scope X.env _ (newList []) false (eval iter X.env) (some (assign (.Name y py) X.env))) _ _ s
 have hcl:closureFor scope X.env=pure (clos X.env scope.names []):=qN fun y hy e=>I.ok.has y.1 (hfree y hy e)
 refine wpAny_bind (wpAny_mono (wpAny_comprehension_free (use:=some (assign (.Name y py) X.env)) (Q:=fun _ s'=>SP X pins D .next s') rfl hs hcl hk hnames
  (thn (hi pins s σ H _ I h) fun xv s1 h1=>thn h1 fun it s2 h2=>?_)) (fun _ s' hq=>wpAny_pure (wpAny_pure hq)) fun _ _ e=>e)
 refine Aa js (RR:=fun acc C=>compPost (model X.prog X.w) X.A X.xe (some (assign (.Name y py) X.env)) (fun _ s'=>SP X pins D .next s') acc C) (Q:=fun ys H2=>∀D',H2 D'=none→D.nx (σ.set i (some (.ref D'))) (upd H2 D' (.lst ys))) hc hk hx hcell hfree hN hjs hif he h2 ?_
 intro D' C s' H2 ys m I' hD hn all fpC hCD hq
 show wpAny _ X.A (assign (.Name y py) X.env (.ref D')) _ _ _
 refine wpAny_assign_Name (yu I' hNX hiy (.inl hy) (v:=.ref D') rfl (fun s'' I'' ⟨a,sb,ha⟩=>?_) (.inr hy))
 obtain⟨f1,f2,f3,f4,f5,f6⟩:=fpC
 have hCa:C≠a:=by
  rcases ha with z | z
  ·rw [z];exact f2
  ·exact fun w=>f5 _ _ z w.symm
 exact⟨m,hn.sameBut sb hCa,fun h' sb'=>⟨_,_,I''.turned (t':=s''.toks) (it:=C) (fun b o hb e=>(sb'.2 b hb).trans e) f1 f2 f4 f5 f6,hq D' hD⟩⟩
end
end L2
set_option Elab.async false
set_option linter.all false
set_option maxRecDepth 100000
set_option Elab.async false
set_option maxHeartbeats 4000000
namespace L2
open PySem PySem.Spec PyProof.Rows
section
variable {X:Cx}
theorem iQ:OpR X (binaryOp .Mult) (rI IntMulOk fun i j=>.int (i * j)):=opI fun _ _ _ _ _ _ _ hc q=>mul_int q hc
def CDivB (_ j:Int):Prop:=0 <j∧j.natAbs.log2 <9000
theorem op_fdivB:OpR X (binaryOp .FloorDiv) (rI CDivB fun i j=>.int (i / j)):=opI fun i j _ _ _ _ _ hc q=>by
 have h1:(0:Int) <j:=hc.1
 exact floordiv_int (by omega) (by rw [Int.fdiv_eq_ediv_of_nonneg i (by omega)];exact q) (.inl (PyProof.noPylong_of_log2 hc.2))
theorem divOk {i j:Int} (h0:0 <j) (h:j.natAbs <2 ^ 9000):CDivB i j:=⟨h0,(Nat.log2_lt (by omega)).mpr h⟩
def tyN (K:PySem.W.Frag) (H:Hp) (x:V) (T:String):Prop:=match x with
 | .non=>T= "NoneType"
 | .bl _=>T= "bool"
 | .int _=>T= "int"
 | .str _=>T= "str"
 | .ref p=>(T= "list" ∧∃xs,SqL K H p xs)∨(T= "tuple" ∧∃xs,SqT K H p xs)∨(T= "dict" ∧∃kvs,H p=some (.dK kvs))
 | _=>False
def subT (a b:String):Bool:=a == b || (a == "bool" && b == "int")
def isTab:List String:=["int", "bool", "str", "list", "tuple", "dict"]
def o8:List String:=["NoneType", "bool", "int", "str", "list", "tuple", "dict"]
theorem kit_meta:∀T∈isTab,PySem.W.kitMeta T=true:=by decide +kernel
theorem kit_mro:∀a∈o8,∀b∈isTab,(PySem.fastBuiltinMro a).map (·.contains (.type b))=some (subT a b):=by decide +kernel
theorem kit_one (K:PySem.W.Frag) {a b:String} (ha:a∈o8) (hb:b∈isTab):PySem.W.kitOne K (.type a) (.type b)=some (subT a b):=by
 unfold PySem.W.kitOne
 by_cases h:(Value.type a == Value.type b)=true
 ·rw [if_pos h]
  have e:a=b:=by
   have:=beq_iff_eq.mp h
   injection this
  subst e
  simp [subT]
 ·rw [if_neg h]
  show(if PySem.W.kitMeta b=true then PySem.W.subIn K (.type a) (.type b) else none)=_
  rw [if_pos (kit_meta b hb)]
  exact kit_mro a ha b hb
theorem xY:qm X (.builtin "isinstance") (fun xs H Q=>∃x Tx T b,xs=[x,.ty T]∧tyN X.K H x Tx∧T∈isTab∧subT Tx T=b∧Q (.bl b) H):=by
 intro pins s σ H xs us Q I r h
 obtain⟨x,Tx,T,b,rfl,ty,hT,rfl,q⟩:=h
 obtain⟨u,w',rfl,rx,ry⟩:=vals2 r
 cases ry
 have fin:∀{b:Bool},b=subT Tx T→∀tk,EP X pins σ Q (.bool b) { s with toks:=tk }:=fun e tk=>⟨.bl (subT Tx T),H,I.tok tk,by rw [e];rfl,q⟩
 have go:∀{P:Heap→Prop},PySem.W.KitX X.K u (.type Tx) P→P s.heap→Tx∈o8→u≠.builtin "__main__.__loader__#opaque" →wpAny (model X.prog X.w) X.A (call (.builtin "isinstance") [u,.type T]) (EP X pins σ Q) X.xe s:=fun Z p hm hx=>
  PySem.W.kia_one Z I.kIn p (kit_one X.K hm hT) hx fun tk=>fin rfl tk
 cases x with
 | non=>cases rx;cases (show Tx= "NoneType" from ty);exact go PySem.W.kitx_none trivial (by decide) (by intro e;cases e)
 | bl b=>cases rx;cases (show Tx= "bool" from ty);exact go PySem.W.kitx_bool trivial (by decide) (by intro e;cases e)
 | int i=>obtain⟨t,rfl⟩:=rx;cases (show Tx= "int" from ty);exact go PySem.W.kitx_int trivial (by decide) (by intro e;cases e)
 | str z=>obtain⟨t,rfl⟩:=rx;cases (show Tx= "str" from ty);exact go PySem.W.kitx_str trivial (by decide) (by intro e;cases e)
 | ref p=>
  cases rx
  rcases ty with ⟨rfl,ys,hq⟩ | ⟨rfl,ys,hq⟩ | ⟨rfl,kvs,hq⟩
  ·obtain⟨its,_,pl,_⟩:=I.list hq
   obtain⟨o,n,e,c,_,_⟩:=pl
   exact go PySem.W.kitx_list ⟨o,e,c⟩ (by decide) (by intro e;cases e)
  ·obtain⟨its,_,⟨o,e,c,_⟩,_⟩:=I.tuple hq
   exact go PySem.W.kitx_tuple ⟨o,e,c⟩ (by decide) (by intro e;cases e)
  ·obtain⟨_,_,_,_,o,_,_,e,ex,_⟩:=I.hok p _ hq
   exact go PySem.W.kitx_dict ⟨o,e,ex.1⟩ (by decide) (by intro e;cases e)
 | _=>exact(show False from ty).elim
theorem pC:OpR X (compareOp .LtE) (fun x y H Q=>∃i j,x=.str i∧y=.str j∧Q (.bl (!decide (j.cps.toList <i.cps.toList))) H):=by
 intro pins s σ H x y v u Q I rx ry h
 obtain⟨i,j,rfl,rfl,q⟩:=h
 obtain⟨t,rfl⟩:=rx
 obtain⟨t',rfl⟩:=ry
 exact PySem.P.le_str (cV I q rfl)
def rJoin (K:PySem.W.Frag):V→List V→Hp→VK→Prop:=fun x xs H Q=>∃z p ys,x=.str z∧xs=[.ref p]∧SqL K H p (ys.map V.str)∧(ys.map (·.length)).sum+ys.length * z.length≤16777216∧Q (.str (Txt.join z ys)) H
theorem Ah:∀{ys:List Str} {us:List Value},Vals (ys.map V.str) us→StrsAre us ys
 | [],us,r=>by rw [List.map_nil] at r;cases r;exact .nil
 | y:: ys,us,r=>by
  rw [List.map_cons] at r
  cases r with
  | cons r1 r2=>
   obtain⟨t,e⟩:=r1
   subst e
   exact .cons y t (Ah r2)
theorem mt_join:MtR X "str.join" (rJoin X.K):=by
 intro pins s σ H x xs v us Q I rx rs h
 obtain⟨z,p,ys,rfl,rfl,hq,hz,q⟩:=h
 obtain⟨t,rfl⟩:=rx
 obtain⟨u,rfl,ru⟩:=vals1 rs
 cases ru
 obtain⟨its,rv,pl,_⟩:=I.list hq
 exact join_list (items:=its.toArray) pl.isList (by simpa using Ah rv) hz fun t' k=>⟨.str (Txt.join z ys),H,I.tok k,⟨_,rfl⟩,q⟩
end
end L2
namespace L2
open PySem PySem.Spec PyProof.Rows
theorem bt_int:bootBuiltins "int" =some (.type "int"):=by decide +kernel
theorem bt_bool:bootBuiltins "bool" =some (.type "bool"):=by decide +kernel
theorem bt_str:bootBuiltins "str" =some (.type "str"):=by decide +kernel
theorem zr:bootBuiltins "list" =some (.type "list"):=by decide +kernel
theorem ou:bootBuiltins "tuple" =some (.type "tuple"):=by decide +kernel
theorem dR:bootBuiltins "len" =some (.builtin "len"):=by decide +kernel
theorem kY:bootBuiltins "isinstance" =some (.builtin "isinstance"):=by decide +kernel
theorem bt_max:bootBuiltins "max" =some (.builtin "max"):=by decide +kernel
theorem bt_all:bootBuiltins "all" =some (.builtin "all"):=by decide +kernel
section
variable {X:Cx} {pos:Pos}
theorem oE {x:Str} {v:V} (hg:Gl X x) (hm:∃u,X.mg x=some u∧RelV v u) (hd:(x == ("__debug__" :Str))=false:=by decide):PE X (.Name x pos) (tC v):=by
 obtain⟨u,h1,h2⟩:=hm
 exact zg hg h1 h2 hd
theorem zy {x:Str} {T:String} (hg:Gl X x) (hm:X.mg x=none) (hv:bootBuiltins x=some (.type T)) (hn:x≠ "__name__" :=by decide) (hd:(x == ("__debug__" :Str))=false:=by decide):PE X (.Name x pos) (tC (.ty T)):=
 pe_bltn hg hm hv rfl hn hd
end
end L2
namespace L2
open PySem PySem.Spec PyProof.Rows
theorem eZ {a b:Int} (h: -(2 ^ 64) <a∧a <2 ^ 64:=by decide):IntMulOk a b:=.of_left (intBits_le_64 h.1 h.2)
theorem mulOk_smallR {a b:Int} (h: -(2 ^ 64) <b∧b <2 ^ 64:=by decide):IntMulOk a b:=.of_right (intBits_le_64 h.1 h.2)
end L2
namespace L2
open PySem PySem.Spec PyProof.Rows
def tJoin (t:TS):TS:=fun D σ H=>∃J:St→Hp→Prop,t { D with nx:=J } σ H∧∀σ' H',J σ' H'→D.nx σ' H'
theorem fH {X:Cx} {st:Stmt} {t:TS} (h:PS X st t):PS X st (tJoin t):=by
 intro pins s σ H D I hw
 obtain⟨J,h1,h2⟩:=hw
 refine thn (h pins s σ H { D with nx:=J } I h1) fun f s1 q=>?_
 cases f with
 | next=>obtain⟨σ',H',I',q⟩:=q;exact⟨σ',H',I',h2 _ _ q⟩
 | ret v=>exact q
 | brk=>exact q
 | cont=>exact q
theorem dJ {c A B:Prop} [Decidable c] (hc:¬c) (h:B):if decide c=true then A else B:=by rw [decide_eq_false hc];exact fP h
theorem tG {c A B:Prop} [Decidable c] (hc:c) (h:A):if decide c=true then A else B:=by rw [decide_eq_true hc];exact kW h
end L2
set_option Elab.async false
set_option linter.all false
set_option maxRecDepth 100000
set_option Elab.async false
set_option maxHeartbeats 4000000
namespace L2
open PySem PySem.Spec PyProof.Rows
mutual
inductive Dt (K:PySem.W.Frag) (H:Hp):V→PyData→Prop
 | non:Dt K H .non .none
 | bl (b:Bool):Dt K H (.bl b) (.bool b)
 | int (i:Int):Dt K H (.int i) (.int i)
 | str (x:Str):Dt K H (.str x) (.str x)
 | list {p:Addr} {xs:List V} {ds:List PyData}:SqL K H p xs→Dts K H xs ds→Dt K H (.ref p) (.list ds)
 | tuple {p:Addr} {xs:List V} {ds:List PyData}:SqT K H p xs→Dts K H xs ds→Dt K H (.ref p) (.tuple ds)
inductive Dts (K:PySem.W.Frag) (H:Hp):List V→List PyData→Prop
 | nil:Dts K H [] []
 | cons {x:V} {xs:List V} {d:PyData} {ds:List PyData}:Dt K H x d→Dts K H xs ds→Dts K H (x:: xs) (d:: ds)
end
section
variable {X:Cx} {pins:List (Addr×Obj)} {σ:St} {H:Hp} {s:Shared}
mutual
theorem Dt.reads (I:Inv X pins σ H s):∀{x:V} {d:PyData},Dt X.K H x d→∀{u:Value},RelV x u→∃as,Reads s.heap u d as
 | _,_,.non,_,r=>by cases r;exact⟨_,.none⟩
 | _,_,.bl b,_,r=>by cases r;exact⟨_,.bool b⟩
 | _,_,.int i,_,r=>by obtain⟨t,rfl⟩:=r;exact⟨_,.int i t⟩
 | _,_,.str x,_,r=>by obtain⟨t,rfl⟩:=r;exact⟨_,.str x t⟩
 | _,_,.list hq hd,_,r=>by
  cases r
  obtain⟨its,rv,⟨o,n,e,c,_,d⟩,_⟩:=I.list hq
  obtain⟨as,q⟩:=Dts.reads I hd rv
  exact⟨_,.list e c d (by simpa using q)⟩
 | _,_,.tuple hq hd,_,r=>by
  cases r
  obtain⟨its,rv,⟨o,e,c,n,d⟩,_⟩:=I.tuple hq
  obtain⟨as,q⟩:=Dts.reads I hd rv
  exact⟨_,.tuple e c d (by simpa using q)⟩
theorem Dts.reads (I:Inv X pins σ H s):∀{xs:List V} {ds:List PyData},Dts X.K H xs ds→∀{us:List Value},Vals xs us→∃as,ReadsAll s.heap us ds as
 | _,_,.nil,_,r=>by cases r;exact⟨_,.nil⟩
 | _,_,.cons h t,_,r=>by
  cases r with
  | cons r1 r2=>
   obtain⟨as,q⟩:=Dt.reads I h r1
   obtain⟨bs,q'⟩:=Dts.reads I t r2
   exact⟨_,.cons q q'⟩
end
def rEqD (K:PySem.W.Frag):R2:=fun x y H Q=>∃da db,Dt K H x da∧Dt K H y db∧SeqAt.shaped da=true∧SeqAt.shaped db=true∧Q (.bl (PyData.eqv da db)) H
def rNeD (K:PySem.W.Frag):R2:=fun x y H Q=>∃da db,Dt K H x da∧Dt K H y db∧SeqAt.shaped da=true∧SeqAt.shaped db=true∧Q (.bl (!PyData.eqv da db)) H
theorem op_eqD (hu:X.A.units+64 <cLine):OpR X (compareOp .Eq) (rEqD X.K):=by
 intro pins s σ H x y v u Q I rx ry h
 obtain⟨da,db,h1,h2,s1,s2,q⟩:=h
 obtain⟨as,r1⟩:=h1.reads I rx
 obtain⟨bs,r2⟩:=h2.reads I ry
 exact eq_dataH r1 r2 s1 s2 hu (cV I q rfl)
theorem op_neD (hu:X.A.units+64 <cLine):OpR X (compareOp .NotEq) (rNeD X.K):=by
 intro pins s σ H x y v u Q I rx ry h
 obtain⟨da,db,h1,h2,s1,s2,q⟩:=h
 obtain⟨as,r1⟩:=h1.reads I rx
 obtain⟨bs,r2⟩:=h2.reads I ry
 exact ne_dataH r1 r2 s1 s2 hu (cV I q rfl)
end
def Its (x:Str):It:=⟨fun i _=>i <x.cps.size,fun i H v H'=>H'=H∧∃c,x.cps[i]?=some c∧v=.str ⟨#[c]⟩,fun i _=>x.cps.size≤i⟩
theorem turn_str {P:Program} {w:World} {K:PySem.W.Frag} {tg:Expr} (it:Addr) (x:Str) (t:Tok) {ty:String} (hty:ty= "str_ascii_iterator" ∨ty= "str_iterator"):Turn P w K tg (Its x) [it] it (fun i h=>h.IsStrIter it ty x t i) where
 mem:=by simp
 obj:=fun i h st b hb=>by
  have e:b=it:=by simpa using hb
  subst e
  obtain⟨o,e,c,d⟩:=st
  exact⟨o,e,fun v z=>by rw [d] at z;cases z⟩
 keep:=fun i h h' st k=>by
  obtain⟨o,e,r⟩:=st
  exact⟨o,k it (by simp) o e,r⟩
 item:=by
  intro X hP hw hK hc i pins s σ H E I hf st hg
  subst hP hw hK
  obtain⟨f0,f1,f2,f3,f4,f5⟩:=hf it (by simp)
  have fin:∀(v:Value) (h':Heap) (tk:Nat),SignAt x i v→h'.IsStrIter it ty x t (i+1)→(∀b o,b∉[it]→s.heap.get? b=some o→h'.get? b=some o)→
    ∃u,some v=some u∧wpAny (model X.prog X.w) X.A (letOwnedTupleGo tg (.ref it) u) (fun _ s2=>∃x' H',Inv X pins σ H' s2∧RelV x' u∧(Its x).yld i H x' H'∧s2.heap.IsStrIter it ty x t (i+1)∧∀b∈[it],H' b=none) E { s with heap:=h',toks:=tk }:=by
   intro v h' tk hv st' kk
   obtain⟨c,u,hcc,rfl⟩:=hv
   have I1:Inv X pins σ H { s with heap:=h',toks:=tk }:=I.turned (fun b o hb e=>kk b o (by simpa using hb) e) f0 f1 f3 f4 f5
   obtain⟨o,e,c',d⟩:=id st'
   refine⟨_,rfl,go_of (s:={ s with heap:=h',toks:=tk }) (n:=ty) e c' d (by rcases hty with rfl | rfl <;> decide) ⟨.str ⟨#[c]⟩,H,I1,⟨u,rfl⟩,⟨rfl,c,hcc,rfl⟩,st',fun b hb=>(hf b hb).1⟩⟩
  rcases hty with rfl | rfl
  ·exact(Walks.strAscii (prog:=X.prog) (w:=X.w) (I.ok.hd hc) it x t).item i s _ _ hg st fun v h' tk hv st' kk=>fin v h' tk hv st' kk
  ·exact(Walks.strWide (prog:=X.prog) (w:=X.w) (I.ok.hd hc) it x t).item i s _ _ hg st fun v h' tk hv st' kk=>fin v h' tk hv st' kk
 done:=by
  intro X hP hw hK hc i pins s σ H E I hf st hg
  subst hP hw hK
  obtain⟨f0,f1,f2,f3,f4,f5⟩:=hf it (by simp)
  have hx:x.cps[i]?=none:=by
   have hg':x.cps.size≤i:=hg
   simp;omega
  rcases hty with rfl | rfl
  ·exact wpAny_pyNext_ascii_end (I.ok.hd hc) st hx fun h' eb=>⟨rfl,I.turned (t':=s.toks) (fun b o hb e=>eb b o hb e) f0 f1 f3 f4 f5⟩
  ·exact wpAny_pyNext_wide_end (I.ok.hd hc) st hx fun h' eb=>⟨rfl,I.turned (t':=s.toks) (fun b o hb e=>eb b o hb e) f0 f1 f3 f4 f5⟩
 self:=fun _ _ _ _ _ st h=>by
  rcases hty with rfl | rfl
  ·exact wpAny_pyIter_striter_ascii st h
  ·exact wpAny_pyIter_striter_wide st h
section
variable {X:Cx} {tg:Expr}
def iStr (tl:TE):TI:=fun σ H R=>tl σ H fun x H1=>∃z,x=.str z∧R (Its z) H1
theorem pi_str {l:Expr} {tl:TE} (hl:PE X l tl):PI X tg l (iStr tl):=by
 intro pins s σ H R I h
 refine thn (hl pins s σ H _ I h) fun v s1 hpt=>?_
 obtain⟨x,H1,I1,r1,q1⟩:=hpt
 obtain⟨z,e,q⟩:=q1
 subst e
 obtain⟨t,rfl⟩:=r1
 cases ha:z.cps.all (· <128)
 ·refine wpAny_pyIter_wide ha ?_
  refine⟨s1.heap.objs.size,[s1.heap.objs.size],_,_,H1,rfl,I1.kept (t':=s1.toks) fun b o e=>Heap.get?_push_of_some _ e,turn_str _ z t (ty:= "str_iterator") (.inr rfl),⟨_,Heap.get?_push_size _ rfl,rfl,rfl⟩,fun b hb=>?_,q⟩
  have e:b=s1.heap.objs.size:=by simpa using hb
  subst e
  exact I1.fpOk (Nat.le_refl _) (I1.hok.fresh (Nat.le_refl _))
 ·refine wpAny_pyIter_ascii ha ?_
  refine⟨s1.heap.objs.size,[s1.heap.objs.size],_,_,H1,rfl,I1.kept (t':=s1.toks) fun b o e=>Heap.get?_push_of_some _ e,turn_str _ z t (ty:= "str_ascii_iterator") (.inl rfl),⟨_,Heap.get?_push_size _ rfl,rfl,rfl⟩,fun b hb=>?_,q⟩
  have e:b=s1.heap.objs.size:=by simpa using hb
  subst e
  exact I1.fpOk (Nat.le_refl _) (I1.hok.fresh (Nat.le_refl _))
end
theorem yes {A B:Hp→Prop} {σ:St} {H:Hp} (h:A H):tYes σ H (fun b H4=>if b=true then A H4 else B H4):=by
 show if true=true then A H else B H
 exact kW h
section
variable {js:List Nat} {tt:TT} {te:TE} {σ:St} {Qd:List V→Hp→Prop}
theorem pX {lo:Int} {n:Nat} {H:Hp} (Pv:Nat→List V→Hp→Prop) (hn:n≤sizeLine) (h0:Pv 0 [] H) (hl:∀i ys H,Pv i ys H→ys.length≤i)
  (hs:∀i ys H,i <n→Pv i ys H→tt (some (.int (lo+i)):: cJ σ js) H fun b H4=>if b=true then te (some (.int (lo+i)):: cJ σ js) H4 fun y H5=>Pv (i+1) (ys ++ [y]) H5 else Pv (i+1) ys H4)
  (hd:∀ys H,Pv n ys H→Qd ys H):CompEnd js tt te σ Qd (Itr lo n) H:=by
 refine⟨fun i m ys H=>m=n - i∧i≤n∧Pv i ys H,⟨n,by simp,Nat.zero_le _,h0⟩,?_⟩
 rintro i m ys H ⟨rfl,hi,p⟩
 have hlen:=hl i ys H p
 by_cases hlt:i <n
 ·refine .inr ⟨hlt,by omega,Pv (i+1),fun ys' H' p'=>⟨n - (i+1),by omega,rfl,hlt,p'⟩,fun x H' y=>?_⟩
  obtain⟨e,y⟩:=y
  subst e y
  exact hs i ys _ hlt p
 ·have e:i=n:=by omega
  subst e
  exact .inl ⟨Nat.le_refl _,by omega,hd ys H p⟩
theorem pG {K:PySem.W.Frag} {a:Addr} {xs:List V} {H:Hp} (Pv:Nat→List V→Hp→Prop) (hn:xs.length≤sizeLine) (h0:Pv 0 [] H) (hl:∀i ys H,Pv i ys H→ys.length≤i) (hq:∀i ys H,i≤xs.length→Pv i ys H→SqL K H a xs)
  (hs:∀i x ys H,xs[i]?=some x→Pv i ys H→tt (some x:: cJ σ js) H fun b H4=>if b=true then te (some x:: cJ σ js) H4 fun y H5=>Pv (i+1) (ys ++ [y]) H5 else Pv (i+1) ys H4)
  (hd:∀ys H,Pv xs.length ys H→Qd ys H):CompEnd js tt te σ Qd (Itl K a) H:=by
 refine⟨fun i m ys H=>m=xs.length - i∧i≤xs.length∧Pv i ys H,⟨xs.length,by simp,Nat.zero_le _,h0⟩,?_⟩
 rintro i m ys H ⟨rfl,hi,p⟩
 have hlen:=hl i ys H p
 have q:=hq i ys H hi p
 by_cases hlt:i <xs.length
 ·refine .inr ⟨⟨xs,xs[i],q,by simp [hlt]⟩,by omega,Pv (i+1),fun ys' H' p'=>⟨xs.length - (i+1),by omega,rfl,hlt,p'⟩,fun x H' y=>?_⟩
  obtain⟨e,y⟩:=y
  subst e
  exact hs i x ys _ (y xs q) p
 ·have e:i=xs.length:=by omega
  subst e
  exact .inl ⟨⟨xs,q,Nat.le_refl _⟩,by omega,hd ys H p⟩
theorem comp_str {z:Str} {H:Hp} (Pv:Nat→List V→Hp→Prop) (hn:z.cps.size≤sizeLine) (h0:Pv 0 [] H) (hl:∀i ys H,Pv i ys H→ys.length≤i)
  (hs:∀i c ys H,z.cps[i]?=some c→Pv i ys H→tt (some (.str ⟨#[c]⟩):: cJ σ js) H fun b H4=>if b=true then te (some (.str ⟨#[c]⟩):: cJ σ js) H4 fun y H5=>Pv (i+1) (ys ++ [y]) H5 else Pv (i+1) ys H4)
  (hd:∀ys H,Pv z.cps.size ys H→Qd ys H):CompEnd js tt te σ Qd (Its z) H:=by
 refine⟨fun i m ys H=>m=z.cps.size - i∧i≤z.cps.size∧Pv i ys H,⟨z.cps.size,by simp,Nat.zero_le _,h0⟩,?_⟩
 rintro i m ys H ⟨rfl,hi,p⟩
 have hlen:=hl i ys H p
 by_cases hlt:i <z.cps.size
 ·refine .inr ⟨hlt,by omega,Pv (i+1),fun ys' H' p'=>⟨z.cps.size - (i+1),by omega,rfl,hlt,p'⟩,fun x H' y=>?_⟩
  obtain⟨e,c,hc,y⟩:=y
  subst e y
  exact hs i c ys _ hc p
 ·have e:i=z.cps.size:=by omega
  subst e
  exact .inl ⟨Nat.le_refl _,by omega,hd ys H p⟩
end
section
variable {X:Cx}
def rSlS:V→Option Int→Option Int→Hp→VK→Prop:=fun x lo hi H Q=>∃z,x=.str z∧z.length≤sizeLine∧Q (.str (Txt.slice z lo hi)) H
theorem sl_str:SlR X rSlS:=by
 intro pins s σ H x v vl vu lo hi sl Q I rx hs pl pu h
 obtain⟨z,rfl,hz,q⟩:=h
 obtain⟨t,rfl⟩:=rx
 refine⟨"str",_,PySem.F.slot_str_getitem.lookup,typeIs_str _ _ _,?_⟩
 have fin:∀t' k,EP X pins σ Q (.str (Txt.slice z lo hi) t') { s with toks:=k }:=fun t' k=>⟨.str _,H,I.tok k,⟨_,rfl⟩,q⟩
 cases pl with
 | none=>
  cases pu with
  | none=>exact wpAny_getItem_str_slice (l:=none) (u:=none) (st:=none) hs rfl (post_val_or_str ⟨Nat.le_trans (Txt.slice_le z _ _) hz,fin⟩)
  | int j tj=>exact wpAny_getItem_str_slice (l:=none) (u:=some (j,tj)) (st:=none) hs rfl (post_val_or_str ⟨Nat.le_trans (Txt.slice_le z _ _) hz,fin⟩)
 | int i ti=>
  cases pu with
  | none=>exact wpAny_getItem_str_slice (l:=some (i,ti)) (u:=none) (st:=none) hs rfl (post_val_or_str ⟨Nat.le_trans (Txt.slice_le z _ _) hz,fin⟩)
  | int j tj=>exact wpAny_getItem_str_slice (l:=some (i,ti)) (u:=some (j,tj)) (st:=none) hs rfl (post_val_or_str ⟨Nat.le_trans (Txt.slice_le z _ _) hz,fin⟩)
theorem Ab (hc:X.calm=true):qm X (.builtin "all") (fun xs H Q=>∃(p:Addr) (bs:List Bool),xs=[.ref p]∧SqL X.K H p (bs.map V.bl)∧Q (.bl (bs.all id)) H):=by
 intro pins s σ H xs us Q I r h
 obtain⟨p,bs,rfl,hq,q⟩:=h
 obtain⟨u,rfl,rx⟩:=vals1 r
 cases rx
 obtain⟨its,rv,pl,_⟩:=I.list hq
 have hl:=pl.isList
 have hlt:p <s.heap.objs.size:=by obtain⟨_,e,_⟩:=hl;exact Heap.lt_size e
 have hb:∀i v,its[i]?=some v→∃b,bs[i]?=some b∧v=Value.bool b:=fun i v e=>by
  have hi:i <its.length:=(List.getElem?_eq_some_iff.mp e).1
  have hi':i <bs.length:=by have:=rv.length;rw [List.length_map] at this;omega
  obtain⟨u,e',r'⟩:=rv.get (i:=i) (x:=.bl bs[i]) (by rw [List.getElem?_map,List.getElem?_eq_getElem hi'];rfl)
  rw [e] at e'
  cases e'
  exact⟨bs[i],List.getElem?_eq_getElem hi',r'⟩
 refine call_all_walk (wpAny_pyIter_list hl ?_)
 refine⟨s.heap.objs.size,[s.heap.objs.size,p],[s.heap.objs.size],its.toArray.size,_,_,fun i=>(bs[i]?).getD true,rfl,Walks.list (A:=X.A.in1) (I.ok.hd hc) _ p (Nat.ne_of_lt hlt) its.toArray,
  ⟨⟨_,Heap.get?_push_size _ rfl,rfl,rfl⟩,hl.push _⟩,fun i v s' Q' E' hP hQ=>?_,fun h' tk hk=>?_⟩
 ·obtain⟨b,e,rfl⟩:=hb i v (by simpa using hP)
  simp only [e,Option.getD_some] at hQ
  exact wpAny_truthy_bool hQ
 ·have e:((List.range its.toArray.size).all fun i=>(bs[i]?).getD true)=bs.all id:=by
   have hlen:=rv.length
   rw [List.length_map] at hlen
   rw [List.size_toArray,←hlen];exact LSm.range_all bs
  rw [e]
  exact⟨.bl _,H,I.kept (LSm.kept_iter hk),rfl,q⟩
end
end L2
set_option Elab.async false
set_option linter.all false
set_option maxRecDepth 100000
set_option Elab.async false
set_option maxHeartbeats 4000000
namespace L2
open PySem PySem.StrLaws PySem.Builtin PySem.Builtin.Str
end L2
namespace L2
open PySem
theorem aC {H:L2.Hp} {p:Addr} {o:L2.HO} (hp:H p=none):L2.aO H (L2.upd H p o):=fun b o' e=>by rw [L2.aK (L2.aD e hp)];exact e
end L2
namespace L2
open PySem PySem.SeqAt
open AutoSeq1 (wpAny_loadPart')
open MeetsSeq MeetsSeq2 MeetsSeq3 SeqRoads2
section
variable {A:Around} {s:Shared}
end
open PySem.Spec PyProof.Rows
end L2
set_option Elab.async false
set_option linter.all false
set_option maxRecDepth 100000
set_option Elab.async false
set_option maxHeartbeats 4000000
namespace L2
open PySem PySem.Spec PyProof.Rows
structure MethAt (P:Program) (w:World) (K:PySem.W.Frag) (mg:Str→Option Value) (base:Heap) (CX:CXT) (k:Nat) (C:Addr) (m:Str) (sp:Sp):Prop where
 ex:∃(f:Addr) (fd:FuncData) (ps:List Str),Cls K C∧Meth K C m f∧Binds K fd ps []∧FnOk P w K mg base CX k f fd ps sp
def tMethD (P:Program) (w:World) (K:PySem.W.Frag) (mg:Str→Option Value) (base:Heap) (CX:CXT) (k:Nat) (m:Str) (E:XK) (ta:TE) (t:TA):TE:=fun σ H Q=>ta σ H fun x H1=>∃a C dx fs sp,x=.ref a∧H1 a=some (.ins C dx fs)∧fs.lookup m=none∧
 MethAt P w K mg base CX k C m sp∧t σ H1 fun vs H2=>sp (x:: vs) H2 Q E
section
variable {X:Cx} {CX:CXT} {k:Nat} {E:XK} {m:Str} {pos apos:Pos} {e o:Expr} {es:List Expr} {ta:TE} {t:TA}
theorem pe_methD0 {pl:Sem Bool} (he:PE X o ta) (hr:Room k X.A) (hx:oV CX X E)
  (ht:eval (.Call (.Attribute o m apos) [] [] pos) X.env=(do
   let ov ←eval o X.env
   standAt apos.atName
   let (f,first) ←holding [ov] (getMethod ov m pl)
   callWith pos f first (backTo pos (starEach [] X.env)) (backToKw pos (keywordEach [] X.env))):=by rfl):
  PE X (.Call (.Attribute o m apos) [] [] pos) (tMethD X.prog X.w X.K X.mg X.base CX k m E ta tNil):=by
 intro pins s σ H Q I h
 refine PySem.W.methodCall_KW (pl:=pl) (thn (he pins s σ H _ I h) fun u s1 hpt=>?_) ht
 obtain⟨x,H1,I1,rx,a,C,dx,fs,sp,ex,ea,l,⟨f,fd,ps,c,hm,hb,F⟩,q⟩:=hpt
 subst ex
 obtain rfl:u=Value.ref a:=rx
 refine wZ I1 ea c hm l ?_
 exact PySem.W.callWith_K0 (first:=[.ref a]) I1.kIn hm.kp (run_fn (us:=[.ref a]) (vs:=[.ref a]) (ds:=[]) (dvs:=[]) F hr hb .nil hx I1 (.cons rfl .nil) (by rw [List.append_nil];exact q))
end
section
variable {X:Cx}
end
inductive KRows (w:World) (K:PySem.W.Frag):List DictEntry→List (Str×List Int)→Prop
 | nil:KRows w K [] []
 | cons {x:Str} {t:Tok} {ad:Addr} {ns:List Int} {es:List DictEntry} {rows:List (Str×List Int)} {h:Int} {its:Array Value} {n:Nat} {o:Obj}:
   h=hashStr w x→K.lookup ad=some o→o.cls=.type "tuple" →o.data=.seq its n→Vals (ns.map V.int) its.toList→ns.length≤1000→KRows w K es rows→KRows w K (⟨h,.str x t,.ref ad⟩:: es) ((x,ns):: rows)
def KTab (w:World) (K:PySem.W.Frag) (a:Addr) (rows:List (Str×List Int)):Prop:=
 ∃(o:Obj) (es:Array DictEntry) (ep:Nat),K.lookup a=some o∧o.cls=.type "dict" ∧o.dict=none∧o.slots= #[]∧o.data=.dict es ep∧(a == sysModules)=false∧KRows w K es.toList rows∧(rows.map (·.1)).Nodup
theorem KTab.mk' {w:World} {K:PySem.W.Frag} {a:Addr} {rows:List (Str×List Int)} {o:Obj} {es:Array DictEntry} {ep:Nat} (lk:K.lookup a=some o) (c1:o.cls=.type "dict") (c2:o.dict=none) (c3:o.slots= #[]) (c4:o.data=.dict es ep) (sm:(a == sysModules)=false)
  (rw':KRows w K es.toList rows) (nd:(rows.map (·.1)).Nodup):KTab w K a rows:=⟨o,es,ep,lk,c1,c2,c3,c4,sm,rw',nd⟩
def rowOf (rows:List (Str×List Int)) (z:Str):Option (List Int):=(rows.find? fun r=>decide (r.1=z)).map (·.2)
section
variable {P:Program} {w:World} {K:PySem.W.Frag}
theorem KRows.kvs:∀{es:List DictEntry} {rows:List (Str×List Int)},KRows w K es rows→∃kvs:List (Key×Value),Pairs (dH P w) es kvs∧kvs.map (·.1)=rows.map (fun r=>(Sum.inr r.1:Key))∧
  (∀e∈es,∃k,(dH P w).is k e.key=true∧e.hash=(dH P w).hash k)∧
  ∀z,(rowOf rows z=none→valueAt kvs (Sum.inr z)=none)∧∀ns,rowOf rows z=some ns→∃ad,valueAt kvs (Sum.inr z)=some (.ref ad)∧∀H,SqT K H ad (ns.map V.int)
 | _,_,.nil=>⟨[],.nil,rfl,fun e he=>(by cases he),fun z=>⟨fun _=>rfl,fun ns e=>by cases e⟩⟩
 | _,_,@KRows.cons _ _ x t ad ns es rows h its n o hh hl hc hdt hv hz hr=>by
  obtain⟨kvs,p,hk,ho,hf⟩:=KRows.kvs hr
  refine⟨(Sum.inr x,.ref ad):: kvs,.cons (n6 P w x t) rfl p,by rw [List.map_cons,List.map_cons,hk],fun e he=>?_,fun z=>?_⟩
  ·rcases List.mem_cons.mp he with e1 | he
   ·subst e1
    exact⟨Sum.inr x,n6 P w x t,hh⟩
   ·exact ho e he
  ·by_cases hx:x=z
   ·subst hx
    have e1:rowOf ((x,ns):: rows) x=some ns:=by simp [rowOf]
    have e2:valueAt ((Sum.inr x,Value.ref ad):: kvs) (Sum.inr x:Key)=some (.ref ad):=by simp [valueAt]
    rw [e1,e2]
    refine⟨fun e=>by (cases e),fun ms e=>⟨ad,rfl,fun H=>.inr ⟨_,its,n,hl,hc,hdt,?_,?_⟩⟩⟩
    ·have:=hv.length
     have hs:sizeLine=16777216:=sizeLine_eq
     simp at this
     omega
    ·cases e;exact hv
   ·have e1:rowOf ((x,ns):: rows) z=rowOf rows z:=by simp [rowOf,hx]
    have hx':¬(Sum.inr x:Key)=Sum.inr z:=fun q=>hx (Sum.inr.inj q)
    have e2:valueAt ((Sum.inr x,Value.ref ad):: kvs) (Sum.inr z:Key)=valueAt kvs (Sum.inr z):=by simp [valueAt,hx']
    rw [e1,e2]
    exact hf z
theorem KTab.map {a:Addr} {rows:List (Str×List Int)} {h:Heap} (T:KTab w K a rows) (hk:K.In h):∃f:Key→Option Value,h.MapOf (dH P w) a f∧(a == sysModules)=false∧
  ∀z,(rowOf rows z=none→f (Sum.inr z)=none)∧∀ns,rowOf rows z=some ns→∃ad,f (Sum.inr z)=some (.ref ad)∧∀H,SqT K H ad (ns.map V.int):=by
 obtain⟨o,es,ep,hl,c1,c2,c3,c4,hs,hr,nd⟩:=T
 obtain⟨kvs,p,hkk,ho,hf⟩:=hr.kvs (P:=P)
 have D:h.DictOf (dH P w) a kvs:=⟨o,es,ep,hk a _ hl,⟨c1,c2,c3⟩,c4,fun e he=>ho e (by simpa using he),p,?_⟩
 ·exact⟨_,D.mapOf,hs,hf⟩
 ·rw [hkk]
  have:rows.map (fun r=>(Sum.inr r.1:Key))=(rows.map (·.1)).map Sum.inr:=by rw [List.map_map];rfl
  rw [this]
  exact List.Pairwise.map _ (fun a b hab e=>hab (Sum.inr.inj e)) nd
end
section
variable {X:Cx} {i o:Expr} {ty td:TE} {pos:Pos}
def tInK (w:World) (K:PySem.W.Frag) (ty td:TE):TE:=fun σ H Q=>ty σ H fun y H1=>td σ H1 fun x H2=>∃a rows z,x=.ref a∧KTab w K a rows∧y=.str z∧Q (.bl (rowOf rows z).isSome) H2
theorem pc_inK (hi:PE X i ty) (ho:PE X o td):PC X .In i o (tInK X.w X.K ty td):=by
 intro pins s σ H Q I h
 refine thn (hi pins s σ H _ I h) fun iv s1 ⟨y,H1,I1,ry,q1⟩=>thn (ho pins s1 σ H1 _ I1 q1) fun u s2 hpt=>?_
 obtain⟨x,H2,I2,rx,a,rows,z,ex,T,ey,q2⟩:=hpt
 subst ex
 subst ey
 obtain rfl:u=Value.ref a:=rx
 obtain⟨t,rfl⟩:=ry
 obtain⟨f,M,hs,hf⟩:=T.map (P:=X.prog) I2.kIn
 refine wpAny_in_of (k:=(Sum.inr z:Key)) (n6 X.prog X.w z t) hs M ?_
 refine⟨.bl (rowOf rows z).isSome,H2,I2.tok _,?_,q2⟩
 cases e:rowOf rows z with
 | none=>rw [(hf z).1 e];rfl
 | some ns=>obtain⟨ad,e1,_⟩:=(hf z).2 ns e;rw [e1];rfl
def rIxK (w:World) (K:PySem.W.Frag):R2:=fun x y H Q=>∃a rows z ns,x=.ref a∧KTab w K a rows∧y=.str z∧rowOf rows z=some ns∧∀ad,SqT K H ad (ns.map V.int)→Q (.ref ad) H
theorem ix_K:IxR X (rIxK X.w X.K):=by
 intro value slice pins s σ H x y v u Q I rx ry h hs
 obtain⟨a,rows,z,ns,rfl,T,rfl,e,q⟩:=h
 cases rx
 obtain⟨t,rfl⟩:=ry
 obtain⟨f,M,hsm,hf⟩:=T.map (P:=X.prog) I.kIn
 obtain⟨ad,e1,e2⟩:=(hf z).2 ns e
 exact tail_any M.typeIs PySem.F.slot_dict_getitem.lookup (wpAny_getItem_of (k:=(Sum.inr z:Key)) (n6 X.prog X.w z t) M e1 ⟨.ref ad,H,I.tok _,rfl,q ad (e2 H)⟩) hs
theorem pe_getK (ho:PE X o td) (hi:PE X i ty) (hs:PlainIx i):PE X (.Subscript o i pos) (tOp (rIxK X.w X.K) td ty):=bG ix_K ho hi hs
end
def SqA (K:PySem.W.Frag) (H:Hp) (a:Addr) (xs:List V):Prop:=SqL K H a xs∨SqT K H a xs
theorem aO.seqT {K:PySem.W.Frag} {H H':Hp} {a:Addr} {xs:List V} (e:aO H H') (h:SqT K H a xs):SqT K H' a xs:=by
 rcases h with (h | ⟨o,h⟩) | h
 ·exact .inl (.inl (e _ _ h))
 ·exact .inl (.inr ⟨o,e _ _ h⟩)
 ·exact .inr h
theorem aO.seqA {K:PySem.W.Frag} {H H':Hp} {a:Addr} {xs:List V} (e:aO H H') (h:SqA K H a xs):SqA K H' a xs:=h.elim (fun h=>.inl (e.seq h)) fun h=>.inr (e.seqT h)
def But (p:Addr) (H H':Hp):Prop:=∀b o,b≠p→H b=some o→H' b=some o
theorem But.refl {p:Addr} (H:Hp):But p H H:=fun _ _ _ e=>e
theorem But.trans {p:Addr} {H H1 H2:Hp} (a:But p H H1) (b:But p H1 H2):But p H H2:=fun c o n e=>b c o n (a c o n e)
theorem But.of_same {p:Addr} {H H1:Hp} (a:aO H H1):But p H H1:=fun c o _ e=>a c o e
theorem But.write {p:Addr} {H:Hp} {o:HO}:But p H (upd H p o):=fun b u n e=>by rw [aK n];exact e
theorem But.seqT {K:PySem.W.Frag} {H H':Hp} {p a C dx:Addr} {fs:List (Str×V)} {xs:List V} (e:But p H H') (hp:H p=some (.ins C dx fs)) (h:SqT K H a xs):SqT K H' a xs:=by
 rcases h with (h | ⟨o,h⟩) | h
 ·exact .inl (.inl (e _ _ (wk h hp (by intro z;cases z)) h))
 ·exact .inl (.inr ⟨o,e _ _ (wk h hp (by intro z;cases z)) h⟩)
 ·exact .inr h
theorem But.seqL {K:PySem.W.Frag} {H H':Hp} {p a C dx:Addr} {fs:List (Str×V)} {xs:List V} (e:But p H H') (hp:H p=some (.ins C dx fs)) (h:SqL K H a xs):SqL K H' a xs:=by
 rcases h with (h | ⟨o,h⟩) | h
 ·exact .inl (.inl (e _ _ (wk h hp (by intro z;cases z)) h))
 ·exact .inl (.inr ⟨o,e _ _ (wk h hp (by intro z;cases z)) h⟩)
 ·exact .inr h
theorem But.seqA {K:PySem.W.Frag} {H H':Hp} {p a C dx:Addr} {fs:List (Str×V)} {xs:List V} (e:But p H H') (hp:H p=some (.ins C dx fs)) (h:SqA K H a xs):SqA K H' a xs:=h.elim (fun h=>.inl (e.seqL hp h)) fun h=>.inr (e.seqT hp h)
theorem tup_read {K:PySem.W.Frag} {H:Hp} {a:Addr} {xs:List V} {Q:VK} (h:SqA K H a xs) (k:∀H' u,aO H H'→SqT K H' u xs→Q (.ref u) H'):
  ∃p ys,[V.ref a]=[.ref p]∧((SqL K H p ys∧∀l,H l=none→Q (.ref l) (upd H l (.tup ys)))∨(SqT K H p ys∧Q (.ref p) H)):=by
 rcases h with h | h
 ·exact⟨a,xs,rfl,.inl ⟨h,fun l hl=>k _ _ (aC hl) (SqT.of aq)⟩⟩
 ·exact⟨a,xs,rfl,.inr ⟨h,k _ _ (aO.refl _) h⟩⟩
theorem rG {X:Cx}:qm X (.type "tuple") (fun xs H Q=>∃a ys,xs=[.ref a]∧SqA X.K H a ys∧∀H' u,aO H H'→SqT X.K H' u ys→Q (.ref u) H'):=by
 intro pins s σ H xs us Q I r h
 obtain⟨a,ys,rfl,hq,q⟩:=h
 exact call_tuple_of pins s σ H _ us Q I r (tup_read hq q)
section
variable {es:List Expr} {env:Env}
theorem cg {a b c}:starEach (.Tuple a b c:: es) env=(false,eval (.Tuple a b c) env):: starEach es env:=rfl
theorem aR {a b}:starEach (.List a b:: es) env=(false,eval (.List a b) env):: starEach es env:=rfl
theorem ao {a b c}:starEach (.Constant a b c:: es) env=(false,eval (.Constant a b c) env):: starEach es env:=rfl
theorem aj {a b}:starEach (.Name a b:: es) env=(false,eval (.Name a b) env):: starEach es env:=rfl
theorem aW {a b c d}:starEach (.Call a b c d:: es) env=(false,eval (.Call a b c d) env):: starEach es env:=rfl
theorem bZ {a b c d}:starEach (.BinOp a b c d:: es) env=(false,eval (.BinOp a b c d) env):: starEach es env:=rfl
theorem aY {a b c}:starEach (.Attribute a b c:: es) env=(false,eval (.Attribute a b c) env):: starEach es env:=rfl
theorem aJ {a b c}:starEach (.Subscript a b c:: es) env=(false,eval (.Subscript a b c) env):: starEach es env:=rfl
theorem gU {a b c d}:starEach (.ListComp a b c d:: es) env=(false,eval (.ListComp a b c d) env):: starEach es env:=rfl
theorem star_IfExp {a b c d}:starEach (.IfExp a b c d:: es) env=(false,eval (.IfExp a b c d) env):: starEach es env:=rfl
end
section
variable {X:Cx} {scope:Scope} {x:Str} {js:List Nat} {cl:List (Str×Addr)} {C:Addr} {s:Shared} {H:Hp} {ex:List Addr}
end
section
variable {X:Cx}
end
end L2
set_option Elab.async false
set_option linter.all false
set_option maxRecDepth 100000
set_option Elab.async false
set_option maxHeartbeats 4000000
namespace L2
open PySem PySem.Spec PyProof.Rows
def Iten (K:PySem.W.Frag) (a:Addr):It:=
 ⟨fun i H=>∃xs x,SqL K H a xs∧xs[i]?=some x,fun i H v H'=>∃u y,H u=none∧v=.ref u∧H'=upd H u (.tup [.int (i:Nat),y])∧∀xs,SqL K H a xs→xs[i]?=some y,fun i H=>∃xs,SqL K H a xs∧xs.length≤i⟩
theorem turn_enum {P:Program} {w:World} {K:PySem.W.Frag} {elts:List Expr} {x1:_} {tpos:Pos} (a e it:Addr) (hne:e≠it):
  Turn P w K (.Tuple elts x1 tpos) (Iten K a) [e,it] e (fun i h=>(∃old,IsEnum h e it ((i:Nat):Int) old)∧h.IsListIter it a i) where
 mem:=by simp
 obj:=fun i h st b hb=>by
  obtain⟨⟨old,he⟩,hit⟩:=st
  have hb':b=e∨b=it:=by simpa using hb
  rcases hb' with z | z
  ·subst z
   exact⟨_,he,fun v z=>by cases z⟩
  ·subst z
   obtain⟨o,e1,c,d⟩:=hit
   exact⟨o,e1,fun v z=>by rw [d] at z;cases z⟩
 keep:=fun i h h' st k=>by
  obtain⟨⟨old,he⟩,hit⟩:=st
  exact⟨⟨old,k e (by simp) _ he⟩,hit.at fun o e1=>k it (by simp) o e1⟩
 item:=by
  intro X hP hw hK hc i pins s σ H E I hf st hg
  subst hP hw hK
  obtain⟨⟨old,he⟩,hit⟩:=st
  obtain⟨xs,x,hq,hx⟩:=hg
  obtain⟨its,rv,p,hz⟩:=I.list hq
  obtain⟨u,hu,ru⟩:=rv.get hx
  obtain⟨f0,f1,f2,f3,f4,f5⟩:=hf it (by simp)
  obtain⟨g0,g1,g2,g3,g4,g5⟩:=hf e (by simp)
  refine wpAny_pyNext_enum_item he hit p.isList (x:=u) (by simpa using hu) hne fun h1 heo hit1 ht1 hz1 hk1=>?_
  refine⟨_,rfl,wpAny_letOwnedTupleGo_enum heo fun h2 he2 hs2=>?_⟩
  have hs2':Heap.SameBut e h1 h2:=hs2
  have heS:e <s.heap.objs.size:=Heap.lt_size he
  have hnE:s.heap.objs.size≠e:=Nat.ne_of_gt heS
  have kp:∀b o,b≠e→b≠it→s.heap.get? b=some o→h2.get? b=some o:=fun b o n1 n2 q=>(hs2'.2 b n1).trans (hk1 b o n1 n2 q)
  have nn:∀b o,s.heap.get? b=some o→b≠s.heap.objs.size:=fun b o q=>Nat.ne_of_lt (Heap.lt_size q)
  have hfr:H s.heap.objs.size=none:=I.hok.fresh (Nat.le_refl _)
  have tupN:h2.get? s.heap.objs.size=some { cls:=.type "tuple",data:=.seq #[.int i s.toks,u] }:=(hs2'.2 _ hnE).trans ht1
  have tr:∀b o,H b=some o→b≠e∧b≠it:=fun b o q=>⟨fun z=>(by rw [z,g0] at q;cases q),fun z=>(by rw [z,f0] at q;cases q)⟩
  have ok2:HOk X.prog X.w (upd H s.heap.objs.size (.tup [.int (i:Nat),x])) h2:=fun b o q=>by
   by_cases hb:b=s.heap.objs.size
   ·rw [hb,aq] at q
    cases q
    rw [hb]
    exact⟨by show 2≤sizeLine;decide,[.int i s.toks,u],.cons ⟨_,rfl⟩ (.cons ru .nil),⟨_,tupN,rfl,_,rfl⟩⟩
   ·rw [aK hb] at q
    refine(I.hok b o q).stay (fun c v hc q'=>?_) (fun c q'=>by rw [aK (aD q' hfr)];exact q') fun c ys q'=>by rw [aK (aD q' hfr)];exact q'
    rcases hc with z | z
    ·rw [z] at q' ⊢
     exact kp _ _ (tr _ _ q).1 (tr _ _ q).2 q'
    ·exact kp _ _ (tr _ _ z).1 (tr _ _ z).2 q'
  refine⟨.ref s.heap.objs.size,upd H s.heap.objs.size (.tup [.int (i:Nat),x]),?_,rfl,⟨_,x,hfr,rfl,rfl,fun ys hy=>by rw [I.list_inj hy hq];exact hx⟩,⟨⟨_,by simpa using he2⟩,hit1.at fun o e1=>(hs2'.2 _ (Ne.symm hne)).trans e1⟩,fun b hb=>?_⟩
  ·show Inv X pins σ (upd H s.heap.objs.size (.tup [.int (i:Nat),x])) { s with heap:=h2,gens:=s.gens,drawn:=s.drawn,toks:=s.toks+1 }
   refine I.step (g':=s.gens) (d':=s.drawn) (t':=s.toks+1) (ch:=[e,it]) (fun b hb=>?_) (fun b o _ _ hc q _=>kp b o (fun z=>hc (by simp [z])) (fun z=>hc (by simp [z])) q)
    (fun b o _ _ hc q _=>⟨o.slots,kp b o (fun z=>hc (by simp [z])) (fun z=>hc (by simp [z])) q⟩) (fun b o _ q n=>by rw [aK (nn b o q)];exact n)
    (fun b o hc q=>⟨o,kp b o (fun z=>hc (by simp [z])) (fun z=>hc (by simp [z])) q⟩) (fun b ys q=>by rw [aK (aD q hfr)];exact q) (fun b o ys q=>by rw [aK (aD q hfr)];exact q)
    (fun b ps q=>⟨#[],by rw [aK (aD q hfr),q];simp⟩) (fun m hm=>?_) ok2 I.bare
   ·have hb':b=e∨b=it:=by simpa using hb
    rcases hb' with z | z
    ·subst z;exact⟨g3,g1,g4,g5⟩
    ·subst z;exact⟨f3,f1,f4,f5⟩
   ·obtain⟨o,es,ep,ho,r⟩:=hm
    exact⟨o,es,ep,kp _ o (Ne.symm g1) (Ne.symm f1) ho,r⟩
  ·have hb':b=e∨b=it:=by simpa using hb
   rcases hb' with z | z
   ·subst z;rw [aK (Ne.symm hnE)];exact g0
   ·subst z
    obtain⟨o,e1,_⟩:=hit
    rw [aK (nn _ o e1)];exact f0
 done:=by
  intro X hP hw hK hc i pins s σ H E I hf st hg
  subst hP hw hK
  obtain⟨⟨old,he⟩,hit⟩:=st
  obtain⟨xs,hq,hx⟩:=hg
  obtain⟨its,rv,p,hz⟩:=I.list hq
  obtain⟨f0,f1,f2,f3,f4,f5⟩:=hf it (by simp)
  have hl:=rv.length
  exact wpAny_pyNext_enum_end (I.ok.hd hc) he hit p.isList (by simp;omega) fun h' eb=>⟨rfl,I.turned (t':=s.toks) (fun b o hb e=>eb b o hb e) f0 f1 f3 f4 f5⟩
 self:=fun _ _ _ _ _ st h=>by
  obtain⟨⟨old,he⟩,_⟩:=st
  exact wpAny_pyIter_enum he h
section
variable {X:Cx}
theorem bt_enumerate:bootBuiltins "enumerate" =some (.type "enumerate"):=by decide +kernel
def iEnum (K:PySem.W.Frag) (ta:TA):TI:=fun σ H R=>ta σ H fun vs H1=>∃a,vs=[.ref a]∧(∃xs,SqL K H1 a xs)∧R (Iten K a) H1
theorem pi_enum {l:Expr} {ta:TA} {p pos tpos:Pos} {elts:List Expr} {x1:_} (hg:Gl X "enumerate") (hm:X.mg "enumerate" =none) (ha:PA X [l] ta) (hs:starEach [l] X.env=[(false,eval l X.env)]:=by rfl):
  PI X (.Tuple elts x1 tpos) (.Call (.Name "enumerate" p) [l] [] pos) (iEnum X.K ta):=by
 intro pins s σ H R I h
 refine Call_ (zU I hg hm bt_enumerate (PyProof.Rows.callWith_type1 (thn (ha pos pins s σ H _ I h) fun us s1 ⟨vs,H1,I1,r1,q1⟩=>?_) hs rfl))
 obtain⟨a,e,⟨xs,hq⟩,q⟩:=q1
 subst e
 obtain⟨u,rfl,ru⟩:=vals1 r1
 cases ru
 obtain⟨its,rv,pl,hz⟩:=I1.list hq
 refine call_enumerate_list pl.isList fun h' he hit hz' kp=>wpAny_pyIter_enum he ?_
 have I2:Inv X pins σ H1 { s1 with heap:=h' }:=I1.kept (t':=s1.toks) kp
 refine⟨s1.heap.objs.size+1,[s1.heap.objs.size+1,s1.heap.objs.size],_,_,H1,rfl,I2,turn_enum a _ _ (Nat.ne_of_gt (Nat.lt_succ_self _)),⟨⟨_,he⟩,hit⟩,fun b hb=>?_,q⟩
 have hb':b=s1.heap.objs.size+1∨b=s1.heap.objs.size:=by simpa using hb
 rcases hb' with z | z <;> subst z
 ·exact I1.fpOk (Nat.le_succ _) (I1.hok.fresh (Nat.le_succ _))
 ·exact I1.fpOk (Nat.le_refl _) (I1.hok.fresh (Nat.le_refl _))
theorem for_enum {K:PySem.W.Frag} {a:Addr} {xs:List V} {g:TG} {tb:TS} {D:Ends} {σ:St} {H:Hp} (Pv:Nat→St→Hp→Prop) (h0:Pv 0 σ H) (hl:∀i σ H,i≤xs.length→Pv i σ H→SqL K H a xs)
  (hs:∀i x σ H,xs[i]?=some x→Pv i σ H→∀u,H u=none→g (.ref u) σ (upd H u (.tup [.int (i:Nat),x])) fun σ' H'=>tb { D with nx:=Pv (i+1),ct:=Pv (i+1),bk:=D.nx } σ' H') (hd:∀σ H,Pv xs.length σ H→D.nx σ H):
  ∃W:Nat→Nat→St→Hp→Prop,(∃m,W 0 m σ H)∧∀i m σ H,W i m σ H→
   ((Iten K a).stop i H∧D.nx σ H)∨((Iten K a).go i H∧∃N:St→Hp→Prop,(∀σ' H',N σ' H'→∃m',m' <m∧W (i+1) m' σ' H')∧∀x H',(Iten K a).yld i H x H'→g x σ H' fun σ' H2=>tb { D with nx:=N,ct:=N,bk:=D.nx } σ' H2):=by
 refine⟨fun i m σ H=>m=xs.length - i∧i≤xs.length∧Pv i σ H,⟨xs.length,by simp,Nat.zero_le _,h0⟩,?_⟩
 rintro i m σ H ⟨rfl,hi,p⟩
 have q:=hl i σ H hi p
 by_cases hlt:i <xs.length
 ·refine .inr ⟨⟨xs,xs[i],q,by simp [hlt]⟩,Pv (i+1),fun σ' H' p'=>⟨xs.length - (i+1),by omega,rfl,hlt,p'⟩,fun x H' y=>?_⟩
  obtain⟨u,z,hu,ex,eH,hy⟩:=y
  subst ex eH
  exact hs i z σ H (hy xs q) p u hu
 ·have e:i=xs.length:=by omega
  subst e
  exact .inl ⟨⟨xs,q,Nat.le_refl _⟩,hd σ H p⟩
end
end L2
set_option Elab.async false
set_option linter.all false
set_option maxRecDepth 100000
set_option Elab.async false
set_option maxHeartbeats 4000000
namespace L2
open PySem PySem.Spec PyProof.Rows
section
variable {P:Program} {w:World} {K:PySem.W.Frag} {mg:Str→Option Value} {base:Heap} {N:List Str} {qual:Str} {scope:Scope} {f:Addr} {cd:Value} {A:Around} {outer:List Env} {s:Shared} {H:Hp} {E:XK}
end
structure ExcCls (K:PySem.W.Frag) (C:Addr):Prop where
 ex:∃(nm q:Str) (Nn:Addr) (bs bm bmB:List Value) (hdct:Bool) (sn:List Str) (sub:List Value) (ab:Bool) (col:Option Bool) (dd:Option Addr) (k0 k1 k2 k3 k5:Option Value) (B newId initId:String) (mN:Str→Option Value),
  ExcBaseFacts B newId initId bmB∧bm.contains (.type "BaseException")=true∧mN "__init__" =none∧
  ∀h:Heap,K.In h→h.get? C=some (excClassObj nm q C Nn bs bm hdct sn sub ab col dd k0 k1 k2 k3 k5 newId)∧h.Ns Nn mN∧OwnTail h bmB bm
section
variable {P:Program} {w:World} {K:PySem.W.Frag} {mg:Str→Option Value} {base:Heap} {N:List Str} {qual:Str} {scope:Scope} {f:Addr} {cd:Value} {A:Around} {outer:List Env} {s:Shared} {H:Hp} {E:XK}
def tRaise (E:XK) (C:Addr) (ta:TA):TS:=fun _ σ H=>ta σ H fun vs H1=>vs.length≤1000∧E (.ref C) none H1
end
theorem un_up {fs:List Addr} {H H2:Hp} {h h2 h3 B:Heap} (u:Un fs [] H H2 h h2) (inB:∀b o,h.get? b=some o→b∉fs→∃o',B.get? b=some o') (st2:B.StaysIn h2) (st3:B.StaysIn h3) (up:h2.UpToSlots h3)
  (fd:∀b o,h2.get? b=some o→b∈fs→∀vs,o.data≠.fields vs):Un fs [] H H2 h h3:=by
 have go:∀b o,h2.get? b=some o→(∃o',B.get? b=some o')→h3.get? b=some o:=fun b o q ⟨o',q'⟩=>by
  have:=st2 b o' q'
  rw [q] at this
  cases this
  exact st3 b _ q'
 refine⟨fun b o q n hb hx=>go b o (u.keep b o q n hb hx) (inB b o q hb),fun b o q n hb hx=>?_,fun b o q n hx=>u.free b o q n hx,fun b o q hx=>?_,u.tups,u.frzs,u.tbls⟩
 ·obtain⟨sl,k1⟩:=u.slot b o q n hb hx
  obtain⟨sl2,k2⟩:=up b _ k1 (fd b _ k1 hb)
  exact⟨sl2,k2⟩
 ·obtain⟨o2,k2⟩:=u.there b o q hx
  by_cases hb:b∈fs
  ·obtain⟨sl3,k3⟩:=up b _ k2 (fd b _ k2 hb)
   exact⟨_,k3⟩
  ·exact⟨o2,go b o2 k2 (inB b o q hb)⟩
theorem dO.some_at {P:Program} {w:World} {H:Hp} {h:Heap} {a:Addr} {o:HO} (x:dO P w H h a o):∃ob,h.get? a=some ob:=by
 cases o with
 | lst xs=>obtain⟨_,_,_,_,e⟩:=x;exact⟨_,e⟩
 | tup xs=>obtain⟨_,_,_,ob,e,_⟩:=x;exact⟨_,e⟩
 | dK kvs=>obtain⟨_,_,_,_,o,_,_,e,_⟩:=x;exact⟨_,e⟩
 | dT kvs=>obtain⟨_,_,_,_,o,_,_,e,_⟩:=x;exact⟨_,e⟩
 | set S n=>obtain⟨o,_,_,_,e,_⟩:=x;exact⟨_,e⟩
 | ins C dx fs=>obtain⟨_,_,_,e,_⟩:=x;exact⟨_,e⟩
 | own y=>exact x
 | xd fs=>obtain⟨_,⟨_,_,_,e,_⟩,_⟩:=x;exact⟨_,e⟩
 | rng lo hi=>obtain⟨_,_,_,e⟩:=x;exact⟨_,e⟩
 | frz ob u=>obtain⟨e,_⟩:=x;exact⟨_,e⟩
 | tbl ps=>exact⟨_,(show h.get? a=some _ from x)⟩
 | met f y=>exact⟨_,(show h.get? a=some _ from x)⟩
 | ext φ=>obtain⟨_,e,_⟩:=x;exact e
def Cx.over (X:Cx) (pn:List (Addr×Obj)) (E:Value→Shared→Prop):Cx:={ X with pn:=pn,xe:=E }
def Cx.marked (X:Cx) (x:Addr):Cx:={ X with A:=X.A.mark (some (.ref x)),calm:=false,xe:=fun _ _=>False }
section
variable {X:Cx} {pins:List (Addr×Obj)} {σ:St} {H:Hp} {s:Shared} {E:Value→Shared→Prop}
theorem Cx.Ok.over {pn:List (Addr×Obj)} (ok:X.Ok):(X.over pn E).Ok:=
 ⟨ok.mod,ok.kind,ok.glob,ok.blt,ok.above,ok.inj,ok.has,ok.cab,ok.hd,ok.frames,ok.stk,ok.exf,ok.bs,ok.bsz,ok.noex,ok.exfs,ok.funs,ok.frf⟩
theorem Cx.Ok.unover {pn:List (Addr×Obj)} (ok:(X.over pn E).Ok):X.Ok:=
 ⟨ok.mod,ok.kind,ok.glob,ok.blt,ok.above,ok.inj,ok.has,ok.cab,ok.hd,ok.frames,ok.stk,ok.exf,ok.bs,ok.bsz,ok.noex,ok.exfs,ok.funs,ok.frf⟩
theorem Inv.over (I:Inv X pins σ H s):Inv (X.over (X.pn ++ pins) E) [] σ H s:=⟨I.ok.over,I.os,I.bare,I.base,I.loc,I.cell,I.free,I.freeC,fun p hp=>I.pin p (by simpa [Cx.over] using hp),I.hok,I.len⟩
theorem Inv.unover {pins':List (Addr×Obj)} (I:Inv (X.over (X.pn ++ pins) E) pins' σ H s):Inv X pins σ H s:=⟨I.ok.unover,I.os,I.bare,I.base,I.loc,I.cell,I.free,I.freeC,fun p hp=>I.pin p (List.mem_append_left _ hp),I.hok,I.len⟩
theorem Inv.marked {x:Addr} (I:Inv X pins σ H s):Inv (X.marked x) pins σ H s:=
 ⟨⟨I.ok.mod,I.ok.kind,I.ok.glob,I.ok.blt,I.ok.above,I.ok.inj,I.ok.has,I.ok.cab,fun h=>absurd h (by simp [Cx.marked]),I.ok.frames,I.ok.stk,I.ok.exf,I.ok.bs,I.ok.bsz,I.ok.noex,I.ok.exfs,I.ok.funs,I.ok.frf⟩,I.os,I.bare,I.base,I.loc,I.cell,I.free,I.freeC,I.pin,I.hok,I.len⟩
theorem Inv.unmarked {x:Addr} (hc:X.calm=true→X.A.handled=none) (I:Inv (X.marked x) pins σ H s):Inv X pins σ H s:=
 ⟨⟨I.ok.mod,I.ok.kind,I.ok.glob,I.ok.blt,I.ok.above,I.ok.inj,I.ok.has,I.ok.cab,hc,I.ok.frames,I.ok.stk,I.ok.exf,I.ok.bs,I.ok.bsz,I.ok.noex,I.ok.exfs,I.ok.funs,I.ok.frf⟩,I.os,I.bare,I.base,I.loc,I.cell,I.free,I.freeC,I.pin,I.hok,I.len⟩
theorem Inv.track {x:Addr} {o:HO} (I:Inv X pins σ H s) (hn:H x=none) (h0:X.s₀.heap.get? x=none) (hL:x≠X.env.locals) (hc:∀y c,X.env.cells.lookup y=some c→c≠x) (hp:∀p∈X.pn ++ pins,p.1≠x)
  (new:dO X.prog X.w (upd H x o) s.heap x o):Inv X pins σ (upd H x o) s:=by
 have ne:∀b u,H b=some u→b≠x:=fun b u q=>aD q hn
 have ne0:∀b u,X.s₀.heap.get? b=some u→b≠x:=fun b u q z=>by rw [z,h0] at q;cases q
 refine⟨I.ok,I.os,I.bare,⟨I.base.keep,I.base.slot,fun b u q n hx=>?_,I.base.there,fun b xs q=>?_,fun b u xs q=>?_,fun b ps q=>?_⟩,I.loc,I.cell,?_,fun y c e=>?_,fun p h=>?_,ym I.hok hn new,I.len⟩
 ·rw [aK (ne0 b u q)];exact I.base.free b u q n hx
 ·have:=I.base.tups b xs q;rw [aK (ne b _ this)];exact this
 ·have:=I.base.frzs b u xs q;rw [aK (ne b _ this)];exact this
 ·obtain⟨m,e⟩:=I.base.tbls b ps q;exact⟨m,by rw [aK (ne b _ e)];exact e⟩
 ·rw [aK (Ne.symm hL)];exact I.free
 ·rw [aK (hc y c e)];exact I.freeC y c e
 ·obtain⟨e,n,r⟩:=I.pin p h;exact⟨e,by rw [aK (hp p h)];exact n,r⟩
end
structure Landed (X:Cx) (pins:List (Addr×Obj)) (σ:St) (H':Hp) (x:Addr) (cls:Value) (s:Shared) (B:Heap) (a0:Value):Prop where
 inv:Inv X pins σ H' s
 fly:Heap.FlyingW B X.stack x cls a0 s.heap
 more:∀h6,Heap.FlyingW B X.stack x cls a0 h6→s.heap.UpToSlots h6→Inv X pins σ H' { s with heap:=h6 }
 free:H' x=none
 new:X.s₀.heap.get? x=none
 neL:x≠X.env.locals
 neC:∀y c,X.env.cells.lookup y=some c→c≠x
 neP:∀p∈X.pn ++ pins,p.1≠x
section
variable {X:Cx} {pins:List (Addr×Obj)} {σ:St} {H:Hp} {s:Shared}
theorem zq {M:Model} {A:Around} {E:Value→Shared→Prop} {i:Nat} {x:Str} {pos:Pos} {Q:Unit→Shared→Prop} (I:Inv X pins σ H s) (hN:X.N.Nodup) (hi:X.N[i]?=some x) (hk:X.env.scope.names.lookup x=some .local)
  (h:∀s',Inv X pins (σ.set i none) H s'→Q () s'):wpAny M A (do bindName X.env x .none;unbindBehindTheSuite X.env x pos) Q E s:=by
 obtain⟨m,hn,hl⟩:=id I.loc
 have hcls:(X.env.scope.kind == .class || (X.env.scope.kind == .module && X.env.locals != X.env.globals))=false:=by rw [I.ok.kind];rfl
 have hiσ:i <σ.length:=by rw [I.len];exact(List.getElem?_eq_some_iff.mp hi).1
 have cne:=I.cne
 refine wpAny_nameGoes_keeps hk hn hcls fun h' v hn' hs=>?_
 refine h _ ⟨I.ok,I.os,I.bare,⟨fun b o e n hb hx=>?_,fun b o e n hb hx=>?_,I.base.free,fun b o e hx=>?_,I.base.tups,I.base.frzs,I.base.tbls⟩,⟨_,hn',fun j y v' e1 e2 e3=>?_⟩,fun y c e=>?_,I.free,I.freeC,fun p hp=>?_,fun b ob e=>?_,by simpa using I.len⟩
 ·exact(hs.2 b (Nat.ne_of_lt (Nat.lt_of_lt_of_le (Heap.lt_size e) I.ok.above))).trans (I.base.keep b o e n hb hx)
 ·obtain⟨sl,e1⟩:=I.base.slot b o e n hb hx
  exact⟨sl,(hs.2 b (Nat.ne_of_lt (Nat.lt_of_lt_of_le (Heap.lt_size e) I.ok.above))).trans e1⟩
 ·obtain⟨o',e1⟩:=I.base.there b o e hx
  exact⟨o',(hs.2 b (Nat.ne_of_lt (Nat.lt_of_lt_of_le (Heap.lt_size e) I.ok.above))).trans e1⟩
 ·by_cases hj:j=i
  ·subst hj
   rw [List.getElem?_set_self hiσ] at e2
   cases e2
  ·rw [List.getElem?_set_ne (Ne.symm hj)] at e2
   obtain⟨u',r',q⟩:=hl j y v' e1 e2 e3
   refine⟨u',r',?_⟩
   rcases q with ⟨k,e⟩ | ⟨k,c,e,z⟩
   ·refine .inl ⟨k,?_⟩
    have:y≠x:=fun e=>hj (zZ hN e1 (e ▸ hi))
    simp [this,e]
   ·exact .inr ⟨k,c,e,z.sameBut hs (cne y c e)⟩
 ·obtain⟨w',z⟩:=I.cell y c e
  exact⟨w',z.sameBut hs (cne y c e)⟩
 ·obtain⟨e,n,ne,nf,d⟩:=I.pin p hp
  exact⟨(hs.2 p.1 ne).trans e,n,ne,nf,d⟩
 ·refine(I.hok b ob e).stay (fun c w' hc q=>(hs.2 c ?_).trans q) (fun _ q=>q) fun _ _ q=>q
  rintro rfl
  rcases hc with rfl | hc
  ·rw [I.free] at e;cases e
  ·rw [I.free] at hc;cases hc
end
def excO (x:Addr) (cls:Value):HO:=.ext fun h=>∃ob,h.get? x=some ob∧ob.cls=cls
structure ExcAt (K:PySem.W.Frag) (C:Addr):Prop where
 ex:∃(nm q:Str) (Nn:Addr) (bs bm:List Value) (hdct:Bool) (sn:List Str) (sub:List Value) (ab:Bool) (col:Option Bool) (dd:Option Addr) (k0 k1 k2 k3 k5:Option Value) (newId:String),bm.contains (.type "BaseException")=true∧
  ∀h:Heap,K.In h→h.get? C=some (excClassObj nm q C Nn bs bm hdct sn sub ab col dd k0 k1 k2 k3 k5 newId)
def tCallR (sp:Sp) (R:St→XK) (t:TA):TE:=fun σ H Q=>t σ H fun vs H1=>sp vs H1 Q (R σ)
theorem pe_callR {X:Cx} {CX:CXT} {k:Nat} {f:Addr} {fd:FuncData} {ps:List Str} {sp:Sp} {R:St→XK} {x:Str} {p pos:Pos} {e:Expr} {es:List Expr} {t:TA}
  (F:FnOk X.prog X.w X.K X.mg X.base CX k f fd ps sp) (hr:Room k X.A) (hg:Gl X x) (hm:X.mg x=some (.ref f)) (hk:PySem.W.keepIn X.K (.ref f)=true) (hb:Binds X.K fd ps [])
  (hx:∀pins σ H s e s',Inv X pins σ H s→CX X.stack H s (R σ) e s'→X.xe e s')
  (ha:PA X (e:: es) t) (hdb:(x == ("__debug__" :Str))=false:=by decide) (he:starEach (e:: es) X.env=(false,eval e X.env):: starEach es X.env:=by rfl) (hpl:(backTo pos (starEach es X.env)).any (·.1)=false:=by rfl):
  PE X (.Call (.Name x p) (e:: es) [] pos) (tCallR sp R t):=by
 intro pins s σ H Q I h
 refine wpAny_Call_Name_kw (tM I hg hm ?_ hdb)
 refine PySem.W.callWith_K (h₀:=X.base) I.ok.mod.kin hk (thn (ha pos pins s σ H _ I h) fun us s1 ⟨vs,H1,I1,r,q⟩=>⟨I1.kIn,?_⟩) he hpl
 have hl:us.length=ps.length:=by rw [←r.length];exact F.len _ _ _ _ q
 have hb':=hb s1 us I1.kIn (by simpa using hl)
 rw [List.append_nil] at hb'
 refine wpAny_call (codeAny_mono (F.run X.A X.stack s1 H1 ⟨us,[]⟩ us vs Q (R σ) hr I1.env0 hb' r q) fun r s' hq=>?_)
 cases r with
 | error e=>exact hx pins σ H1 s1 e s' I1 hq
 | ok fl=>
  cases fl with
  | ret u=>exact I1.after hq
  | next=>exact False.elim hq
  | brk=>exact False.elim hq
  | cont=>exact False.elim hq
end L2
set_option Elab.async false
set_option linter.all false
set_option maxRecDepth 100000
set_option Elab.async false
set_option maxHeartbeats 4000000
namespace L2
open PySem PySem.Spec PyProof.Rows
section
variable {prog:Program} {w:World} {A:Around} {E:Value→Shared→Prop} {h:Heap} {g:Array GenState} {d:Drawn} {t:Nat} {os:OsState} {a:Addr} {o:Obj} {C:Addr}
structure ExcLk (M:Model) (h:Heap) (C:Addr):Prop where
 ga:∀{A:Around} {E:Value→Shared→Prop} {Q:Option Value→Shared→Prop} {g d t os},Q (some (.builtin "BaseException.__getattribute__")) ⟨h,g,d,t,os⟩→wpAny M A (typeLookup (.ref C) "__getattribute__") Q E ⟨h,g,d,t,os⟩
 gn:∀{A:Around} {E:Value→Shared→Prop} {Q:Option Value→Shared→Prop} {g d t os},Q none ⟨h,g,d,t,os⟩→wpAny M A (typeLookup (.ref C) "__getattr__") Q E ⟨h,g,d,t,os⟩
 cl:∀{A:Around} {E:Value→Shared→Prop} {Q:Option Value→Shared→Prop} {g d t os},Q (some (.builtin "object.__class__")) ⟨h,g,d,t,os⟩→wpAny M A (typeLookup (.ref C) "__class__") Q E ⟨h,g,d,t,os⟩
 ob:∀{A:Around} {E:Value→Shared→Prop} {Q:Bool→Shared→Prop} {g d t os},Q true ⟨h,g,d,t,os⟩→wpAny M A (isSubtype (.ref C) (.type "object")) Q E ⟨h,g,d,t,os⟩
 be:∀{A:Around} {E:Value→Shared→Prop} {Q:Bool→Shared→Prop} {g d t os},Q true ⟨h,g,d,t,os⟩→wpAny M A (isSubtype (.ref C) (.type "BaseException")) Q E ⟨h,g,d,t,os⟩
theorem xc_get {R:Result→Shared→Prop} (L:ExcLk (model prog w) h C) (hx:h.get? a=some o) (hc:o.cls=.ref C) (hq:R (.ok (.ret (.ref C))) ⟨h,g,d,t,os⟩):
  codeAny (model prog w) A (.call (.builtin "getset_descriptor.__get__") ⟨[.builtin "object.__class__",.ref a,.ref C],[]⟩) R ⟨h,g,d,t,os⟩:=by
 have hT5:(⟨h,g,d,t,os⟩:Shared).TypeIs (.builtin "object.__class__") "getset_descriptor" :=F.typeOf_object_class
 refine codeAny_call_builtin F.slot_gs_get.plain F.entry_gs_get (F.slot_gs_get.check _ _ _ _ _ _ _ _ hT5 (F.args_gs_get _ _ _) ?_)
 repeat (any_goals (first | assumption | (with_reducible refine wpAny_loadPart_at hx ?_;rw [hc]) | (rw [F.owner_object_class];with_reducible refine L.ob ?_) | wp_step))
 refine⟨Code.quiet_builtin _ (by decide +kernel),codeAny_builtin F.entry_object_class ?_⟩
 repeat (any_goals (first | assumption | (with_reducible refine wpAny_loadPart_at hx ?_;rw [hc]) | wp_step))
theorem xc_check {M:Model} {nameV:Value} {Q:Unit→Shared→Prop} (L:ExcLk M h C)
  (hx:h.get? a=some o) (hc:o.cls=.ref C) (hq:Q () ⟨h,g,d,t,os⟩):wpAny M A (checkBuiltinCall "BaseException.__getattribute__" ⟨[.ref a,nameV],[]⟩) Q E ⟨h,g,d,t,os⟩:=by
 have hk:builtinKind "BaseException.__getattribute__" =some .slot:=by decide +kernel
 have hsplit:splitId "BaseException.__getattribute__" =some ("BaseException", "__getattribute__"):=by decide +kernel
 have ha:=F.args_bexc_ga (.ref a) nameV
 simp only [checkBuiltinCall,hk,hsplit]
 refine wpAny_bind ?_
 ·unfold isInstance
  repeat (first | (with_reducible refine wpAny_loadPart_at hx ?_;rw [hc]) | with_reducible refine L.be ?_ | wp_step)
  exact hq
theorem xc_entry {tk:Tok} {Q:Fin→Shared→Prop} (L:ExcLk (model prog w) h C) (hx:h.get? a=some o) (hc:o.cls=.ref C) (hq:Q (.done (.ret (.ref C))) ⟨h,g,d,t,os⟩):
  wpAny (model prog w) A (Builtin.«object.__getattribute__» ⟨[.ref a,.str "__class__" tk],[]⟩) Q E ⟨h,g,d,t,os⟩:=by
 have hT5:(⟨h,g,d,t,os⟩:Shared).TypeIs (.builtin "object.__class__") "getset_descriptor" :=F.typeOf_object_class
 have f5:=F.typeOf_object_class
 have f6:=F.slot_gs_get.lookup
 have f7:=F.slot_gs_set.lookup
 repeat (any_goals (first | assumption | (with_reducible refine wpAny_loadPart_at hx ?_;rw [hc]) | with_reducible refine L.cl ?_ | wp_step))
 refine xc_get L hx hc ?_
 repeat (any_goals (first | assumption | wp_step))
theorem xc_by {tk:Tok} {fill expr:Bool} {Q:Value→Shared→Prop} (L:ExcLk (model prog w) h C) (FB:ExcAttrFacts "ValueError") (hx:h.get? a=some o) (hc:o.cls=.ref C) (hq:Q (.ref C) ⟨h,g,d,t,os⟩):
  wpAny (model prog w) A (getAttrBy (.ref a) (.str "__class__" tk) fill expr) Q E ⟨h,g,d,t,os⟩:=by
 have f3:=FB.ga.bind (.ref a)
 have hx0:(expr && onTheHeap (Value.builtin "BaseException.__getattribute__"))=false:=by cases expr <;> rfl
 have hx2:(Value.builtin "BaseException.__getattribute__" == Value.builtin "object.__getattribute__")=false:=by decide +kernel
 have hx1:(onTheHeap (Value.ref C) && Value.builtin "BaseException.__getattribute__" == Value.builtin "object.__getattribute__")=false:=by rw [hx2];rfl
 repeat (any_goals (first | assumption | (with_reducible refine wpAny_loadPart_at hx ?_;rw [hc]) | with_reducible refine L.ga ?_ | with_reducible refine L.gn ?_ | wp_step))
 refine codeAny_call_builtin FB.ga.plain F.entry_bexc_ga (xc_check L hx hc (xc_entry L hx hc ?_))
 repeat (any_goals (first | assumption | wp_step))
theorem xc_attr {Q:Option Value→Shared→Prop} (L:ExcLk (model prog w) h C) (FB:ExcAttrFacts "ValueError") (hx:h.get? a=some o) (hc:o.cls=.ref C) (hq:Q (some (.ref C)) ⟨h,g,d,t+1,os⟩):
  wpAny (model prog w) A (getAttr? (.ref a) "__class__") Q E ⟨h,g,d,t,os⟩:=by
 unfold getAttr? getAttrBy?
 repeat (any_goals (first | assumption | with_reducible apply xc_by L FB hx hc | wp_step))
end
abbrev za:List Value:=[.type "ValueError",.type "Exception",.type "BaseException",.type "object"]
def nsK (K:PySem.W.Frag) (N:Addr) (x:Str):Option Value:=match K.lookup N with
 | some o=>(match o.data with | .dict es _=>nsFind es x | _=>none)
 | none=>none
theorem nsK_eq {K:PySem.W.Frag} {h:Heap} {N:Addr} (X:K.In h) (ok:PySem.W.nsOkIn K N=true):h.nsMap N=nsK K N:=by
 funext x
 unfold PySem.W.nsOkIn at ok
 split at ok
 ·rename_i look
  unfold Heap.nsMap nsK
  rw [X _ _ look,look]
 ·cases ok
theorem nsK_none {K:PySem.W.Frag} {N:Addr} {x:Str} (e:PySem.W.nsIn K N x=some none):nsK K N x=none:=by
 unfold PySem.W.nsIn at e
 split at e
 ·rename_i look
  split at e
  ·cases e
  ·rename_i f
   unfold nsK
   rw [look]
   show nsFind _ _=none
   unfold nsFind findBy
   rw [←Array.find?_toList,f]
   rfl
 ·cases e
theorem tail_base {K:PySem.W.Frag}:∀{l:List Value},PySem.W.tailIn K za l=true→l.contains (.type "BaseException")=true
 | [],e=>by simp [PySem.W.tailIn,za] at e
 | v:: r,e=>by
  unfold PySem.W.tailIn at e
  rcases Bool.or_eq_true_iff.mp e with z | z
  ·rw [beq_iff_eq.mp z];decide +kernel
  ·split at z
   ·split at z
    ·simp only [Bool.and_eq_true] at z
     rw [List.contains_cons,tail_base z.2,Bool.or_true]
    ·cases z
   ·cases z
theorem ExcCls.ofIn {K:PySem.W.Frag} {C:Addr} (z:PySem.W.excIn K C za "ValueError.__new__" =true):ExcCls K C:=by
 unfold PySem.W.excIn at z
 split at z
 ·rename_i od kd slo look
  split at z
  ·rename_i C1 up a0 a1 a2 a3 nid a5 em es
   simp only [Bool.and_eq_true,beq_iff_eq,Bool.not_eq_true'] at z
   obtain⟨⟨⟨⟨⟨x1,x2⟩,x3⟩,x4⟩,x5⟩,x6⟩:=z
   subst x1 x2
   obtain⟨g1,g2,g3,g4,g5,g6,g7,g8,g9,g10,g11⟩:=kd
   dsimp only at em x3 x5 x6
   subst em x3
   have hs:slo= #[a0,a1,a2,a3,some (.builtin "ValueError.__new__"),a5]:=by
    obtain⟨l⟩:=slo
    simp only at es
    rw [es]
   subst hs
   refine⟨⟨g1,g5,g4,g2,up,za,g6,g7,g8,g9,g10,od,a0,a1,a2,a3,a5, "ValueError", "ValueError.__new__", "ValueError.__init__",nsK K g4,PySem.F.excBase_ValueError,tail_base x4,nsK_none x6,fun h X=>⟨X _ _ look,?_,PySem.W.tail_of_in X x4⟩⟩⟩
   rw [←nsK_eq X x5]
   exact .of_isNs (PySem.W.isNs_of_in X x5)
  ·cases z
 ·cases z
theorem ExcCls.at {K:PySem.W.Frag} {C:Addr} (c:ExcCls K C):ExcAt K C:=by
 obtain⟨nm,q,Nn,bs,bm,bmB,hdct,sn,sub,ab,col,dd,k0,k1,k2,k3,k5,B,newId,initId,mN,_,hb,_,hf⟩:=c.ex
 exact⟨⟨nm,q,Nn,bs,bm,hdct,sn,sub,ab,col,dd,k0,k1,k2,k3,k5,newId,hb,fun h X=>(hf h X).1⟩⟩
structure XcK (K:PySem.W.Frag) (C:Addr):Prop where
 cls:(PySem.W.clsIn K C).isSome=true
 ga:PySem.W.findIn K (.ref C) "__getattribute__" =some (some (.builtin "BaseException.__getattribute__"))
 gn:PySem.W.findIn K (.ref C) "__getattr__" =some none
 cl:PySem.W.findIn K (.ref C) "__class__" =some (some (.builtin "object.__class__"))
 ob:PySem.W.subIn K (.ref C) (.type "object")=some true
 be:PySem.W.subIn K (.ref C) (.type "BaseException")=some true
theorem XcK.lk {K:PySem.W.Frag} {C:Addr} {M:Model} {h:Heap} (x:XcK K C) (X:K.In h):ExcLk M h C:=
 ⟨fun q=>(PySem.W.looks_findIn X x.ga).at q,fun q=>(PySem.W.looks_findIn X x.gn).at q,fun q=>(PySem.W.looks_findIn X x.cl).at q,fun q=>(PySem.W.looks_subIn X x.ob).at q,fun q=>(PySem.W.looks_subIn X x.be).at q⟩
def ExcHere (y C:Addr) (h:Heap):Prop:=∃ob,h.get? y=some ob∧ob.cls=.ref C
theorem XcK.obj {K:PySem.W.Frag} {C:Addr} (x:XcK K C):∃c d cd sl,K.lookup C=some ⟨c,d,.cls cd,sl⟩:=by
 have z:=x.cls
 unfold PySem.W.clsIn at z
 split at z
 ·rename_i look
  exact⟨_,_,_,_,look⟩
 ·cases z
theorem kitx_exc {K:PySem.W.Frag} {y C:Addr} (x:XcK K C):PySem.W.KitX K (.ref y) (.ref C) (ExcHere y C) where
 ty:=fun _ _ _ ⟨_,e1,e2⟩=>e2 ▸ (PySem.W.Looks.ld e1).andThen .now
 it:=fun _ h X _=>by
  obtain⟨c,d,cd,sl,look⟩:=x.obj
  intro A Q E s k q
  unfold isType loadHead
  exact wpAny_bind (wpAny_loadPart (k _ _ (X _ _ look)) (wpAny_pure q))
 ne:=fun h tp dd its n sl X e=>by
  obtain⟨c,d,cd,sl',look⟩:=x.obj
  refine Bool.eq_false_iff.mpr fun q=>?_
  obtain rfl:C=tp:=Value.ref.inj (beq_iff_eq.mp q)
  have z:=(X _ _ look).symm.trans e
  cases z
 ca:=fun {_ _ _ _ _ s} X p k=>by
  obtain⟨h,g,d,t,os⟩:=s
  obtain⟨ob,e1,e2⟩:=p
  exact xc_attr (x.lk X) PySem.F.attr_ValueError e1 e2 k
def isiE (K:PySem.W.Frag) (C:Addr):V→Bool→Prop
 | .ref D,b=>PySem.W.kitOne K (.ref C) (.ref D)=some b
 | .ty T,b=>PySem.W.kitOne K (.ref C) (.type T)=some b
 | _,_=>False
section
variable {P:Program} {w:World} {K:PySem.W.Frag} {mg:Str→Option Value} {base:Heap}
end
end L2
set_option Elab.async false
set_option linter.all false
set_option maxRecDepth 100000
set_option Elab.async false
set_option maxHeartbeats 4000000
namespace L2
open PySem
section
variable {prog:Program} {w:World} {A:Around} {E:Value→Shared→Prop} {h:Heap} {g:Array GenState} {d:Drawn} {t:Nat} {os:OsState}
variable {nm q:Str} {C N:Addr} {bs bm bmB:List Value} {hdct:Bool} {sn:List Str} {sub:List Value} {ab:Bool} {col:Option Bool} {dd:Option Addr} {k0 k1 k2 k3 k5:Option Value} {B newId initId:String}
theorem xi_lookup {mN:Str→Option Value} {name:Str} {v:Value} {Q:Option Value→Shared→Prop} {M:Model} (hC:h.get? C=some (excClassObj nm q C N bs bm hdct sn sub ab col dd k0 k1 k2 k3 k5 newId)) (hn:h.Ns N mN) (hv:mN name=some v)
  (hq:Q (some v) ⟨h,g,d,t,os⟩):wpAny M A (typeLookup (.ref C) name) Q E ⟨h,g,d,t,os⟩:=by
 rw [typeLookup_eq]
 refine wpAny_bind (wpAny_mroOf_exc hC ?_)
 rw [lookupAlong_cons]
 refine wpAny_bind (wpAny_classOwn_exc hC hn ?_)
 rw [hv]
 exact wpAny_pure hq
theorem xi_type_call (F:ExcBaseFacts B newId initId bmB) (T:OwnTail h bmB bm) {mN:Str→Option Value} {us:List Value} {f:Addr} {fo:Obj} {Q:Fin→Shared→Prop}
  (hC:h.get? C=some (excClassObj nm q C N bs bm hdct sn sub ab col dd k0 k1 k2 k3 k5 newId)) (hn:h.Ns N mN) (hi:mN "__init__" =some (.ref f)) (hf:h.get? f=some fo) (hfc:fo.cls=.type "function")
  (go:∀h' e,h.objs.size≤e→Heap.MadeExcOf h h' e (.ref C) us→wpAny (model prog w) A (call (.ref f) (.ref e:: us)) (fun r s'=>r=.none∧Q (.done (.ret (.ref e))) s') E ⟨h',g,d,t,os⟩) (hz:us.length≤sizeLine):
  wpAny (model prog w) A (Builtin.«type.__call__» ⟨.ref C:: us,[]⟩) Q E ⟨h,g,d,t,os⟩:=by
 repeat (first | with_reducible refine wpAny_loadPart_at hC ?_ | with_reducible refine wpAny_madeBy_exc hC ?_ | wp_step)
 refine codeAny_call_builtin_code (Code.quiet_builtin _ F.quiet) (wpAny_check_new_subT F T hC ?_)
 refine codeAny_exc_new_subT F T hC ?_ hz
 show wpAny _ _ _ _ _ _
 generalize ho:({ cls:=.ref C,data:=.fields #[.ref h.objs.size,.none,.none,.none,.bool false,.none] }:Obj)=eo
 generalize hp:h.push { cls:=.type "tuple",data:=.seq us.toArray }=hp1
 have up:∀b o,h.get? b=some o→(hp1.push eo).get? b=some o:=fun b o z=>Heap.get?_push_of_some _ (by rw [←hp];exact Heap.get?_push_of_some _ z)
 have hC1:=up _ _ hC
 have hn1:(hp1.push eo).Ns N mN:=hn.keeps up
 have sz:hp1.objs.size=h.objs.size+1:=by rw [←hp,Heap.size_push]
 have he:(hp1.push eo).get? (h.objs.size+1)=some eo:=by rw [←sz];exact Heap.get?_push_size _ (by rw [←ho];rfl)
 have hcl:eo.cls=.ref C:=by rw [←ho]
 have hsub:(Value.ref C:: bm).contains (.ref C)=true:=by simp
 unfold isInstance
 repeat (first | (with_reducible refine wpAny_loadPart_at he ?_;rw [hcl]) | (with_reducible refine wpAny_isSubtype_exc hC1 ?_;rw [hsub]) | wp_step)
 show wpAny _ _ (typeLookup (.ref C) _) _ _ _
 refine xi_lookup hC1 hn1 hi ?_
 refine wpAny_holding (wpAny_bind ?_)
 unfold bindSpecial
 refine wpAny_bind (wpAny_typeOf (T:= "function") ⟨_,up _ _ hf,hfc⟩ ?_)
 rw [if_pos (by decide)]
 have made:Heap.MadeExcOf h (hp1.push eo) (h.objs.size+1) (.ref C) us:=by
  refine⟨up,Heap.get?_none_of_le (Nat.le_succ _),h.objs.size,by rw [he,←ho],Heap.get?_none_of_le (Nat.le_refl _),?_⟩
  refine Heap.get?_push_of_some _ ?_
  rw [←hp]
  exact Heap.get?_push_at rfl rfl
 refine wpAny_pure (wpAny_bind (wpAny_mono (go _ _ (Nat.le_succ _) made) (fun r s' hr=>?_) fun _ _ x=>x))
 obtain⟨rfl,hQ⟩:=hr
 wp_walk
 exact hQ
end
end L2
namespace L2
open PySem
section
variable {prog:Program} {w:World} {A:Around} {E:Value→Shared→Prop} {h:Heap} {g:Array GenState} {d:Drawn} {t:Nat} {os:OsState}
variable {nm q:Str} {C N:Addr} {bs bm bmB:List Value} {hdct:Bool} {sn:List Str} {sub:List Value} {ab:Bool} {col:Option Bool} {dd:Option Addr} {k0 k1 k2 k3 k5:Option Value} {B newId initId:String}
theorem xi_call (F:ExcBaseFacts B newId initId bmB) (T:OwnTail h bmB bm) {mN:Str→Option Value} {us:List Value} {f:Addr} {fo:Obj} {Q:Value→Shared→Prop}
  (hC:h.get? C=some (excClassObj nm q C N bs bm hdct sn sub ab col dd k0 k1 k2 k3 k5 newId)) (hn:h.Ns N mN) (hi:mN "__init__" =some (.ref f)) (hf:h.get? f=some fo) (hfc:fo.cls=.type "function")
  (go:∀h' e,h.objs.size≤e→Heap.MadeExcOf h h' e (.ref C) us→wpAny (model prog w) (A.under (.builtin "type.__call__" ⟨.ref C:: us,[]⟩)) (call (.ref f) (.ref e:: us)) (fun r s'=>r=.none∧Q (.ref e) s') E ⟨h',g,d,t,os⟩) (hz:us.length≤sizeLine):
  wpAny (model prog w) A (call (.ref C) us) Q E ⟨h,g,d,t,os⟩:=by
 have z1:=tc_lookup
 have z2:=tc_bind (.ref C)
 have z3:(⟨h,g,d,t,os⟩:Shared).TypeIs (.ref C) "type" :=⟨_,hC,rfl⟩
 refine wpAny_call (codeAny_of_tree ?_)
 show wpAny _ _ (callAny (.ref C) _) _ _ _
 repeat (any_goals (first | assumption | with_reducible refine wpAny_loadPart_at hC ?_ | wp_step))
 refine⟨rfl,?_⟩
 exact codeAny_call_builtin_at (Code.quiet_builtin _ (by decide +kernel)) entry_typeCall (wpAny_check_type_call_sub hC (xi_type_call F T hC hn hi hf hfc (fun h' e z m=>go h' e z m) hz))
theorem xi_base (F:ExcBaseFacts B newId initId bmB) (T:OwnTail h bmB bm) {e:Addr} {oe:Obj} {a0:Addr} {vr:List Value} {us:List Value} {Q:Value→Shared→Prop}
  (hC:h.get? C=some (excClassObj nm q C N bs bm hdct sn sub ab col dd k0 k1 k2 k3 k5 newId)) (he:h.get? e=some oe) (hcls:oe.cls=.ref C) (hd:oe.data=.fields (.ref a0:: vr).toArray) (hz:us.length≤sizeLine)
  (go:∀h' tp,h.get? tp=none→(∀b o,b≠e→h.get? b=some o→h'.get? b=some o)→h'.get? e=some { oe with data:=.fields (.ref tp:: vr).toArray }→Q .none ⟨h',g,d,t,os⟩):
  wpAny (model prog w) A (call (.builtin initId) (.ref e:: us)) Q E ⟨h,g,d,t,os⟩:=by
 obtain⟨oc,od,dt,osl⟩:=oe
 obtain rfl:oc=.ref C:=hcls
 obtain rfl:dt=.fields (.ref a0:: vr).toArray:=hd
 refine wpAny_call (codeAny_call_builtin F.init.plain F.initEntry (wpAny_check_init_subT F T hC he rfl ?_))
 wp_walk
 refine go _ h.objs.size (Heap.get?_none_of_le (Nat.le_refl _)) (fun b o hb hq=>?_) ?_
 ·rw [Heap.get?_update_other _ _ (Ne.symm hb)]
  exact Heap.get?_push_of_some _ hq
 ·rw [Heap.get?_update_self _ (Heap.get?_push_of_some _ he) rfl]
  rfl
end
end L2
namespace L2
open PySem Builtin Builtin.ObjectAttr
def xQ:List Value→Bool
 | .ref _:: r=>xQ r
 | l=>l == za
theorem vy (self:Value):∀{l:List Value},xQ l=true→refuseLoop self "__setattr__" l=pure ()
 | [],e=>by cases (beq_iff_eq.mp (show(([]:List Value) == za)=true from e))
 | v:: r,e=>by
  cases v with
  | ref c=>rw [refuseLoop_ref];exact vy self (l:=r) e
  | _=>rw [beq_iff_eq.mp (show(_ == za)=true from e)];exact PySem.F.store_ValueError.passes self
theorem yH:∀{l:List Value},xQ l=true→l.contains (.type "object")=true
 | [],e=>by cases (beq_iff_eq.mp (show(([]:List Value) == za)=true from e))
 | v:: r,e=>by
  cases v with
  | ref c=>rw [List.contains_cons,yH (l:=r) e,Bool.or_true]
  | _=>rw [beq_iff_eq.mp (show(_ == za)=true from e)];decide +kernel
structure XfK (K:PySem.W.Frag) (C:Addr):Prop where
 xc:XcK K C
 sa:PySem.W.findIn K (.ref C) "__setattr__" =some (some (.builtin "object.__setattr__"))
 ov:(PySem.W.clsIn K C).any (fun cd=>xQ cd.mro && cd.hasDict)=true
section
variable {prog:Program} {w:World} {A:Around} {E:Value→Shared→Prop} {h:Heap} {g:Array GenState} {d:Drawn} {t:Nat} {os:OsState} {x C:Addr} {K:PySem.W.Frag} {mA:Str→Option Value} {name:Str} {v:Value}
theorem inst_at (I:h.Inst x C mA):∃ox od,PySem.W.InstAt h x ox C od∧((ox.dict=none∧od=none∧∀n,mA n=none)∨∃dx o,ox.dict=some dx∧dx≠x∧od=some o∧h.Ns1 dx mA∧∀n,PySem.W.lookIn n o=some (mA n)):=by
 obtain⟨o,hx,hc,hnc,hd⟩:=I
 have no:PySem.W.notCls o=true:=by
  unfold PySem.W.notCls
  split
  ·rename_i c hcd;exact absurd hcd (hnc _)
  ·rfl
 rcases hd with ⟨hdn,hm⟩ | ⟨dx,hdx,hne,hns⟩
 ·exact⟨o,none,⟨hx,hc,no,by rw [hdn];exact True.intro⟩,.inl ⟨hdn,rfl,hm⟩⟩
 ·obtain⟨od,ho,hl⟩:=yg hns
  exact⟨o,some od,⟨hx,hc,no,by rw [hdx];exact ho⟩,.inr ⟨dx,od,hdx,hne,rfl,hns,hl⟩⟩
theorem xf_store {tk:Tok} {ns:List Str} {R:Result→Shared→Prop} (X:K.In h) (c:XfK K C) (ht:PySem.W.takerIn K C name=some none) (I:h.Inst x C mA) (hw:PySem.Within mA ns) (hsz:ns.length≤sizeLine)
  (hq:∀h' tk',h'.Inst x C (fun y=>if y=name then some v else mA y)→
   (∀b o,b≠x→(∀o₀ dx,h.get? x=some o₀→o₀.dict=some dx→b≠dx)→h.get? b=some o→h'.get? b=some o)→
   (∀o₀,h.get? x=some o₀→∃o₁,h'.get? x=some o₁∧o₁.cls=o₀.cls∧o₁.data=o₀.data∧o₁.slots=o₀.slots∧(∀dx,o₀.dict=some dx→o₁.dict=some dx)∧(o₀.dict=none→o₁.dict=some h.objs.size))→R (.ok (.ret .none)) ⟨h',g,d,tk',os⟩):
  codeAny (model prog w) A (.call (.builtin "object.__setattr__") ⟨[.ref x,.str name tk,v],[]⟩) R ⟨h,g,d,t,os⟩:=by
 have SF:=PySem.F.store_object
 obtain⟨cd,hc,ho⟩:=PySem.W.any_some c.ov
 simp only [Bool.and_eq_true] at ho
 obtain⟨ho,hd'⟩:=ho
 obtain⟨ox,od,J,_⟩:=inst_at I
 have ne:cd.mro.isEmpty=false:=by cases q:cd.mro with | nil=>rw [q] at ho;cases ho | cons _ _=>rfl
 have sub:PySem.W.Looks (model prog w) h (isInstance (.ref x) (.type "object")) true:=J.type.andThen (PySem.W.looks_mroIn X (by unfold PySem.W.mroIn;rw [hc,Option.bind_some,if_neg (by rw [ne];decide),yH ho]))
 refine codeAny_call_builtin SF.slot.plain SF.entry (@PySem.W.check_slot (model prog w) _ _ ⟨h,g,d,t,os⟩ "object.__setattr__" "object" "__setattr__" (.ref x) [.str name tk,v] [] _ SF.kind SF.split sub (SF.args (.ref x) (.str name tk) v) ?_)
 obtain⟨attr,ha,hr⟩:=Option.bind_eq_some_iff.mp ht
 have hm:PySem.W.Looks (model prog w) h (mroOf (.ref C)) cd.mro:=(PySem.W.looks_clsIn X hc).andThen .now
 have L3:PySem.W.Looks (model prog w) h (storeTaker? attr) none:=by
  cases attr with
  | none=>exact .now
  | some a=>
   obtain⟨b,hb,e⟩:=Option.map_eq_some_iff.mp hr
   refine(PySem.W.looks_takesIn X hb).andThen ?_
   cases b with
   | true=>cases e
   | false=>exact .now
 rw [PySem.W.osa_eq,refuse_eq]
 refine wpAny_bind (wpAny_bind (J.type.at (wpAny_bind (hm.at ?_))))
 rw [vy _ ho]
 refine wpAny_pure (wpAny_bind (J.type.at (wpAny_bind ((PySem.W.looks_findIn X ha).at (wpAny_bind (L3.at ?_))))))
 obtain⟨o,hx,hcl,hnc,hd⟩:=I
 obtain⟨oc,odi,oda,osl⟩:=o
 dsimp only at hcl hnc hd
 subst hcl
 refine wpAny_bind (wpAny_pure (wpAny_bind (wpAny_bind (wpAny_loadPart hx (wpAny_bind ((PySem.W.looks_clsIn X hc).at ?_))))))
 rw [hd']
 rcases hd with ⟨hdn,hmA⟩ | ⟨dx,hdx,hne,hns⟩
 ·subst hdn
  have hxs:x≠h.objs.size:=Nat.ne_of_lt (Heap.lt_size hx)
  have hx₁:(h.push { cls:=.type "dict",data:=.dict #[] }).get? x=some ⟨.ref C,none,oda,osl⟩:=Heap.get?_push_of_some _ hx
  dsimp only
  rw [if_neg (by simp)]
  split
  ·rename_i z;cases z
  split
  ·exact absurd rfl (hnc _)
  refine wpAny_bind (wpAny_alloc' (wpAny_bind (wpAny_update' hx₁ (wpAny_pure ?_))))
  have hgd:((h.push { cls:=.type "dict",data:=.dict #[] }).update x fun o=>{ cls:=o.cls,dict:=some h.objs.size,data:=o.data,slots:=o.slots }).get? h.objs.size
    =some { cls:=.type "dict",data:=.dict #[] }:=(Heap.get?_update_ne _ _ _ _ hxs.symm).trans (Heap.get?_push_at rfl rfl)
  have hnd:((h.push { cls:=.type "dict",data:=.dict #[] }).update x fun o=>{ cls:=o.cls,dict:=some h.objs.size,data:=o.data,slots:=o.slots }).Ns h.objs.size (fun _=>none):=
   ⟨_,#[],_,hgd,rfl,fun e he=>absurd he (by simp),fun _=>rfl⟩
  show wpAny _ _ (storeInDict h.objs.size (.str name tk) name v) _ _ _
  unfold storeInDict newKeyGuard
  refine wpAny_bind (wpAny_pure (wpAny_bind (wpAny_nsSet1 (Heap.Ns1.of_empty hnd) fun h' hn' hs=>?_)))
  obtain⟨oD,esD,epD,hoD,hdD,hcD⟩:=hn'.count (Within.cons name v Within.nil)
  refine wpAny_bind (wpAny_lookBehind hoD (by rw [hdD];exact pastItsLine_dict (Nat.le_trans hcD (by rw [List.length_cons,List.length_nil,sizeLine_eq];omega))) ?_)
  wp_walk
  have hx':h'.get? x=some ⟨.ref C,some h.objs.size,oda,osl⟩:=by
   refine(hs.2 x hxs).trans (Heap.get?_update_self _ hx₁ ?_)
   have hfr:=(Heap.get?_some_iff.mp hx).2
   cases oda <;> first | rfl | exact hfr
  refine hq h' _ ⟨_,hx',rfl,hnc,.inr ⟨h.objs.size,rfl,hxs.symm,?_⟩⟩ (fun b ob hbx _ hb=>?_)
   (fun o₀ h₀=>by obtain rfl:=Option.some.inj (hx.symm.trans h₀);exact⟨_,hx',rfl,rfl,rfl,fun dx e=>(by cases e),fun _=>rfl⟩)
  ·obtain⟨o',es,ep,e1,e2,e3,eu,e4⟩:=hn'
   exact⟨o',es,ep,e1,e2,e3,eu,fun y=>by rw [e4 y];by_cases hy:y=name <;> simp [hy,hmA]⟩
  ·exact(hs.2 b (Nat.ne_of_lt (Heap.lt_size hb))).trans ((Heap.get?_update_ne _ _ _ _ hbx).trans (Heap.get?_push_of_some _ hb))
 ·subst hdx
  refine wpAny_pure (a:=some dx) (wpAny_bind (wpAny_pure (wpAny_bind ?_)))
  refine wpAny_nsSet1 (s:=⟨h,g,d,t,os⟩) hns fun h' hn' hs=>?_
  obtain⟨oD,esD,epD,hoD,hdD,hcD⟩:=hn'.count (PySem.Within.cons name v hw)
  refine wpAny_bind (wpAny_lookBehind hoD (by rw [hdD];exact pastItsLine_dict (Nat.le_trans hcD (by rw [List.length_cons];omega))) ?_)
  refine wpAny_pure (hq h' _ ⟨_,(hs.2 x hne.symm).trans hx,rfl,hnc,.inr ⟨dx,rfl,hne,hn'⟩⟩ (fun b ob _ hbd hb=>?_) (fun o₀ h₀=>⟨o₀,(hs.2 x hne.symm).trans h₀,rfl,rfl,rfl,fun _ e=>e,fun e=>by obtain rfl:=Option.some.inj (hx.symm.trans h₀);cases e⟩))
  exact(hs.2 b (hbd _ dx hx rfl)).trans hb
theorem xf_set {ns:List Str} {Q:Unit→Shared→Prop} (X:K.In h) (c:XfK K C) (ht:PySem.W.takerIn K C name=some none) (I:h.Inst x C mA) (hw:PySem.Within mA ns) (hsz:ns.length≤sizeLine)
  (hq:∀h' tk',h'.Inst x C (fun y=>if y=name then some v else mA y)→
   (∀b o,b≠x→(∀o₀ dx,h.get? x=some o₀→o₀.dict=some dx→b≠dx)→h.get? b=some o→h'.get? b=some o)→
   (∀o₀,h.get? x=some o₀→∃o₁,h'.get? x=some o₁∧o₁.cls=o₀.cls∧o₁.data=o₀.data∧o₁.slots=o₀.slots∧(∀dx,o₀.dict=some dx→o₁.dict=some dx)∧(o₀.dict=none→o₁.dict=some h.objs.size))→Q () ⟨h',g,d,tk',os⟩):
  wpAny (model prog w) A (setAttr (.ref x) name v) Q E ⟨h,g,d,t,os⟩:=by
 obtain⟨ox,od,J,_⟩:=inst_at I
 exact PySem.W.set_plain X J c.sa (xf_store X c ht I hw hsz fun h' tk' a b e=>hq h' tk' a b e)
theorem xf_get {ox:Obj} {od:Option Obj} {expr:Bool} {Q:Value→Shared→Prop} (X:K.In h) (c:XfK K C) (J:PySem.W.InstAt h x ox C od) (hf:PySem.W.findObj K C od name=some (.value v)) (hh:PySem.W.handedIn v=true)
  (hq:Q v ⟨h,g,d,t+1,os⟩):wpAny (model prog w) A (getAttr (.ref x) name expr) Q E ⟨h,g,d,t,os⟩:=by
 have L:=c.xc.lk (M:=model prog w) X
 have FB:=PySem.F.attr_ValueError
 have hx:=J.at_
 have hc:=J.cls
 have L0:=J.type (M:=model prog w)
 have L1:=PySem.W.looks_find (M:=model prog w) X J hf
 have f3:=FB.ga.bind (.ref x)
 have hx0:(expr && onTheHeap (Value.builtin "BaseException.__getattribute__"))=false:=by cases expr <;> rfl
 have hx2:(Value.builtin "BaseException.__getattribute__" == Value.builtin "object.__getattribute__")=false:=by decide +kernel
 have hx1:(onTheHeap (Value.ref C) && Value.builtin "BaseException.__getattribute__" == Value.builtin "object.__getattribute__")=false:=by rw [hx2];rfl
 unfold getAttr
 repeat (any_goals (first | assumption | (with_reducible refine wpAny_loadPart_at hx ?_;rw [hc]) | with_reducible refine L.ga ?_ | with_reducible refine L.gn ?_ | wp_step))
 refine codeAny_call_builtin FB.ga.plain PySem.F.entry_bexc_ga (xc_check L hx hc ?_)
 refine wpAny_bind (wpAny_pure (wpAny_bind (wpAny_pure (wpAny_bind (L0.at (wpAny_bind (L1.at (wpAny_pure ?_))))))))
 show wpAny _ _ (handedOut v) _ _ _
 rw [PySem.W.handedOut_of hh]
 exact wpAny_pure hq
end
end L2
set_option Elab.async false
set_option linter.all false
set_option maxRecDepth 100000
set_option Elab.async false
set_option maxHeartbeats 4000000
namespace L2
open PySem PySem.Spec PyProof.Rows
def uB (x C:Addr):HO:=.ext fun h=>∃a0 vr sl,h.get? x=some ⟨.ref C,none,.fields (.ref a0:: .none:: vr).toArray,sl⟩
def yo (x C dx:Addr):HO:=.ext fun h=>∃a0 vr sl,h.get? x=some ⟨.ref C,some dx,.fields (.ref a0:: .none:: vr).toArray,sl⟩
section
variable {X:Cx} {pins:List (Addr×Obj)} {σ:St} {H:Hp} {s:Shared} {a C dx:Addr} {fs:List (Str×V)} {f:Str} {v:V} {A:Around} {E:Value→Shared→Prop}
theorem Inv.size (I:Inv X pins σ H s):X.s₀.heap.objs.size≤s.heap.objs.size:=by
 obtain⟨m,⟨o,_,_,ho,_⟩,_⟩:=I.loc
 exact Nat.le_of_lt (Nat.lt_of_le_of_lt I.ok.above (Heap.lt_size ho))
theorem Inv.track_new {s':Shared} {H':Hp} {x:Addr} {o:HO} (I:Inv X pins σ H s) (I':Inv X pins σ H' s') (hx:s.heap.objs.size≤x) (hn:H' x=none) (new:dO X.prog X.w (upd H' x o) s'.heap x o):Inv X pins σ (upd H' x o) s':=by
 have ne:∀b u,s.heap.get? b=some u→b≠x:=fun b u e z=>Nat.lt_irrefl _ (Nat.lt_of_lt_of_le (Heap.lt_size e) (z ▸ hx))
 refine I'.track hn (Heap.get?_none_of_le (Nat.le_trans I.size hx)) ?_ (fun y c e=>?_) (fun p hp=>?_) new
 ·obtain⟨m,⟨o,_,_,ho,_⟩,_⟩:=I.loc
  exact(ne _ _ ho).symm
 ·obtain⟨v,o,ho,_⟩:=I.cell y c e
  exact ne _ _ ho
 ·exact ne _ _ (I.pin p hp).1
theorem XfK.dict {K:PySem.W.Frag} {C:Addr} (c:XfK K C):PySem.W.hasDictIn K C=true:=by
 obtain⟨cd,hc,ho⟩:=PySem.W.any_some c.ov
 simp only [Bool.and_eq_true] at ho
 unfold PySem.W.hasDictIn
 rw [hc]
 exact ho.2
theorem setx_ok {y:V} {u:Value} {Q:Unit→Shared→Prop} (I:Inv X pins σ H s) (e:H a=some (uB a C)) (c:XfK X.K C) (n:bB X.K C f) (ry:RelV y u)
  (h:∀dx s',H dx=none→dx≠a→Inv X pins σ (upd (upd H a (yo a C dx)) dx (.xd [(f,y)])) s'→Q () s'):wpAny (model X.prog X.w) A (setAttr (.ref a) f u) Q E s:=by
 obtain⟨⟨a0,vr,sl,hx⟩,_,_⟩:=(show dO X.prog X.w H s.heap a (uB a C) from I.hok a _ e)
 obtain⟨hp,g,d,t,os⟩:=s
 dsimp only at hx
 have inst:hp.Inst a C (fun _=>none):=⟨_,hx,rfl,fun _=>Data.noConfusion,.inl ⟨rfl,fun _=>rfl⟩⟩
 refine xf_set (ns:=[]) I.kIn c n.taker inst PySem.Within.nil (Nat.zero_le _) fun h' tk' I' kb ks=>?_
 obtain⟨o₁,e1,e2,e3,e4,_,e6⟩:=ks _ hx
 have ed:=e6 rfl
 obtain⟨o1c,o1d,o1t,o1s⟩:=o₁
 dsimp only at e2 e3 e4 ed
 subst e2 e3 e4 ed
 have ne:hp.objs.size≠a:=Nat.ne_of_gt (Heap.lt_size hx)
 have fr:H hp.objs.size=none:=I.hok.fresh (Nat.le_refl _)
 have I1:Inv X pins σ (upd H a (yo a C hp.objs.size)) ⟨h',g,d,tk',os⟩:=by
  refine I.write (x:=a) (e:=a) (o:=yo a C hp.objs.size) (by rw [e];exact True.intro) (.inl rfl) (fun b o hb z=>kb b o hb (fun o₀ dx q r=>?_) z) ⟨_,e1⟩ ?_
  ·obtain rfl:=Option.some.inj (hx.symm.trans q);cases r
  ·exact⟨⟨_,_,_,e1⟩,⟨_,e1⟩,fun h1 h2 ⟨x1,x2,x3,z⟩ k=>⟨x1,x2,x3,k _ z⟩⟩
 refine h _ _ fr ne (I.track_new I1 (Nat.le_refl _) (by rw [aK ne];exact fr) ?_)
 obtain⟨o2,f1,f2,f3,f4⟩:=I'
 obtain rfl:=Option.some.inj (e1.symm.trans f1)
 rcases f4 with ⟨z,_⟩ | ⟨d2,z,_,hn⟩
 ·cases z
 ·obtain rfl:=Option.some.inj (show some hp.objs.size=some d2 from z)
  refine⟨_,hn,fun g=>?_⟩
  by_cases q:g=f
  ·subst q
   rw [if_pos rfl]
   show rZ (List.lookup g [(g,y)]) (some u)
   simp only [List.lookup,beq_self_eq_true]
   exact ry
  ·rw [if_neg q]
   have hb:(g == f)=false:=beq_eq_false_iff_ne.mpr q
   show rZ (List.lookup g [(f,y)]) none
   simp only [List.lookup,hb]
   exact True.intro
theorem getx_at {b:Bool} {Q:Value→Shared→Prop} {fl:Array Value} {sl:Array (Option Value)} (I:Inv X pins σ H s) (hx:s.heap.get? a=some ⟨.ref C,some dx,.fields fl,sl⟩) (ed:H dx=some (.xd fs)) (c:XfK X.K C) (n:bB X.K C f) (l:fs.lookup f=some v)
  (h:∀u s',Inv X pins σ H s'→RelV v u→Q u s'):wpAny (model X.prog X.w) A (getAttr (.ref a) f b) Q E s:=by
 obtain⟨mA,hn,r⟩:=(show dO X.prog X.w H s.heap dx (.xd fs) from I.hok dx _ ed)
 obtain⟨od,ho,hl⟩:=yg hn
 obtain⟨u,hu,ru⟩:=rZ.some_of (v:=v) (o:=mA f) (by rw [←l];exact r f)
 have J:PySem.W.InstAt s.heap a ⟨.ref C,some dx,.fields fl,sl⟩ C (some od):=⟨hx,rfl,rfl,ho⟩
 obtain⟨hp,g,d,t,os⟩:=s
 exact xf_get I.kIn c J (PySem.W.findObj_own c.dict n rfl (by rw [hl,hu])) (handed_of ru) (h u _ (I.tok _) ru)
end
def sFldX (K:PySem.W.Frag) (ta tv:TE) (f:Str):TS:=fun D σ H=>tv σ H fun y H1=>ta σ H1 fun x H2=>∃a C,x=.ref a∧H2 a=some (uB a C)∧XfK K C∧bB K C f∧
 ∀dx,H2 dx=none→dx≠a→D.nx σ (upd (upd H2 a (yo a C dx)) dx (.xd [(f,y)]))
section
variable {X:Cx} {e o value:Expr} {f:Str} {pos pos':Pos} {ta tv:TE}
theorem ps_fldX (ha:PE X o ta) (hv:PE X value tv) (hs:swapsWith value (some (.Attribute o f pos')) pos.line X.env=pure false):PS X (.Assign [.Attribute o f pos'] value pos) (sFldX X.K ta tv f):=by
 intro pins s σ H D I h
 refine plainObj_wpAny_Assign_Attribute (thn (hv pins s σ H _ I h) fun u s1 ⟨y,H1,I1,ry,q⟩=>thn (ha pins s1 σ H1 _ I1 q) fun ov s2 hpt=>?_) hs
 obtain⟨x,H2,I2,rx,a,C,ex,ea,c,n,q2⟩:=hpt
 subst ex
 obtain rfl:ov=Value.ref a:=rx
 exact setx_ok I2 ea c n ry fun dx s3 h1 h2 I3=>⟨σ,_,I3,q2 dx h1 h2⟩
end
end L2
namespace L2
open PySem PySem.Spec PyProof.Rows
def iniIn (K:PySem.W.Frag) (C f:Addr):Bool:=match K.lookup C with
 | some o=>(match o.data with
  | .cls kd=>o.cls == .type "type" && kd.mro.head? == some (.ref C) && PySem.W.tailIn K za kd.mro.tail && !kd.hasDel && PySem.W.nsOkIn K kd.ns && nsK K kd.ns "__init__" == some (.ref f) && o.slots.size == 6 && o.slots[4]? == some (some (.builtin "ValueError.__new__"))
  | _=>false)
 | none=>false
structure ExcIni (K:PySem.W.Frag) (C f:Addr):Prop where
 ex:∃(nm q:Str) (Nn:Addr) (bs bm:List Value) (hdct:Bool) (sn:List Str) (sub:List Value) (ab:Bool) (col:Option Bool) (dd:Option Addr) (k0 k1 k2 k3 k5:Option Value) (mN:Str→Option Value),
  mN "__init__" =some (.ref f)∧∀h:Heap,K.In h→h.get? C=some (excClassObj nm q C Nn bs bm hdct sn sub ab col dd k0 k1 k2 k3 k5 "ValueError.__new__")∧h.Ns Nn mN∧OwnTail h za bm
theorem len6 {α:Type}:∀{l:List α},l.length=6→∃a b c d e f,l=[a,b,c,d,e,f]
 | [a,b,c,d,e,f],_=>⟨a,b,c,d,e,f,rfl⟩
theorem ExcIni.ofIn {K:PySem.W.Frag} {C f:Addr} (z:iniIn K C f=true):ExcIni K C f:=by
 unfold iniIn at z
 split at z
 ·rename_i o look
  obtain⟨oc,od,dt,slo⟩:=o
  dsimp only at z
  split at z
  ·rename_i kd
   simp only [Bool.and_eq_true,beq_iff_eq,Bool.not_eq_true'] at z
   obtain⟨⟨⟨⟨⟨⟨⟨x1,x2⟩,x3⟩,x4⟩,x5⟩,x6⟩,x7⟩,x8⟩:=z
   subst x1
   obtain⟨g1,g2,g3,g4,g5,g6,g7,g8,g9,g10,g11⟩:=kd
   dsimp only at x2 x3 x4 x5 x6
   obtain⟨sl⟩:=slo
   obtain⟨a0,a1,a2,a3,a5,rfl⟩:∃a0 a1 a2 a3 a5,sl=[a0,a1,a2,a3,some (.builtin "ValueError.__new__"),a5]:=by
    obtain⟨a0,a1,a2,a3,a4,a5,rfl⟩:=len6 (show sl.length=6 from x7)
    have e:a4=some (.builtin "ValueError.__new__"):=Option.some.inj (show some a4=_ from x8)
    subst e
    exact⟨a0,a1,a2,a3,a5,rfl⟩
   obtain⟨up,rfl⟩:∃up,g3=.ref C:: up:=by
    cases g3 with
    | nil=>cases x2
    | cons v r=>cases (show some v=some (Value.ref C) from x2);exact⟨r,rfl⟩
   subst x4
   refine⟨⟨g1,g5,g4,g2,up,g6,g7,g8,g9,g10,od,a0,a1,a2,a3,a5,nsK K g4,x6,fun h X=>⟨X _ _ look,?_,PySem.W.tail_of_in X x3⟩⟩⟩
   rw [←nsK_eq X x5]
   exact .of_isNs (PySem.W.isNs_of_in X x5)
  ·cases z
 ·cases z
structure BaseI (K:PySem.W.Frag) (B:Addr):Prop where
 sp:PySem.W.specialIn K (.ref B) "__getattribute__" =some (some (.builtin "type.__getattribute__"))
 rd:PySem.W.readsIn K B (.type "type")=true
 fi:PySem.W.findCls K (.ref B) (.type "type") "__init__" =some (.val (.builtin "ValueError.__init__"))
def tBase (K:PySem.W.Frag) (t:TA):TE:=fun σ H Q=>t σ H fun vs H1=>∃a C f us,vs=.ref a:: us∧H1 a=some (uB a C)∧ExcIni K C f∧us.length≤1000∧Q .non H1
section
variable {X:Cx} {CX:CXT} {k:Nat} {C B f:Addr} {fd:FuncData} {ps:List Str} {sp:Sp} {E:XK} {x:Str} {p pos apos:Pos} {e:Expr} {es:List Expr} {t:TA}
theorem call_base:qm X (.builtin "ValueError.__init__") (fun xs H Q=>∃a C f us,xs=.ref a:: us∧H a=some (uB a C)∧ExcIni X.K C f∧us.length≤1000∧Q .non H):=by
 intro pins s σ H xs us Q I r h
 obtain⟨a,C,f,vs,rfl,ea,c,hz,q⟩:=h
 obtain⟨nm,q',Nn,bs,bm,hdct,sn,sub,ab,col,dd,k0,k1,k2,k3,k5,mN,hi,hf⟩:=c.ex
 cases r with
 | cons r1 r=>
  rename_i u us
  obtain rfl:u=Value.ref a:=r1
  obtain⟨⟨a0,vr,sl,hx⟩,_,_⟩:=(show dO X.prog X.w H s.heap a (uB a C) from I.hok a _ ea)
  obtain⟨hC,hn,T⟩:=hf _ I.kIn
  obtain⟨hp,g,d,t,os⟩:=s
  refine xi_base PySem.F.excBase_ValueError T hC hx rfl rfl (by rw [←r.length,sizeLine_eq];omega) fun h' tp _ kb e2=>⟨.non,H,?_,rfl,q⟩
  have I1:=I.write (x:=a) (e:=a) (o:=uB a C) (h':=h') (t':=t) (by rw [ea];exact True.intro) (.inl rfl) kb ⟨_,e2⟩ ⟨⟨_,_,_,e2⟩,⟨_,e2⟩,fun h1 h2 ⟨x1,x2,x3,z⟩ k=>⟨x1,x2,x3,k _ z⟩⟩
  rwa [show upd H a (uB a C)=H from by funext b;by_cases q:b=a <;> simp [upd,q,ea]] at I1
theorem pe_base {pl:Sem Bool} (hg:Gl X x) (hm:X.mg x=some (.ref B)) (b:BaseI X.K B) (ha:PA X (e:: es) t) (hdb:(x == ("__debug__" :Str))=false:=by decide)
  (hst:starEach (e:: es) X.env=(false,eval e X.env):: starEach es X.env:=by rfl) (hpl:(backTo pos (starEach es X.env)).any (·.1)=false:=by rfl)
  (ht:eval (.Call (.Attribute (.Name x p) "__init__" apos) (e:: es) [] pos) X.env=(do
   let ov ←eval (.Name x p) X.env
   standAt apos.atName
   let (f,first) ←holding [ov] (getMethod ov "__init__" pl)
   callWith pos f first (backTo pos (starEach (e:: es) X.env)) (backToKw pos (keywordEach [] X.env))):=by rfl):
  PE X (.Call (.Attribute (.Name x p) "__init__" apos) (e:: es) [] pos) (tBase X.K t):=by
 intro pins s σ H Q I h
 refine PySem.W.methodCall_KW (pl:=pl) (tM I hg hm ?_ hdb) ht
 refine PySem.W.method_cls I.kIn b.sp (PySem.W.cls_value I.kIn b.rd b.fi rfl ?_)
 have hA:=ha pos pins _ σ H _ (I.tok (s.toks+1)) h
 rw [hst] at hA ⊢
 refine Calls.callWith_builtin (by show(false || (backTo pos (starEach es X.env)).any (·.1))=false;rw [hpl] <;> rfl) (Calls.evalArgs_plain ?_)
 exact thn hA fun us s2 ⟨vs,H2,I2,r2,q2⟩=>call_base pins s2 σ H2 vs us Q I2 r2 q2
end
end L2
namespace L2
open PySem PySem.Spec PyProof.Rows
structure MkX (K:PySem.W.Frag) (C f:Addr):Prop where
 ini:ExcIni K C f
 fn:PySem.W.isFn K (.ref f)=true
 kp:PySem.W.keepIn K (.ref C)=true
section
variable {X:Cx} {CX:CXT} {k:Nat} {C f:Addr} {fd:FuncData} {ps:List Str} {sp:Sp} {E:XK} {x:Str} {p pos:Pos} {e:Expr} {es:List Expr} {t:TA}
theorem run_makeX {pins:List (Addr×Obj)} {σ:St} {H:Hp} {s:Shared} {Q:VK} {us:List Value} {vs:List V} (M:MkX X.K C f) (F:FnOk X.prog X.w X.K X.mg X.base CX k f fd ps sp) (hr:Room (k+1) X.A) (hb:Binds X.K fd ps [])
  (hx:oV CX X E) (I:Inv X pins σ H s) (r:Vals vs us) (hz:vs.length≤1000)
  (h:∀x,H x=none→X.s₀.heap.get? x=none→sp (.ref x:: vs) (upd H x (uB x C)) (fun v H2=>v=.non∧Q (.ref x) H2) E):
  wpAny (model X.prog X.w) X.A (call (.ref C) us) (EP X pins σ Q) X.xe s:=by
 obtain⟨nm,q',Nn,bs,bm,hdct,sn,sub,ab,col,dd,k0,k1,k2,k3,k5,mN,hi,hf⟩:=M.ini.ex
 obtain⟨hC,hn,T⟩:=hf _ I.kIn
 obtain⟨fo,lf,hfc⟩:∃fo,X.K.lookup f=some fo∧fo.cls=.type "function" :=by
  have z:=beq_iff_eq.mp M.fn
  exact Option.map_eq_some_iff.mp z
 obtain⟨hp,g,d,t,os⟩:=s
 refine xi_call PySem.F.excBase_ValueError T hC hn hi (I.kIn _ _ lf) hfc (fun h' e hs made=>?_) (by rw [←r.length,sizeLine_eq];omega)
 obtain⟨tp,e1,_,_⟩:=made.there
 have I2:Inv X pins σ (upd H e (uB e C)) ⟨h',g,d,t,os⟩:=I.laid (t':=t) made.keeps hs ⟨⟨_,_,_,e1⟩,⟨_,e1⟩,fun h1 h2 ⟨x1,x2,x3,z⟩ k=>⟨x1,x2,x3,k _ z⟩⟩
 have hq:=h e (I.hok.fresh hs) (Heap.get?_none_of_le (Nat.le_trans I.size hs))
 have r2:Vals (V.ref e:: vs) (Value.ref e:: us):=.cons rfl r
 have hl:(Value.ref e:: us ++ []).length=ps.length:=by
  have e:=r2.length
  rw [F.len _ _ _ _ hq] at e
  rw [List.append_nil]
  exact e.symm
 have hb2:=hb ⟨h',g,d,t,os⟩ (Value.ref e:: us) I2.kIn hl
 rw [List.append_nil] at hb2
 refine wpAny_call (codeAny_mono (F.run _ X.stack _ _ ⟨Value.ref e:: us,[]⟩ (Value.ref e:: us) _ _ E (hr.make C us []) (I2.env0.make C us []) hb2 r2 hq) fun r s' hq'=>?_)
 cases r with
 | error e=>exact hx pins σ _ _ e s' I2 hq'
 | ok fl=>
  cases fl with
  | ret u=>
   obtain⟨v,H',I3,rv,ev,q3⟩:=I2.after hq'
   subst ev
   exact⟨rv,⟨V.ref e,H',I3,rfl,q3⟩⟩
  | next=>exact False.elim hq'
  | brk=>exact False.elim hq'
  | cont=>exact False.elim hq'
end
end L2
namespace L2
open PySem PySem.Spec PyProof.Rows
section
variable {X:Cx} {C:Addr} {x:Str} {p pos:Pos} {e:Expr} {es:List Expr} {t:TA}
end
end L2
namespace L2
open PySem
def xcIn (K:PySem.W.Frag) (C:Addr):Bool:=(PySem.W.clsIn K C).isSome && PySem.W.findIn K (.ref C) "__getattribute__" == some (some (.builtin "BaseException.__getattribute__")) && PySem.W.findIn K (.ref C) "__getattr__" == some none &&
 PySem.W.findIn K (.ref C) "__class__" == some (some (.builtin "object.__class__")) && PySem.W.subIn K (.ref C) (.type "object") == some true && PySem.W.subIn K (.ref C) (.type "BaseException") == some true
theorem XcK.ofIn {K:PySem.W.Frag} {C:Addr} (h:xcIn K C=true):XcK K C:=by
 simp only [xcIn,Bool.and_eq_true,beq_iff_eq] at h
 obtain⟨⟨⟨⟨⟨a,b⟩,c⟩,d⟩,e⟩,f⟩:=h
 exact⟨a,b,c,d,e,f⟩
def xfIn (K:PySem.W.Frag) (C:Addr):Bool:=xcIn K C && PySem.W.findIn K (.ref C) "__setattr__" == some (some (.builtin "object.__setattr__")) && (PySem.W.clsIn K C).any (fun cd=>xQ cd.mro && cd.hasDict)
theorem XfK.ofIn {K:PySem.W.Frag} {C:Addr} (h:xfIn K C=true):XfK K C:=by
 simp only [xfIn,Bool.and_eq_true,beq_iff_eq] at h
 obtain⟨⟨a,b⟩,c⟩:=h
 exact⟨.ofIn a,b,c⟩
end L2
set_option Elab.async false
set_option linter.all false
set_option maxRecDepth 100000
set_option Elab.async false
set_option maxHeartbeats 4000000
namespace L2
open PySem
def Still {α:Type}:Sem α→Prop
 | .rule _ k | .at _ k | .point _ k=>Still (k ())
 | .load _ _ k=>∀o,Still (k o)
 | .update _ _ f k=>(∀o,(f o).dict=o.dict)∧Still (k ())
 | .loadIfAlive _ k=>∀o,Still (k o)
 | .alloc _ k=>∀a,Still (k a)
 | .fresh k=>∀t,Still (k t)
 | .ask k=>∀x,Still (k x)
 | .choose _ _ k=>∀n,Still (k n)
 | .os _ _ k=>∀r,Still (k r)
 | .handled _ k=>∀x,Still (k x)
 | .genState _ k=>∀x,Still (k x)
 | .newGen _ k=>∀x,Still (k x)
 | .stack k=>∀x,Still (k x)
 | .thread k=>∀x,Still (k x)
 | .call .. | .resume ..=>False
 | .pure _ | .raise _ | .unsupported _ | .finish _ | .register .. | .yield .. | .fork .. | .await ..=>True
def DK (h h':Heap):Prop:=∀(b:Nat) (o:Obj),h.objs[b]?=some o→∃o',h'.objs[b]?=some o'∧o'.dict=o.dict
theorem DK.push {h h':Heap} (x:DK h h') (u:Obj):DK h (h'.push u):=fun b o e=>by
 obtain⟨o',e1,e2⟩:=x b o e
 have hb:b <h'.objs.size:=(Array.getElem?_eq_some_iff.mp e1).1
 exact⟨o',by show(h'.objs.push u)[b]?=some o';rw [Array.getElem?_push_lt hb];exact e1 ▸ (Array.getElem?_eq_getElem hb).symm,e2⟩
theorem DK.update {h h':Heap} (x:DK h h') (a:Addr) {f:Obj→Obj} (hf:∀o,(f o).dict=o.dict):DK h (h'.update a f):=fun b o e=>by
 obtain⟨o',e1,e2⟩:=x b o e
 show ∃u,(h'.objs.modify a f)[b]?=some u∧u.dict=o.dict
 rw [Array.getElem?_modify]
 by_cases q:a=b
 ·rw [if_pos q,e1];exact⟨f o',rfl,(hf o').trans e2⟩
 ·rw [if_neg q];exact⟨o',e1,e2⟩
theorem still_wp {α:Type} (M:Model) (Γ:Ctx) {Q:α→Pos→Shared→Prop} {E:Value→Pos→Shared→Prop} (t:Sem α):∀(p:Pos) (s:Shared) (h0:Heap),Still t→DK h0 s.heap→Sem.wp M Γ t Q E p s→Sem.wp M Γ t (fun a p' s'=>Q a p' s'∧DK h0 s'.heap) E p s:=by
 induction t with
 | pure x=>intro p s h0 _ d h;exact⟨h,d⟩
 | raise v=>intro p s h0 _ d h;exact h
 | unsupported | finish | yield | fork | await | register=>intro p s h0 _ d h;exact h
 | rule _ k ih | «at» _ k ih | point _ k ih=>intro p s h0 x d h;exact ih _ _ _ _ x d h
 | loadIfAlive _ k ih | fresh k ih | ask k ih | os _ _ k ih | handled _ k ih | newGen _ k ih | stack k ih | thread k ih=>intro p s h0 x d h;exact ih _ _ _ _ (x _) d h
 | alloc o k ih=>intro p s h0 x d h;exact ih _ _ _ _ (x _) (d.push o) h
 | load a _ k ih | genState a k ih=>intro p s h0 x d h;obtain⟨o,ho,h⟩:=h;exact⟨o,ho,ih _ _ _ _ (x _) d h⟩
 | update a _ f k ih=>intro p s h0 x d h;exact⟨h.1,ih _ _ _ _ x.2 (d.update a x.1) h.2⟩
 | choose _ _ k ih=>intro p s h0 x d h;exact⟨h.1,ih _ _ _ _ (x _) d h.2⟩
 | call c h g l k ih=>intro p s h0 x;exact x.elim
 | resume g r l k ih=>intro p s h0 x;exact x.elim
theorem DK.refl (h:Heap):DK h h:=fun b o e=>⟨o,e,rfl⟩
theorem pB {α:Type} {M:Model} {A:Around} {t:Sem α} {Q:α→Shared→Prop} {E:Value→Shared→Prop} {s:Shared} (x:Still t) (h:wpAny M A t Q E s):wpAny M A t (fun a s'=>Q a s'∧DK s.heap s'.heap) E s:=
 fun Γ p hΓ=>still_wp M Γ t p s s.heap x (DK.refl _) (h Γ p hΓ)
theorem bH {α β:Type} {m:Sem α} {f:α→Sem β} (h1:Still m) (h2:∀a,Still (f a)):Still (m >>= f):=by
 show Still (m.bind f)
 induction m with
 | pure x=>exact h2 x
 | raise _ | unsupported _ | finish _ | register _ _ | yield _ _ _ _ | fork _ _ | await _ _ _ _ _=>exact True.intro
 | rule _ k ih | «at» _ k ih | point _ k ih=>exact ih _ h1
 | loadIfAlive _ k ih | fresh k ih | ask k ih | os _ _ k ih | handled _ k ih | newGen _ k ih | stack k ih | thread k ih | alloc _ k ih | load _ _ k ih | genState _ k ih | choose _ _ k ih=>exact fun o=>ih o (h1 o)
 | update a _ f k ih=>exact⟨h1.1,ih _ h1.2⟩
 | call c h g l k ih=>exact h1
 | resume g r l k ih=>exact h1
theorem cH {α:Type} {a:α}:Still (Pure.pure a:Sem α):=True.intro
theorem kh {α:Type} {w:String}:Still (unsupported w:Sem α):=True.intro
theorem xx {a:Addr}:Still (load a):=fun _=>True.intro
theorem uU:Still stack:=fun _=>True.intro
theorem qp {v:Value} {i:Nat}:Still (field v i):=by
 unfold field fieldsOf
 refine bH ?_ fun x=>?_
 ·split
  ·exact bH xx fun o=>by split <;> first | exact cH | exact kh
  ·exact kh
 ·split <;> first | exact cH | exact kh
theorem dict_mapFields (f:Array Value→Array Value) (o:Obj):(Obj.mapFields f o).dict=o.dict:=by
 unfold Obj.mapFields;split <;> rfl
theorem iI {v:Value} {i:Nat} {x:Value}:Still (setField v i x):=by
 unfold setField updateField
 split
 ·refine bH xx fun o=>?_
  split
  ·split
   ·exact⟨dict_mapFields _,True.intro⟩
   ·exact kh
  ·exact kh
 ·exact kh
theorem oK {e:Value} {f:Option Addr}:Still (setFlight e f):=by
 unfold setFlight
 refine bH qp fun tb=>?_
 split
 ·exact iI
 ·exact cH
theorem uL {f:Addr} {b:Bool}:Still (entryPlaceOf f b):=by
 unfold entryPlaceOf
 exact bH uU fun a=>by split <;> exact cH
theorem uq {a b c d e:Value} {l:List Value}:Still (EntryCells.newEntry a b c d e l):=by
 unfold EntryCells.newEntry newFields newObj newObjAsIs
 dsimp only
 split <;> split <;> first | exact True.intro | exact fun _=>True.intro
theorem still_envs:Still frameEnvs:=by unfold frameEnvs;exact bH uU fun _=>cH
theorem still_import {e:Env} {l:List Env}:Still (behindIsImport e l):=by
 unfold behindIsImport
 split
 ·exact cH
 ·split
  ·exact cH
  ·exact bH qp fun _=>cH
theorem still_back {e:Env} {b:Bool}:∀{l:List Env},Still (keptBack e b l)
 | []=>by
  rw [keptBack]
  unfold underTheClaimsCaller
  split
  ·exact cH
  ·exact bH (bH uU fun _=>cH) fun _=>cH
 | _:: _=>by rw [keptBack];exact cH
theorem yL:∀{l:List Env},Still (readyFrames l)
 | []=>by unfold readyFrames;exact cH
 | e:: l=>by
  unfold readyFrames
  split
  ·refine bH xx fun o=>?_
   split
   ·exact cH
   ·refine bH still_import fun i=>bH still_back fun b=>?_
    exact bH (⟨fun _=>rfl,True.intro⟩) fun _=>yL
  ·exact kh
theorem ug {e:Env}:Still (frameOf e):=by
 unfold frameOf
 refine bH still_envs fun l=>bH ?_ fun o=>?_
 ·unfold frameObject
  split
  ·exact cH
  ·exact bH yL fun _=>cH
 ·split
  ·exact cH
  ·exact kh
theorem zY {e:Value} {env:Env}:Still (noteFrame e env):=by
 unfold noteFrame
 split
 ·refine bH qp fun hd=>?_
  have tail:∀x:Value,Still (do setField e 1 (←EntryCells.newEntry hd (←frameOf env) .none x .none (←entryPlaceOf (env.frame.getD 0) (hd != .none)))):=fun x=>
   bH ug fun _=>bH uL fun _=>bH uq fun _=>iI
  split
  ·refine bH qp fun x=>?_
   split
   ·exact cH
   ·refine bH iI fun _=>?_
    exact bH ug fun _=>bH uL fun _=>bH uq fun _=>iI
  ·exact bH ug fun _=>bH uL fun _=>bH uq fun _=>iI
 ·exact kh
theorem qD {e:Value} {env:Env}:Still (leaving env e):=by
 unfold leaving
 exact bH zY fun _=>oK
end L2
namespace L2
open PySem PySem.Spec PyProof.Rows
def DictAt (h:Heap) (x:Addr) (d:Option Addr):Prop:=∃o,h.get? x=some o∧o.dict=d
theorem yN {h:Heap} {x:Addr} {o:Obj} (e:h.get? x=some o):h.objs[x]?=some o:=by
 unfold Heap.get? at e
 split at e
 ·cases e
 ·exact e
theorem DictAt.on {h h':Heap} {x:Addr} {d:Option Addr} {o':Obj} (a:DictAt h x d) (k:DK h h') (e:h'.get? x=some o'):DictAt h' x d:=by
 obtain⟨o,e1,e2⟩:=a
 obtain⟨o2,e3,e4⟩:=k x o (yN e1)
 cases (yN e).symm.trans e3
 exact⟨_,e,e4.trans e2⟩
def del (H:Hp) (x:Addr):Hp:=fun b=>if b=x then none else H b
theorem Aj {H:Hp} {x b:Addr} (h:b≠x):del H x b=H b:=if_neg h
theorem del_some {H:Hp} {x b:Addr} {o:HO} (h:del H x b=some o):b≠x∧H b=some o:=by
 unfold del at h
 split at h
 ·cases h
 ·rename_i n;exact⟨n,h⟩
theorem un_del {fs ex:List Addr} {H H1:Hp} {h h1:Heap} {x:Addr} {φ:Heap→Prop} (u:Un fs ex H H1 h h1) (e:H1 x=some (.ext φ)):Un fs ex H (del H1 x) h h1:=by
 have ne:∀b o,H1 b=some o→(∀φ,o≠.ext φ)→del H1 x b=some o:=fun b o q n=>by
  rw [Aj];exact q
  rintro rfl
  rw [e] at q
  exact n φ (Option.some.inj q).symm
 refine⟨u.keep,u.slot,fun b o q n hx=>?_,u.there,fun b xs q=>ne _ _ (u.tups b xs q) (by intro _ z;cases z),fun b o v q=>ne _ _ (u.frzs b o v q) (by intro _ z;cases z),fun b ps q=>?_⟩
 ·unfold del
  split
  ·rfl
  ·exact u.free b o q n hx
 ·obtain⟨m,z⟩:=u.tbls b ps q
  exact⟨m,ne _ _ z (by intro _ z;cases z)⟩
def CX2 (P:Program) (w:World):CXT:=fun outer H s E e s'=>∃(x:Addr) (cls a0:Value) (H':Hp) (B:Heap) (d:Option Addr),e=.ref x∧s'.os=s.os∧AllBare s'.gens∧Heap.FlyingW B outer x cls a0 s'.heap∧DictAt s'.heap x d∧HOk P w H' B∧
 Un (frs outer) [] H H' s.heap s'.heap∧(∀b o,s.heap.get? b=some o→b∉frs outer→∃o',B.get? b=some o')∧E cls d H'
theorem un_fly2 {fs:List Addr} {H H1 H2:Hp} {h h1 h2 h3 B:Heap} {L:Addr} (u1:Un fs [] H H1 h h1) (u2:Un (L:: fs) [] H1 H2 h1 h2) (hL:∀b o,h.get? b=some o→b≠L)
  (inB:∀b o,h.get? b=some o→b∉fs→∃o',B.get? b=some o') (st2:B.StaysIn h2) (st3:B.StaysIn h3) (up:h2.UpToSlots h3)
  (fd:∀b o,h2.get? b=some o→b∈fs→∀vs,o.data≠.fields vs):Un fs [] H H2 h h3:=by
 have out:∀b o,h.get? b=some o→b∉fs→b∉L:: fs:=fun b o q hb z=>(List.mem_cons.mp z).elim (hL b o q) hb
 have go:∀b o,h2.get? b=some o→(∃o',B.get? b=some o')→h3.get? b=some o:=fun b o q ⟨o',q'⟩=>by
  have z:=st2 b o' q'
  rw [q] at z
  cases z
  exact st3 b _ q'
 refine⟨fun b o q n hb hx=>?_,fun b o q n hb hx=>?_,fun b o q n hx=>?_,fun b o q hx=>?_,fun b xs q=>u2.tups b xs (u1.tups b xs q),fun b o xs q=>u2.frzs b o xs (u1.frzs b o xs q),fun b ps q=>?_⟩
 ·have k1:=u1.keep b o q n hb hx
  exact go b o (u2.keep b o k1 (u1.free b o q n hx) (out b o q hb) hx) (inB b o q hb)
 ·obtain⟨sl,k1⟩:=u1.slot b o q n hb hx
  obtain⟨sl2,k2⟩:=u2.slot b _ k1 (u1.free b o q n hx) (List.mem_cons_of_mem _ hb) hx
  obtain⟨sl3,k3⟩:=up b _ k2 (fd b _ k2 hb)
  exact⟨sl3,k3⟩
 ·obtain⟨o',k1⟩:=u1.there b o q hx
  exact u2.free b o' k1 (u1.free b o q n hx) hx
 ·obtain⟨o1,k1⟩:=u1.there b o q hx
  obtain⟨o2,k2⟩:=u2.there b o1 k1 hx
  by_cases hb:b∈fs
  ·obtain⟨sl3,k3⟩:=up b _ k2 (fd b _ k2 hb)
   exact⟨_,k3⟩
  ·exact⟨o2,go b o2 k2 (inB b o q hb)⟩
 ·obtain⟨m1,e1⟩:=u1.tbls b ps q
  obtain⟨m2,e2⟩:=u2.tbls b _ e1
  exact⟨m1 ++ m2,by rw [e2,Array.append_assoc]⟩
section
variable {P:Program} {w:World} {K:PySem.W.Frag} {mg:Str→Option Value} {base:Heap} {N:List Str} {qual:Str} {scope:Scope} {f:Addr} {cd:Value} {A:Around} {outer:List Env} {s:Shared} {H:Hp} {E:XK}
theorem vV {E':XK} (hE:∀c d H',E' c d H'→E c d H'):oV (CX2 P w) (kI (CX2 P w) P w K mg base N qual scope f cd A outer s H E) E':=by
 intro pins σ H1 s1 e s' I c
 obtain⟨x,cls,a0,H',B,d,rfl,hos,hg,fl,da,hok,un,inB,hE'⟩:=c
 have go:=pB qD (wpAny_leaves_onW (M:=model P w) (E:=fun e' s''=>CX2 P w outer H s E e' s'') (Q:=fun _ s2=>∃h',s2={ s' with heap:=h' }∧Heap.FlyingW B outer x cls a0 h'∧s'.heap.UpToSlots h') I.ok.frames rfl fl fun h' fl' up=>⟨h',rfl,fl',up⟩)
 refine wpAny_mono go (fun _ s2 q=>?_) fun _ _ z=>z
 obtain⟨⟨h',rfl,fl',up⟩,dk⟩:=q
 obtain⟨ob,hob,_⟩:=fl'.there
 have nL:∀b o,s.heap.get? b=some o→b≠s.heap.objs.size:=fun b o q=>Nat.ne_of_lt (Heap.lt_size q)
 have fd:∀b o,s'.heap.get? b=some o→b∈frs outer→∀vs,o.data≠.fields vs:=fun b o q hb=>by
  obtain⟨_,_,ff,_⟩:=fl
  have hb':b∈frs (envOfC qual scope s.heap.objs.size f cd:: outer):=List.mem_cons_of_mem _ hb
  obtain⟨_,o',q',d⟩:=ff.mem hb'
  rw [q] at q'
  cases q'
  exact d
 have inB':∀b o,s.heap.get? b=some o→b∉frs outer→∃o',B.get? b=some o':=fun b o q hb=>by
  obtain⟨o1,k1⟩:=I.base.there b o q (by simp [kI])
  exact inB b o1 k1 fun z=>(List.mem_cons.mp z).elim (nL b o q) hb
 exact⟨x,cls,a0,H',B,d,rfl,hos.trans I.os,hg,fl',da.on dk hob,hok,un_fly2 (L:=s.heap.objs.size) I.base un nL inB' fl.1 fl'.1 up fd,inB',hE _ _ _ hE'⟩
theorem raise2 {pins:List (Addr×Obj)} {σ:St} {H1:Hp} {s1:Shared} {x C dx:Addr} (I:Inv (kI (CX2 P w) P w K mg base N qual scope f cd A outer s H E) pins σ H1 s1)
  (ex:H1 x=some (yo x C dx)) (hn:s.heap.get? x=none) (hE:E (.ref C) (some dx) (del H1 x)):(kI (CX2 P w) P w K mg base N qual scope f cd A outer s H E).xe (.ref x) s1:=by
 obtain⟨⟨a0,vr,sl,hx⟩,_,_⟩:=(show dO P w H1 s1.heap x (yo x C dx) from I.hok x _ ex)
 have nL:∀b o,s.heap.get? b=some o→b≠s.heap.objs.size:=fun b o q=>Nat.ne_of_lt (Heap.lt_size q)
 have hmem:∀env∈(envOfC qual scope s.heap.objs.size f cd:: outer),∀b,env.frame=some b→b∈x:: frs (envOfC qual scope s.heap.objs.size f cd:: outer):=fun env he b hb=>List.mem_cons_of_mem _ (List.mem_filterMap.mpr ⟨env,he,hb⟩)
 have stk:=I.stack
 have xf:x∉frs (envOfC qual scope s.heap.objs.size f cd:: outer):=fun hm=>by
  have z:=I.stkFree x hm
  rw [ex] at z;cases z
 have inB:∀b o,s.heap.get? b=some o→b∉frs outer→∃o',(PySem.W.hideAll s1.heap (x:: frs (envOfC qual scope s.heap.objs.size f cd:: outer))).get? b=some o':=fun b o q hb=>by
  obtain⟨o1,k1⟩:=I.base.there b o q (by simp [kI])
  refine⟨o1,PySem.W.hideAll_get _ k1 fun z=>?_⟩
  rcases List.mem_cons.mp z with rfl | z
  ·rw [hn] at q;cases q
  ·exact(List.mem_cons.mp z).elim (nL b o q) hb
 have hok:HOk P w (del H1 x) (PySem.W.hideAll s1.heap (x:: frs (envOfC qual scope s.heap.objs.size f cd:: outer))):=fun b o q=>by
  obtain⟨nb,q⟩:=del_some q
  have nx:∀c o,H1 c=some o→(∀φ,o≠.ext φ)→c≠x:=fun c o q n z=>by
   rw [z,ex] at q
   exact n _ (Option.some.inj q).symm
  refine(I.hok b o q).stay (fun c v hc q'=>PySem.W.hideAll_get _ q' fun hm=>?_) (fun c q'=>?_) fun c xs q'=>?_
  ·rcases List.mem_cons.mp hm with rfl | hm
   ·rcases hc with z | z
    ·exact nb z.symm
    ·exact nx _ _ z (by intro _ z;cases z) rfl
   ·have hn:=I.stkFree c hm
    rcases hc with z | z
    ·rw [z,q] at hn;cases hn
    ·rw [z] at hn;cases hn
  ·rw [Aj (nx _ _ q' (by intro _ z;cases z))];exact q'
  ·rw [Aj (nx _ _ q' (by intro _ z;cases z))];exact q'
 have sB:(PySem.W.hideAll s1.heap (x:: frs (envOfC qual scope s.heap.objs.size f cd:: outer))).StaysIn s1.heap:=fun b o q=>PySem.W.of_hideAll _ q
 have xB:(PySem.W.hideAll s1.heap (x:: frs (envOfC qual scope s.heap.objs.size f cd:: outer))).get? x=none:=PySem.W.hideAll_none _ (List.mem_cons_self ..)
 have go:=pB qD (wpAny_leaving_firstW (M:=model P w) (E:=fun e' s''=>CX2 P w outer H s E e' s'') (base:=PySem.W.hideAll s1.heap (x:: frs (envOfC qual scope s.heap.objs.size f cd:: outer)))
  (Q:=fun _ s2=>∃h',s2={ s1 with heap:=h' }∧Heap.LeftW (PySem.W.hideAll s1.heap (x:: frs (envOfC qual scope s.heap.objs.size f cd:: outer))) (envOfC qual scope s.heap.objs.size f cd:: outer) x (.ref C) (.ref a0) s1.heap h')
  I.ok.frames (PySem.W.funFrames_hide stk hmem) rfl hx sB xB rfl rfl rfl fun h' z=>⟨h',rfl,z⟩)
 refine wpAny_mono go (fun _ s2 q=>?_) fun _ _ z=>z
 obtain⟨⟨h',rfl,k1,⟨_,_,k2⟩,k3,k4⟩,dk⟩:=q
 have fl:Heap.FlyingW (PySem.W.hideAll s1.heap (x:: frs (envOfC qual scope s.heap.objs.size f cd:: outer))) outer x (.ref C) (.ref a0) h':=⟨k1,xB,k2,k3⟩
 obtain⟨ob,hob,_⟩:=fl.there
 have fd:∀b o,s1.heap.get? b=some o→b∈frs outer→∀vs,o.data≠.fields vs:=fun b o q hb=>by
  have hb':b∈frs (envOfC qual scope s.heap.objs.size f cd:: outer):=List.mem_cons_of_mem _ hb
  obtain⟨_,o',q',d⟩:=stk.mem hb'
  rw [q] at q'
  cases q'
  exact d
 exact⟨x,_,_,del H1 x,_,some dx,rfl,I.os,I.bare,fl,DictAt.on (h:=s1.heap) ⟨_,hx,rfl⟩ dk hob,hok,un_del (un_fly2 (L:=s.heap.objs.size) I.base Un.refl nL inB sB fl.1 k4 fd) ex,inB,hE⟩
end
section
variable {M:Model} {A:Around} {E:Value→Shared→Prop} {s:Shared} {env:Env} {nm q:Str} {C N:Addr} {bs bm:List Value} {hdct:Bool} {sn:List Str} {sub:List Value} {ab:Bool} {col:Option Bool} {dd:Option Addr} {k0 k1 k2 k3 k5:Option Value} {newId:String}
theorem xr_stmt {x:Sem Value} {Q:Flow→Shared→Prop} (hb:bm.contains (.type "BaseException")=true) (hh:A.handled=none)
  (h:wpAny M A x (fun v s₁=>∃e od dt sl,v=.ref e∧s₁.heap.get? C=some (excClassObj nm q C N bs bm hdct sn sub ab col dd k0 k1 k2 k3 k5 newId)∧s₁.heap.get? e=some ⟨.ref C,od,.fields dt,sl⟩∧dt[1]?=some .none∧E (.ref e) s₁) E s):wpAny M A (raiseStmt env (some x) none) Q E s:=by
 have hB:(Value.ref C:: bm).contains (.type "BaseException")=true:=by rw [List.contains_cons,hb,Bool.or_true]
 unfold raiseStmt
 refine wpAny_bind (wpAny_mono h (fun v sx hx=>?_) fun _ _ z=>z)
 obtain⟨e,od,dt,sl,rfl,hC,he,hd,hE⟩:=hx
 obtain⟨hs,gs,ds,ts,os⟩:=sx
 repeat (first | with_reducible refine wpAny_loadPart_at he ?_ | with_reducible refine wpAny_loadPart_at hC ?_ | (with_reducible refine wpAny_isSubtype_exc hC ?_;rw [hB]) | wp_step)
 rw [hd]
 refine wpAny_pure ?_
 rw [if_neg (by decide)]
 exact wpAny_pure (PySem.wpAny_raiseNew_none hh hE)
theorem xr_exec {x:Expr} {pos:Pos} {Q:Flow→Shared→Prop} (hb:bm.contains (.type "BaseException")=true) (hh:A.handled=none)
  (h:wpAny M A (eval x env) (fun v s₁=>∃e od dt sl,v=.ref e∧s₁.heap.get? C=some (excClassObj nm q C N bs bm hdct sn sub ab col dd k0 k1 k2 k3 k5 newId)∧s₁.heap.get? e=some ⟨.ref C,od,.fields dt,sl⟩∧dt[1]?=some .none∧E (.ref e) s₁) E s):wpAny M A (exec (.Raise (some x) none pos) env) Q E s:=by
 rw [arm_exec_Raise]
 have go:wpAny M A (do let v ←eval x env;standAt pos;pure v) (fun v s₁=>∃e od dt sl,v=.ref e∧s₁.heap.get? C=some (excClassObj nm q C N bs bm hdct sn sub ab col dd k0 k1 k2 k3 k5 newId)∧s₁.heap.get? e=some ⟨.ref C,od,.fields dt,sl⟩∧dt[1]?=some .none∧E (.ref e) s₁) E s:=
  wpAny_bind (wpAny_mono h (fun v s₁ z=>wpAny_bind (wpAny_standAt (wpAny_pure z))) fun _ _ z=>z)
 exact wpAny_bind (wpAny_standAt (xr_stmt hb hh go))
end
section
variable {P:Program} {w:World} {K:PySem.W.Frag} {mg:Str→Option Value} {base:Heap} {N:List Str} {qual:Str} {scope:Scope} {f:Addr} {cd:Value} {A:Around} {outer:List Env} {s:Shared} {H:Hp} {E:XK}
def RaisedX (s:Shared) (E:XK) (C:Addr):VK:=fun v H3=>∃y dx,v=.ref y∧s.heap.get? y=none∧H3 y=some (yo y C dx)∧E (.ref C) (some dx) (del H3 y)
def tRaiseX (s:Shared) (E:XK) (C:Addr) (sp:Sp) (E1:XK) (ta:TA):TS:=fun _ σ H=>ta σ H fun vs H1=>vs.length≤1000∧∀x,H1 x=none→s.heap.get? x=none→sp (.ref x:: vs) (upd H1 x (uB x C)) (fun v H2=>v=.non∧RaisedX s E C (.ref x) H2) E1
theorem yp {CX:CXT} {k:Nat} {fi:Addr} {fd:FuncData} {ps:List Str} {sp:Sp} {E1:XK} {x:Str} {C:Addr} {np cpos pos:Pos} {e:Expr} {es:List Expr} {ta:TA} (Mk:MkX K C fi) (F:FnOk P w K mg base CX k fi fd ps sp)
  (hr:Room (k+1) (kI (CX2 P w) P w K mg base N qual scope f cd A outer s H E).A) (hg:Gl (kI (CX2 P w) P w K mg base N qual scope f cd A outer s H E) x) (hm:mg x=some (.ref C)) (hb:Binds K fd ps []) (hx:oV CX (kI (CX2 P w) P w K mg base N qual scope f cd A outer s H E) E1)
  (ha:PA (kI (CX2 P w) P w K mg base N qual scope f cd A outer s H E) (e:: es) ta) (hdb:(x == ("__debug__" :Str))=false:=by decide)
  (he:starEach (e:: es) (kI (CX2 P w) P w K mg base N qual scope f cd A outer s H E).env=(false,eval e (kI (CX2 P w) P w K mg base N qual scope f cd A outer s H E).env):: starEach es (kI (CX2 P w) P w K mg base N qual scope f cd A outer s H E).env:=by rfl)
  (hpl:(backTo cpos (starEach es (kI (CX2 P w) P w K mg base N qual scope f cd A outer s H E).env)).any (·.1)=false:=by rfl):
  PS (kI (CX2 P w) P w K mg base N qual scope f cd A outer s H E) (.Raise (some (.Call (.Name x np) (e:: es) [] cpos)) none pos) (tRaiseX s E C sp E1 ta):=by
 intro pins s1 σ H1 D I h
 obtain⟨nm,q',Nn,bs,bm,hdct,sn,sub,ab,col,dd,k0,k1,k2,k3,k5,mN,hi,hf⟩:=Mk.ini.ex
 have hB:bm.contains (.type "BaseException")=true:=(hf _ I.kIn).2.2.hasType (X:= "BaseException") (b:=true) (by decide +kernel)
 refine xr_exec (C:=C) (nm:=nm) (q:=q') (N:=Nn) (bs:=bs) (bm:=bm) (hdct:=hdct) (sn:=sn) (sub:=sub) (ab:=ab) (col:=col) (dd:=dd) (k0:=k0) (k1:=k1) (k2:=k2) (k3:=k3) (k5:=k5) (newId:= "ValueError.__new__") hB (I.ok.hd rfl) ?_
 refine wpAny_mono (wpAny_Call_Name_kw (tM I hg hm (PySem.W.callWith_K (h₀:=(kI (CX2 P w) P w K mg base N qual scope f cd A outer s H E).base) I.ok.mod.kin Mk.kp (thn (ha cpos pins s1 σ H1 _ I h) fun us s2 ⟨vs,H2,I2,r,hz,q⟩=>⟨I2.kIn,
  run_makeX (X:=kI (CX2 P w) P w K mg base N qual scope f cd A outer s H E) (Q:=RaisedX s E C) Mk F hr hb hx I2 r hz q⟩) he hpl) hdb)) (fun v s3 z=>?_) fun _ _ z=>z
 obtain⟨v',H3,I3,rv,y,dx,rfl,n0,e1,e2⟩:=z
 obtain rfl:v=Value.ref y:=rv
 obtain⟨⟨a0,vr,sl,hx3⟩,_,_⟩:=(show dO P w H3 s3.heap y (yo y C dx) from I3.hok y _ e1)
 exact⟨y,_,_,_,rfl,(hf _ I3.kIn).1,hx3,rfl,raise2 I3 e1 n0 e2⟩
end
end L2
namespace L2
open PySem PySem.Spec PyProof.Rows
def excG (x C dx:Addr):HO:=.ext fun h=>∃fl sl,h.get? x=some ⟨.ref C,some dx,.fields fl,sl⟩
theorem land2 {X:Cx} {pins:List (Addr×Obj)} {σ:St} {H:Hp} {s1 s':Shared} {Ex:XK} {e:Value} {A:Around} {E:Value→Shared→Prop} {Q:Unit→Shared→Prop} (I:Inv X pins σ H s1) (c:CX2 X.prog X.w X.stack H s1 Ex e s')
  (hA:A.frames=some X.stack) (hst:X.stack=X.env:: X.outer) (hf:X.env.frame=some X.env.locals) (hex:X.ex=[])
  (k:∀x cls H' s2 B a0 d,e=.ref x→Landed X pins σ H' x cls s2 B a0→DictAt s2.heap x d→Ex cls d H'→Q () s2):
  wpAny (model X.prog X.w) A (noteFrame e X.env) (fun _ s2=>wpAny (model X.prog X.w) A (setFlight e none) Q E s2) E s':=by
 obtain⟨x,cls,a0,H',B,d,rfl,hos,hg,fl,da,hok,un,inB,hE'⟩:=c
 have fd:∀b o,s'.heap.get? b=some o→b∈frs X.stack→∀vs,o.data≠.fields vs:=fun b o q hb=>by
  obtain⟨_,_,ff,_⟩:=id fl
  obtain⟨_,o',q',d⟩:=ff.mem hb
  rw [q] at q'
  cases q'
  exact d
 have nB:B.get? x=none:=fl.2.1
 have hfree:H' x=none:=by
  cases q:H' x with
  | none=>rfl
  | some o=>
   obtain⟨ob,z⟩:=(hok x o q).some_at
   rw [nB] at z;cases z
 have n1:s1.heap.get? x=none:=by
  cases q:s1.heap.get? x with
  | none=>rfl
  | some o=>
   exfalso
   by_cases hb:x∈frs X.stack
   ·obtain⟨oe,vs,he,_,hd,_⟩:=fl.first
    exact fd x oe he hb vs hd
   ·obtain⟨o',z⟩:=inB x o q hb
    rw [nB] at z;cases z
 have here:∀b o,s1.heap.get? b=some o→b≠x:=fun b o q z=>by rw [z,n1] at q;cases q
 have fl0:Heap.FlyingW B (X.env:: X.outer) x cls a0 s'.heap:=by rw [←hst];exact fl
 have g1:=pB zY (wpAny_looks_onW (M:=model X.prog X.w) (A:=A) (E:=E) (Q:=fun _ s2=>∃h',s2={ s' with heap:=h' }∧Heap.HeldW B (X.env:: X.outer) x cls a0 X.env.locals h'∧s'.heap.UpToSlots h') (by rw [hA,hst]) hf fl0 fun h' hh up=>⟨h',rfl,hh,up⟩)
 refine wpAny_mono g1 (fun _ s2 q=>?_) fun _ _ z=>z
 obtain⟨⟨h2,rfl,hh,up2⟩,dk2⟩:=q
 have g2:=pB oK (wpAny_landsW (M:=model X.prog X.w) (A:=A) (E:=E) (s:={ s' with heap:=h2 }) (Q:=fun _ s3=>∃h',s3={ s' with heap:=h' }∧Heap.FlyingW B (X.env:: X.outer) x cls a0 h'∧h2.UpToSlots h') hh fun h' f3 up=>⟨h',rfl,f3,up⟩)
 refine wpAny_mono g2 (fun _ s3 q=>?_) fun _ _ z=>z
 obtain⟨⟨h3,rfl,fl3,up3⟩,dk3⟩:=q
 obtain⟨o2,ho2,_⟩:=hh.there
 obtain⟨o3,ho3,_⟩:=fl3.there
 have fl3':Heap.FlyingW B X.stack x cls a0 h3:=by rw [hst];exact fl3
 have go:∀h6,Heap.FlyingW B X.stack x cls a0 h6→s'.heap.UpToSlots h6→Inv X pins σ H' { s' with heap:=h6 }:=fun h6 f6 u6=>
  I.call' (s':={ s' with heap:=h6 }) hos (un_up un inB fl.1 f6.1 u6 fd) (hok.kept fun b o q=>f6.1 b o q) hg fun b hb=>absurd hb (by simp)
 refine k x cls H' _ B a0 d rfl ⟨go h3 fl3' (up2.trans up3),fl3',fun h6 f6 u6=>go h6 f6 ((up2.trans up3).trans u6),hfree,?_,?_,fun y c e=>?_,fun p hp=>here _ _ (I.pin p hp).1⟩ ((da.on dk2 ho2).on dk3 ho3) hE'
 ·cases q:X.s₀.heap.get? x with
  | none=>rfl
  | some o=>
   obtain⟨o',z⟩:=I.base.there x o q (by rw [hex];simp)
   rw [n1] at z;cases z
 ·obtain⟨m,⟨o,_,_,q,_⟩,_⟩:=I.loc
  exact fun z=>here _ _ q z.symm
 ·obtain⟨v,o,q,_⟩:=I.cell y c e
  exact here _ _ q
section
variable {M:Model} {A:Around} {E:Value→Shared→Prop} {nm q:Str} {C N:Addr} {bs bm:List Value} {hdct:Bool} {sn:List Str} {sub:List Value} {ab:Bool} {col:Option Bool} {dd:Option Addr} {k0 k1 k2 k3 k5:Option Value} {newId:String}
theorem xm_other {h:Heap} {g:Array GenState} {d:Drawn} {t:Nat} {os:OsState} {e C1:Addr} {oe:Obj} {Q:Bool→Shared→Prop}
  (hC:h.get? C=some (excClassObj nm q C N bs bm hdct sn sub ab col dd k0 k1 k2 k3 k5 newId)) (he:h.get? e=some oe) (hcls:oe.cls=.ref C1) (hbase:bm.contains (.type "BaseException")=true)
  (hs:∀{Q:Bool→Shared→Prop},Q false ⟨h,g,d,t,os⟩→wpAny M A (isSubtype (.ref C1) (.ref C)) Q E ⟨h,g,d,t,os⟩) (hq:Q false ⟨h,g,d,t,os⟩):wpAny M A (excMatches (.ref e) (.ref C)) Q E ⟨h,g,d,t,os⟩:=by
 have hB:(Value.ref C:: bm).contains (.type "BaseException")=true:=by rw [List.contains_cons,hbase,Bool.or_true]
 have f0:=tc_notTuple
 unfold excMatches
 repeat (first | (with_reducible refine wpAny_loadPart_at he ?_;rw [hcls]) | with_reducible refine wpAny_loadPart_at hC ?_ | (with_reducible refine wpAny_isSubtype_exc hC ?_;rw [hB]) | with_reducible refine hs ?_ | wp_step)
 exact hq
end
abbrev TH:=Ends→Value→Option Addr→St→Hp→Prop
def PH (X:Cx) (hs:List ExceptHandler) (T:TH):Prop:=∀(pins:List (Addr×Obj)) (σ:St) (H':Hp) (y:Addr) (cls:Value) (s:Shared) (B:Heap) (a0:Value) (d:Option Addr) (D:Ends),Landed X pins σ H' y cls s B a0→DictAt s.heap y d→T D cls d σ H'→
 wpAny (model X.prog X.w) X.A (handleBy (.ref y) X.env hs) (SP X pins D) X.xe s
def thNil:TH:=fun _ _ _ _ _=>False
theorem ph_nil {X:Cx}:PH X [] thNil:=fun _ _ _ _ _ _ _ _ _ _ _ _ h=>h.elim
def tTry2 (tb:(St→XK)→TS) (th:TH):TS:=fun D σ H=>∃R:St→XK,(∀σ' cls d H',R σ' cls d H'→th D cls d σ' H')∧tb R D σ H
theorem ps_try2 {X:Cx} {body:List Stmt} {h₀:ExceptHandler} {hs:List ExceptHandler} {pos:Pos} {tb:(St→XK)→TS} {th:TH} (hst:X.stack=X.env:: X.outer) (hf:X.env.frame=some X.env.locals) (hex:X.ex=[])
  (hb:∀(pn:List (Addr×Obj)) (Ex:Value→Shared→Prop) (R:St→XK),(∀pins σ H s e s',Inv (X.over pn Ex) pins σ H s→CX2 X.prog X.w X.stack H s (R σ) e s'→Ex e s')→PSs (X.over pn Ex) body (tb R)) (hh:PH X (h₀:: hs) th):
  PS X (.Try body (h₀:: hs) [] [] pos) (tTry2 tb th):=by
 intro pins s σ H D I h
 obtain⟨R,hR,hbody⟩:=h
 refine wpAny_Try_except (wpAny_mono (hb (X.pn ++ pins) (fun e s₁=>wpAny (model X.prog X.w) X.A (noteFrame e X.env) (fun _ s₂=>wpAny (model X.prog X.w) X.A (setFlight e none) (fun _ s₃=>
  wpAny (model X.prog X.w) X.A (handleBy e X.env (h₀:: hs)) (SP X pins D) X.xe s₃) X.xe s₂) X.xe s₁) R ?_ [] s σ H D I.over hbody) (fun f s₁ q=>?_) fun e s₁ q=>q)
 ·intro pins' σ' H' s1 e s2 I1 c
  refine land2 (I1.unover) c I.ok.frames hst hf hex fun y cls H2 s3 B a0 d he L da hE=>?_
  subst he
  exact hh pins σ' H2 y cls s3 B a0 d D L da (hR _ _ _ _ hE)
 ·cases f with
  | next=>
   obtain⟨σ1,H1,I1,q1⟩:=q
   exact wpAny_execs_nil ⟨σ1,H1,I1.unover,q1⟩
  | brk=>
   obtain⟨σ1,H1,I1,q1⟩:=q
   exact⟨σ1,H1,I1.unover,q1⟩
  | cont=>
   obtain⟨σ1,H1,I1,q1⟩:=q
   exact⟨σ1,H1,I1.unover,q1⟩
  | ret u=>
   obtain⟨v,σ1,H1,I1,rv,q1⟩:=q
   exact⟨v,σ1,H1,I1.unover,rv,q1⟩
def tFldG (K:PySem.W.Frag) (ta:TE) (f:Str):TE:=fun σ H Q=>ta σ H fun x H1=>∃a C dx fs v,x=.ref a∧H1 a=some (excG a C dx)∧H1 dx=some (.xd fs)∧XfK K C∧bB K C f∧fs.lookup f=some v∧Q v H1
theorem pe_fldG {X:Cx} {K:PySem.W.Frag} {e:Expr} {f:Str} {pos:Pos} {ta:TE} (hK:X.K=K) (he:PE X e ta) (hb:attributeBase e f X.env (eval e X.env)=eval e X.env):PE X (.Attribute e f pos) (tFldG K ta f):=by
 subst hK
 intro pins s σ H Q I h
 refine attr_of hb (thn (he pins s σ H _ I h) fun u s1 hpt=>?_)
 obtain⟨x,H1,I1,rx,a,C,dx,fs,v,ex,ea,ed,c,n,l,q⟩:=hpt
 subst ex
 obtain rfl:u=Value.ref a:=rx
 obtain⟨⟨fl,sl,hx⟩,_,_⟩:=(show dO X.prog X.w H1 s1.heap a (excG a C dx) from I1.hok a _ ea)
 exact getx_at I1 hx ed c n l fun u' s2 I2 ru=>⟨v,H1,I2,ru,q⟩
section
variable {P:Program} {w:World} {K:PySem.W.Frag} {mg:Str→Option Value} {base:Heap}
theorem Fun.ok2 {x qual:Str} {st:Stmt} {f:Addr} {fd:FuncData} {N ps:List Str} {k:Nat} {sp:Sp} (F:Fun K x qual st f fd) (S:FnScope N ps (aA st)) (len:∀vs H Q E,sp vs H Q E→vs.length=ps.length)
  (go:∀(cdv:Value) (A:Around) (outer:List Env) (s:Shared) (H:Hp) (vs:List V) (Q:VK) (E:XK),Room k (A.deeper (envOfC qual (aA st) s.heap.objs.size f cdv))→sp vs H Q E→
   ∃t,PSs (kI (CX2 P w) P w K mg base N qual (aA st) f cdv A outer s H E) (aU st) t∧t { nx:=fun _ H'=>Q .non H',rt:=Q } (start N vs) H):FnOk P w K mg base (CX2 P w) (k+1) f fd ps sp:=by
 obtain⟨oc,od,kV,doc,pm,an,cdv,ct,osl,e,lk,hcd⟩:=F.ex
 subst e
 exact fn_of lk hcd S len fun A outer s H vs Q E hr hsp=>go cdv A outer s H vs Q E hr hsp
end
theorem ExcIni.at {K:PySem.W.Frag} {C f:Addr} (c:ExcIni K C f) {h:Heap} (X:K.In h):ExcAt K C:=by
 obtain⟨nm,q,Nn,bs,bm,hdct,sn,sub,ab,col,dd,k0,k1,k2,k3,k5,mN,_,hf⟩:=c.ex
 exact⟨⟨nm,q,Nn,bs,bm,hdct,sn,sub,ab,col,dd,k0,k1,k2,k3,k5,_,(hf h X).2.2.hasType (X:= "BaseException") (b:=true) (by decide +kernel),fun h X=>(hf h X).1⟩⟩
end L2
set_option Elab.async false
set_option linter.all false
set_option maxRecDepth 100000
set_option Elab.async false
set_option maxHeartbeats 4000000
namespace L2
open PySem PySem.Spec PyProof.Rows
def iOr (a b:TI):TI:=fun σ H R=>a σ H R∨b σ H R
theorem pi_or {X:Cx} {tg it:Expr} {a b:TI} (h1:PI X tg it a) (h2:PI X tg it b):PI X tg it (iOr a b):=fun pins s σ H R I h=>h.elim (h1 pins s σ H R I) (h2 pins s σ H R I)
theorem comp_tup {js:List Nat} {tt:TT} {te:TE} {σ:St} {Qd:List V→Hp→Prop} {K:PySem.W.Frag} {a:Addr} {xs:List V} {H:Hp} (Pv:Nat→List V→Hp→Prop) (hn:xs.length≤sizeLine) (h0:Pv 0 [] H) (hl:∀i ys H,Pv i ys H→ys.length≤i) (hq:∀i ys H,i≤xs.length→Pv i ys H→SqT K H a xs)
  (hs:∀i x ys H,xs[i]?=some x→Pv i ys H→tt (some x:: cJ σ js) H fun b H4=>if b=true then te (some x:: cJ σ js) H4 fun y H5=>Pv (i+1) (ys ++ [y]) H5 else Pv (i+1) ys H4)
  (hd:∀ys H,Pv xs.length ys H→Qd ys H):CompEnd js tt te σ Qd (Itt K a) H:=by
 refine⟨fun i m ys H=>m=xs.length - i∧i≤xs.length∧Pv i ys H,⟨xs.length,by simp,Nat.zero_le _,h0⟩,?_⟩
 rintro i m ys H ⟨rfl,hi,p⟩
 have hlen:=hl i ys H p
 have q:=hq i ys H hi p
 by_cases hlt:i <xs.length
 ·refine .inr ⟨⟨xs,xs[i],q,by simp [hlt]⟩,by omega,Pv (i+1),fun ys' H' p'=>⟨xs.length - (i+1),by omega,rfl,hlt,p'⟩,fun x H' y=>?_⟩
  obtain⟨e,y⟩:=y
  subst e
  exact hs i x ys _ (y xs q) p
 ·have e:i=xs.length:=by omega
  subst e
  exact .inl ⟨⟨xs,q,Nat.le_refl _⟩,by omega,hd ys H p⟩
theorem comp_A {js:List Nat} {tt:TT} {te:TE} {σ σ0:St} {Qd:List V→Hp→Prop} {K:PySem.W.Frag} {a:Addr} {xs:List V} {H:Hp} {tl:TE} (ht:∀R:V→Hp→Prop,R (.ref a) H→tl σ0 H R) (ha:SqA K H a xs) (Pv:Nat→List V→Prop) (hn:xs.length≤sizeLine) (h0:Pv 0 []) (hl:∀i ys,Pv i ys→ys.length≤i)
  (hs:∀i x ys,xs[i]?=some x→Pv i ys→tt (some x:: cJ σ js) H fun b H4=>if b=true then te (some x:: cJ σ js) H4 fun y H5=>H5=H∧Pv (i+1) (ys ++ [y]) else H4=H∧Pv (i+1) ys)
  (hd:∀ys,Pv xs.length ys→Qd ys H):iOr (iList K tl) (iTup K tl) σ0 H (CompEnd js tt te σ Qd):=by
 rcases ha with ha | ha
 ·refine .inl (ht _ ⟨a,rfl,⟨xs,ha⟩,pG (K:=K) (a:=a) (xs:=xs) (fun i ys H'=>H'=H∧Pv i ys) hn ⟨rfl,h0⟩ (fun i ys _ z=>hl i ys z.2) (fun i ys H' _ z=>by rw [z.1];exact ha) (fun i x ys H' hx z=>?_) fun ys H' z=>?_⟩)
  ·obtain⟨rfl,z⟩:=z;exact hs i x ys hx z
  ·obtain⟨rfl,z⟩:=z;exact hd ys z
 ·refine .inr (ht _ ⟨a,rfl,⟨xs,ha⟩,comp_tup (K:=K) (a:=a) (xs:=xs) (fun i ys H'=>H'=H∧Pv i ys) hn ⟨rfl,h0⟩ (fun i ys _ z=>hl i ys z.2) (fun i ys H' _ z=>by rw [z.1];exact ha) (fun i x ys H' hx z=>?_) fun ys H' z=>?_⟩)
  ·obtain⟨rfl,z⟩:=z;exact hs i x ys hx z
  ·obtain⟨rfl,z⟩:=z;exact hd ys z
theorem SqA.len {K:PySem.W.Frag} {H:Hp} {a:Addr} {xs:List V} (h:SqA K H a xs):LenV K (.ref a) H xs.length:=h.elim (fun h=>.inl ⟨xs,h,rfl⟩) fun h=>.inr ⟨xs,h,rfl⟩
theorem zu {X:Cx} {K:PySem.W.Frag} (hK:X.K=K):IxR X (rIxT K):=by subst hK;exact dW
end L2
set_option Elab.async false
set_option linter.all false
set_option maxRecDepth 100000
set_option Elab.async false
set_option maxHeartbeats 4000000
namespace L2
open PySem PySem.Spec PyProof.Rows
section
variable {P:Program} {w:World} {K:PySem.W.Frag} {mg:Str→Option Value} {base:Heap} {N:List Str} {qual:Str} {scope:Scope} {f:Addr} {cd:Value} {A:Around} {outer:List Env} {s:Shared} {H:Hp} {E:XK}
theorem raise3 {pins:List (Addr×Obj)} {σ:St} {H1:Hp} {s1:Shared} {h':Heap} {e:Addr} {cls:Value} {args:List Value} (I:Inv (kI (CX2 P w) P w K mg base N qual scope f cd A outer s H E) pins σ H1 s1)
  (hx:Heap.MadeExcOf s1.heap h' e cls args) (hE:E cls none H1):(kI (CX2 P w) P w K mg base N qual scope f cd A outer s H E).xe (.ref e) { s1 with heap:=h' }:=by
 have nL:∀b o,s.heap.get? b=some o→b≠s.heap.objs.size:=fun b o q=>Nat.ne_of_lt (Heap.lt_size q)
 have hmem:∀env∈(envOfC qual scope s.heap.objs.size f cd:: outer),∀b,env.frame=some b→b∈frs (envOfC qual scope s.heap.objs.size f cd:: outer):=fun env he b hb=>List.mem_filterMap.mpr ⟨env,he,hb⟩
 have stk:=I.stack
 have inB:∀b o,s.heap.get? b=some o→b∉frs outer→∃o',(PySem.W.hideAll s1.heap (frs (envOfC qual scope s.heap.objs.size f cd:: outer))).get? b=some o':=fun b o q hb=>by
  obtain⟨o1,k1⟩:=I.base.there b o q (by simp [kI])
  exact⟨o1,PySem.W.hideAll_get _ k1 fun z=>(List.mem_cons.mp z).elim (nL b o q) hb⟩
 have hok:HOk P w H1 (PySem.W.hideAll s1.heap (frs (envOfC qual scope s.heap.objs.size f cd:: outer))):=fun b o q=>by
  refine(I.hok b o q).stay (fun c v hc q'=>PySem.W.hideAll_get _ q' fun hm=>?_) (fun _ q'=>q') fun _ _ q'=>q'
  have hn:=I.stkFree c hm
  rcases hc with z | z
  ·rw [z,q] at hn;cases hn
  ·rw [z] at hn;cases hn
 have sB:(PySem.W.hideAll s1.heap (frs (envOfC qual scope s.heap.objs.size f cd:: outer))).StaysIn s1.heap:=fun b o q=>PySem.W.of_hideAll _ q
 have go:=pB qD (wpAny_leaves_madeW (M:=model P w) (E:=fun e' s''=>CX2 P w outer H s E e' s'') (s:={ s1 with heap:=h' }) (base:=PySem.W.hideAll s1.heap (frs (envOfC qual scope s.heap.objs.size f cd:: outer))) (h:=s1.heap)
  (Q:=fun _ s2=>∃h2 t,s2={ s1 with heap:=h2 }∧Heap.FlyingW (PySem.W.hideAll s1.heap (frs (envOfC qual scope s.heap.objs.size f cd:: outer))) outer e cls (.ref t) h2∧h'.UpToSlots h2)
  I.ok.frames rfl sB (PySem.W.funFrames_hide stk hmem) hx fun h2 t fl _ _ up=>⟨h2,t,rfl,fl,up⟩)
 refine wpAny_mono go (fun _ s2 q=>?_) fun _ _ z=>z
 obtain⟨⟨h2,t,rfl,fl,up⟩,dk⟩:=q
 obtain⟨ob,hob,_⟩:=fl.there
 obtain⟨t0,he,_,_⟩:=hx.there
 have fd:∀b o,s1.heap.get? b=some o→b∈frs outer→∀vs,o.data≠.fields vs:=fun b o q hb=>by
  have hb':b∈frs (envOfC qual scope s.heap.objs.size f cd:: outer):=List.mem_cons_of_mem _ hb
  obtain⟨_,o',q',d⟩:=stk.mem hb'
  rw [q] at q'
  cases q'
  exact d
 exact⟨e,cls,_,H1,_,none,rfl,I.os,I.bare,fl,DictAt.on (h:=h') ⟨_,he,rfl⟩ dk hob,hok,un_fly2 (L:=s.heap.objs.size) I.base Un.refl nL inB sB fl.1 ((Heap.UpToSlots.of_keeps hx.keeps).trans up) fd,inB,hE⟩
theorem ps_raise2 {x:Str} {C:Addr} {np cpos pos:Pos} {e:Expr} {es:List Expr} {ta:TA} (c:ExcCls K C) (hm:mg x=some (.ref C))
  (hg:Gl (kI (CX2 P w) P w K mg base N qual scope f cd A outer s H E) x) (ha:PA (kI (CX2 P w) P w K mg base N qual scope f cd A outer s H E) (e:: es) ta)
  (he:starEach (e:: es) (kI (CX2 P w) P w K mg base N qual scope f cd A outer s H E).env=(false,eval e (kI (CX2 P w) P w K mg base N qual scope f cd A outer s H E).env):: starEach es (kI (CX2 P w) P w K mg base N qual scope f cd A outer s H E).env:=by rfl)
  (hpl:(backTo cpos (starEach (e:: es) (kI (CX2 P w) P w K mg base N qual scope f cd A outer s H E).env)).any (·.1)=false:=by rfl) (hdb:(x == ("__debug__" :Str))=false:=by decide):
  PS (kI (CX2 P w) P w K mg base N qual scope f cd A outer s H E) (.Raise (some (.Call (.Name x np) (e:: es) [] cpos)) none pos) (tRaise E C ta):=by
 intro pins s1 σ H1 D I h
 obtain⟨nm,q,Nn,bs,bm,bmB,hdct,sn,sub,ab,col,dd,k0,k1,k2,k3,k5,B,newId,initId,mN,F,hb,hni,hf⟩:=c.ex
 have hl:sizeLine=16777216:=sizeLine_eq
 refine wpAny_Raise_call_subT (nm:=nm) (q:=q) (N:=Nn) (bs:=bs) (bm:=bm) (hdct:=hdct) (sn:=sn) (sub:=sub) (ab:=ab) (col:=col) (dd:=dd) (k0:=k0) (k1:=k1) (k2:=k2) (k3:=k3) (k5:=k5) F hb (I.ok.hd rfl) hpl hni (tM I hg hm ⟨rfl,?_⟩ hdb)
 have ha':=ha cpos pins s1 σ H1 _ I h
 rw [he] at ha' ⊢
 refine Calls.evalArgs_plain (thn ha' fun us s2 hpt=>?_)
 obtain⟨vs,H2,I2,r,hz,hE⟩:=hpt
 obtain⟨hC,hn,hT⟩:=hf s2.heap I2.kIn
 exact⟨rfl,by have:=r.length;show us.length≤sizeLine;omega,hC,hn,hT,fun h' e hx=>raise3 I2 hx hE⟩
end
def caught (y C:Addr):Option Addr→HO
 | some dx=>excG y C dx
 | none=>excO y (.ref C)
def thC (K:PySem.W.Frag) (i:Nat) (C:Addr) (ts:TS) (tr:TH):TH:=fun D cls d σ H=>
 (cls=.ref C∧∀y,H y=none→ts { nx:=fun σ2 H2=>D.nx (σ2.set i none) H2,rt:=D.rt,bk:=fun σ2 H2=>D.bk (σ2.set i none) H2,ct:=fun σ2 H2=>D.ct (σ2.set i none) H2 } (σ.set i (some (.ref y))) (upd H y (caught y C d)))∨
 (∃C1,cls=.ref C1∧PySem.W.subIn K (.ref C1) (.ref C)=some false∧tr D cls d σ H)
theorem ph_c {X:Cx} {K:PySem.W.Frag} {i:Nat} {n x:Str} {C:Addr} {b₀:Stmt} {suite:List Stmt} {np hpos:Pos} {rest:List ExceptHandler} {ts:TS} {tr:TH} (hK:X.K=K)
  (hN:X.N.Nodup) (hi:X.N[i]?=some n) (hk:X.env.scope.names.lookup n=some .local) (hg:Gl X x) (hm:X.mg x=some (.ref C)) (cl:ExcAt K C)
  (hs:∀y,PSs (X.marked y) (b₀:: suite) ts) (hr:PH X rest tr) (hdb:(x == ("__debug__" :Str))=false:=by decide):
  PH X (.ExceptHandler (some (.Name x np)) (some n) (b₀:: suite) hpos:: rest) (thC K i C ts tr):=by
 subst hK
 intro pins σ H' y cls s B a0 d D L da h
 obtain⟨nm,q,Nn,bs,bm,hdct,sn,sub,ab,col,dd,k0,k1,k2,k3,k5,newId,hbase,hC⟩:=cl.ex
 obtain⟨ob,hob,hobc⟩:=L.fly.there
 have IL:=L.inv
 have hd:=IL.ok.hd
 refine wpAny_handleBy_cons (codeAny_handlers_test (Calls.Name_function_global IL.ok.kind hg (Calls.loadGlobal_global (by rw [IL.ok.glob];exact IL.mod.glob.keeps IL.bk) hm ?_) hdb)) (by intro q;cases q)
 rcases h with ⟨rfl,hsu⟩ | ⟨C1,rfl,hsub,hrest⟩
 ·refine wpAny_excMatches_sub_self (hC s.heap IL.kIn) hob hobc hbase ?_
  refine codeAny_handlers_suite_as (e:=.ref y) ?_
  have g1:=pB oK (lands_againW (M:=model X.prog X.w) (A:=X.A.mark (some (.ref y))) (E:=fun _ _=>False) (Q:=fun _ s6=>∃h',s6={ s with heap:=h' }∧Heap.FlyingW B X.stack y (.ref C) a0 h'∧s.heap.UpToSlots h') L.fly fun h' f up=>⟨h',rfl,f,up⟩)
  refine wpAny_mono g1 (fun _ s6 q6=>?_) fun _ _ z=>False.elim z
  obtain⟨⟨h6,rfl,fl6,up6⟩,dk6⟩:=q6
  obtain⟨oe6,vs6,hob6,hobc6,hdat6,_⟩:=fl6.first
  obtain⟨o7,ho7,hd7⟩:=da.on dk6 hob6
  obtain rfl:oe6=o7:=Option.some.inj (hob6.symm.trans ho7)
  obtain⟨oc,od,dt,osl⟩:=oe6
  dsimp only at hobc6 hdat6 hd7
  subst hobc6 hdat6 hd7
  have ok6:dO X.prog X.w (upd H' y (caught y C od)) h6 y (caught y C od):=by
   cases od with
   | some dx=>exact⟨⟨_,_,hob6⟩,⟨_,hob6⟩,fun h1 h2 ⟨x1,x2,z⟩ k=>⟨x1,x2,k _ z⟩⟩
   | none=>exact⟨⟨_,hob6,rfl⟩,⟨_,hob6⟩,fun h1 h2 ⟨o,e1,e2⟩ k=>⟨o,k o e1,e2⟩⟩
  have I6:=(L.more h6 fl6 up6).track (x:=y) (o:=caught y C od) L.free L.new L.neL L.neC L.neP ok6
  refine yd I6 hN hi (.inl hk) (v:=.ref y) rfl (fun s7 I7=>?_) (.inr hk)
  refine wpAny_mono (hs y pins s7 _ _ _ I7.marked (hsu y L.free)) (fun f s8 q8=>?_) fun _ _ z=>False.elim z
  cases f with
  | next=>
   obtain⟨σ8,H8,I8,q8⟩:=q8
   exact zq (I8.unmarked hd) hN hi hk fun s9 I9=>⟨_,_,I9,q8⟩
  | brk=>
   obtain⟨σ8,H8,I8,q8⟩:=q8
   exact zq (I8.unmarked hd) hN hi hk fun s9 I9=>⟨_,_,I9,q8⟩
  | cont=>
   obtain⟨σ8,H8,I8,q8⟩:=q8
   exact zq (I8.unmarked hd) hN hi hk fun s9 I9=>⟨_,_,I9,q8⟩
  | ret u=>
   obtain⟨v,σ8,H8,I8,rv,q8⟩:=q8
   exact zq (I8.unmarked hd) hN hi hk fun s9 I9=>⟨v,_,_,I9,rv,q8⟩
 ·obtain⟨hp,g,dr,tk,os⟩:=s
  refine xm_other (hC _ IL.kIn) hob hobc hbase (fun q=>(PySem.W.looks_subIn IL.kIn hsub).at q) ?_
  exact hr pins σ H' y _ _ B a0 d D L da hrest
theorem call_isiZ {X:Cx} {K:PySem.W.Frag} (hK:X.K=K):qm X (.builtin "isinstance") (fun xs H Q=>∃y C d c b,xs=[.ref y,c]∧H y=some (caught y C d)∧XcK K C∧isiE K C c b∧Q (.bl b) H):=by
 subst hK
 intro pins s σ H xs us Q I r h
 obtain⟨y,C,d,c,b,rfl,hy,x,hc,q⟩:=h
 obtain⟨u,w',rfl,rx,ry⟩:=vals2 r
 cases rx
 have p:ExcHere y C s.heap:=by
  have z:=I.hok y _ hy
  cases d with
  | some dx=>obtain⟨⟨_,_,w⟩,_⟩:=z;exact⟨_,w,rfl⟩
  | none=>obtain⟨⟨_,w,e⟩,_⟩:=z;exact⟨_,w,e⟩
 have fin:∀tk,EP X pins σ Q (.bool b) { s with toks:=tk }:=fun tk=>⟨.bl b,H,I.tok tk,rfl,q⟩
 cases c with
 | ref D=>cases ry;exact PySem.W.kia_one (kitx_exc x) I.kIn p hc (by intro e;cases e) fin
 | ty T=>cases ry;exact PySem.W.kia_one (kitx_exc x) I.kIn p hc (by intro e;cases e) fin
 | _=>exact(show False from hc).elim
end L2
set_option Elab.async false
set_option linter.all false
set_option maxRecDepth 100000
set_option Elab.async false
set_option maxHeartbeats 4000000
namespace L2
open PySem PySem.Spec PyProof.Rows
section
variable {κ:Type} [DecidableEq κ]
def fJ (kvs:List (κ×V)) (k:κ):Option V:=(kvs.find? fun kv=>decide (kv.1=k)).map (·.2)
def putK (kvs:List (κ×V)) (k:κ) (v:V):List (κ×V):=
 if (kvs.any fun kv=>decide (kv.1=k))=true then kvs.map (fun kv=>if kv.1=k then(kv.1,v) else kv) else kvs ++ [(k,v)]
theorem gH {p:κ×V} {r:List (κ×V)} {k:κ} (e:p.1=k):fJ (p:: r) k=some p.2:=by simp [fJ,List.find?_cons,e]
theorem fZ {p:κ×V} {r:List (κ×V)} {k:κ} (e:¬p.1=k):fJ (p:: r) k=fJ r k:=by simp [fJ,List.find?_cons,e]
theorem rE (k:κ):∀kvs:List (κ×V),(kvs.any fun kv=>decide (kv.1=k))=(fJ kvs k).isSome
 | []=>rfl
 | p:: r=>by
  rw [List.any_cons]
  by_cases e:p.1=k
  ·simp only [gH e,decide_eq_true e,Bool.true_or,Option.isSome_some]
  ·rw [fZ e,decide_eq_false e,Bool.false_or];exact rE k r
theorem valV_map (k j:κ) (y:V):∀kvs:List (κ×V),fJ (kvs.map fun kv=>if kv.1=k then(kv.1,y) else kv) j=(fJ kvs j).map fun x=>if j=k then y else x
 | []=>rfl
 | p:: r=>by
  have ih:=valV_map k j y r
  rw [List.map_cons]
  by_cases h:p.1=k
  ·rw [if_pos h]
   by_cases e:p.1=j
   ·rw [gH (p:=(p.1,y)) e,gH e,Option.map_some,if_pos (e.symm.trans h)]
   ·rw [fZ (p:=(p.1,y)) e,fZ e,ih]
  ·rw [if_neg h]
   by_cases e:p.1=j
   ·rw [gH (p:=p) e,gH e,Option.map_some,if_neg (fun z=>h (e.trans z))]
   ·rw [fZ (p:=p) e,fZ e,ih]
theorem valV_snoc (k j:κ) (y:V):∀kvs:List (κ×V),fJ kvs k=none→fJ (kvs ++ [(k,y)]) j=if j=k then some y else fJ kvs j
 | [],_=>by
  by_cases e:k=j
  ·rw [if_pos e.symm];exact gH (p:=(k,y)) e
  ·rw [if_neg (fun z=>e z.symm)];exact fZ (p:=(k,y)) e
 | p:: r,hn=>by
  rw [List.cons_append]
  have hk:¬p.1=k:=fun z=>by rw [gH z] at hn;cases hn
  rw [fZ hk] at hn
  have ih:=valV_snoc k j y r hn
  by_cases e:p.1=j
  ·rw [gH e,gH e,if_neg (fun z=>hk (e.trans z))]
  ·rw [fZ e,fZ e,ih]
theorem valV_put (kvs:List (κ×V)) (k j:κ) (y:V):fJ (putK kvs k y) j=if j=k then some y else fJ kvs j:=by
 unfold putK
 by_cases a:(kvs.any fun kv=>decide (kv.1=k))=true
 ·rw [if_pos a,valV_map]
  rw [rE] at a
  by_cases e:j=k
  ·obtain⟨x,hx⟩:=Option.isSome_iff_exists.mp a
   rw [if_pos e,e,hx,Option.map_some,if_pos rfl]
  ·rw [if_neg e]
   cases fJ kvs j with
   | none=>rfl
   | some x=>rw [Option.map_some,if_neg e]
 ·rw [if_neg a]
  refine valV_snoc k j y kvs ?_
  rw [rE] at a
  cases q:fJ kvs k with
  | none=>rfl
  | some x=>rw [q] at a;exact(a rfl).elim
theorem nY (kvs:List (κ×V)) (k:κ) (v:V):(putK kvs k v).length≤kvs.length+1:=by
 unfold putK
 split
 ·rw [List.length_map];omega
 ·rw [List.length_append,List.length_cons,List.length_nil];omega
theorem xF {kvs:List (κ×V)} {k:κ} (v:V) (h:fJ kvs k=none):putK kvs k v=kvs ++ [(k,v)]:=by
 unfold putK
 rw [rE,h]
 exact if_neg (by decide)
theorem rZ.isSome_eq {o:Option V} {u:Option Value} (r:rZ o u):o.isSome=u.isSome:=by
 cases o with
 | none=>cases u with
  | none=>rfl
  | some _=>exact(show False from r).elim
 | some _=>cases u with
  | none=>exact(show False from r).elim
  | some _=>rfl
theorem KV.val {kvs:List (κ×V)} {vs:List (κ×Value)} (r:KV kvs vs) (k:κ):rZ (fJ kvs k) (valueAt vs k):=by
 unfold KV at r
 induction r with
 | nil=>exact True.intro
 | @cons p q ps qs h t ih=>
  obtain⟨h1,h2⟩:=h
  by_cases e:p.1=k
  ·have e':q.1=k:=h1.symm.trans e
   have b:valueAt (q:: qs) k=some q.2:=by simp [valueAt,List.find?_cons,e']
   rw [gH e,b];exact h2
  ·have e':¬q.1=k:=fun z=>e (h1.trans z)
   have b:valueAt (q:: qs) k=valueAt qs k:=by simp [valueAt,List.find?_cons,e']
   rw [fZ e,b];exact ih
theorem KV.any {kvs:List (κ×V)} {vs:List (κ×Value)} (r:KV kvs vs) (k:κ):(kvs.any fun kv=>decide (kv.1=k))=vs.any fun kv=>decide (kv.1=k):=by
 unfold KV at r
 induction r with
 | nil=>rfl
 | cons h t ih=>rw [List.any_cons,List.any_cons,ih,h.1]
theorem KV.repl {kvs:List (κ×V)} {vs:List (κ×Value)} (r:KV kvs vs) (k:κ) {y:V} {u:Value} (ry:RelV y u):
  KV (kvs.map fun kv=>if kv.1=k then(kv.1,y) else kv) (vs.map fun kv=>if kv.1=k then(kv.1,u) else kv):=by
 unfold KV at r ⊢
 induction r with
 | nil=>exact .nil
 | @cons p q ps qs h t ih=>
  rw [List.map_cons,List.map_cons]
  refine .cons ?_ ih
  obtain⟨h1,h2⟩:=h
  by_cases e:p.1=k
  ·rw [if_pos e,if_pos (h1.symm.trans e)];exact⟨h1,ry⟩
  ·rw [if_neg e,if_neg (fun z=>e (h1.trans z))];exact⟨h1,h2⟩
theorem KV.put {kvs:List (κ×V)} {vs:List (κ×Value)} (r:KV kvs vs) (k:κ) {y:V} {u:Value} (ry:RelV y u):KV (putK kvs k y) (stored vs k u):=by
 unfold putK stored
 rw [r.any k]
 by_cases e:(vs.any fun kv=>decide (kv.1=k))=true
 ·rw [if_pos e,if_pos e];exact r.repl k ry
 ·rw [if_neg e,if_neg e];exact Paired.snoc r ⟨rfl,ry⟩
theorem KV.length {kvs:List (κ×V)} {vs:List (κ×Value)} (r:KV kvs vs):kvs.length=vs.length:=Paired.length r
end
theorem kV_is {P:Program} {w:World} {k:Key} {u:Value} (r:RelV (kV k) u):(dH P w).is k u=true:=by
 cases k with
 | inl i=>obtain⟨t,e⟩:=(show ∃t,u=Value.int i t from r);subst e;exact mixKind_int P w i t
 | inr x=>obtain⟨t,e⟩:=(show ∃t,u=Value.str x t from r);subst e;exact n6 P w x t
theorem items_are {P:Program} {w:World}:∀{ks:List Key} {us:List Value},Vals (ks.map kV) us→ItemsAre (dH P w) ks us
 | [],_,r=>by rw [List.map_nil] at r;cases r;exact .nil
 | k:: ks,_,r=>by
  rw [List.map_cons] at r
  cases r with
  | cons h t=>exact .cons (kV_is h) (items_are t)
abbrev KT (H:Hp):List (List Key×V)→List (List Key×Addr×Value)→Prop:=Paired fun p q=>p.1=q.1∧H q.2.1=some (.tup (p.1.map kV))∧RelV p.2 q.2.2
theorem KT.val {H:Hp} {kvs:List (List Key×V)} {xs:List (List Key×Addr×Value)} (r:KT H kvs xs) (k:List Key):rZ (fJ kvs k) ((atKey xs k).map (·.2)):=by
 induction r with
 | nil=>exact True.intro
 | @cons p q ps qs h t ih=>
  obtain⟨h1,_,h2⟩:=h
  by_cases e:p.1=k
  ·have e':q.1=k:=h1.symm.trans e
   have b:atKey (q:: qs) k=some q.2:=by simp [atKey,List.find?_cons,e']
   rw [gH e,b];exact h2
  ·have e':¬q.1=k:=fun z=>e (h1.trans z)
   have b:atKey (q:: qs) k=atKey qs k:=by simp [atKey,List.find?_cons,e']
   rw [fZ e,b];exact ih
theorem KT.repl {H:Hp} {kvs:List (List Key×V)} {xs:List (List Key×Addr×Value)} (r:KT H kvs xs) (k:List Key) {y:V} {u:Value} (ry:RelV y u):
  KT H (kvs.map fun kv=>if kv.1=k then(kv.1,y) else kv) (xs.map (putAt k u)):=by
 induction r with
 | nil=>exact .nil
 | @cons p q ps qs h t ih=>
  rw [List.map_cons,List.map_cons]
  refine .cons ?_ ih
  obtain⟨h1,h2,h3⟩:=h
  unfold putAt
  by_cases e:p.1=k
  ·rw [if_pos e,if_pos (h1.symm.trans e)];exact⟨h1,h2,ry⟩
  ·rw [if_neg e,if_neg (fun z=>e (h1.trans z))];exact⟨h1,h2,h3⟩
theorem KT.put {H:Hp} {kvs:List (List Key×V)} {xs:List (List Key×Addr×Value)} (r:KT H kvs xs) (k:List Key) {b:Addr} {y:V} {u:Value} (hb:H b=some (.tup (k.map kV))) (ry:RelV y u):
  KT H (putK kvs k y) (storedH xs k b u):=by
 have e:(kvs.any fun kv=>decide (kv.1=k))=(atKey xs k).isSome:=by
  rw [rE,(r.val k).isSome_eq,Option.isSome_map]
 unfold putK storedH
 rw [e]
 by_cases q:(atKey xs k).isSome=true
 ·rw [if_pos q,if_pos q];exact r.repl k ry
 ·rw [if_neg q,if_neg q];exact Paired.snoc r ⟨rfl,hb,ry⟩
theorem KT.keeps {H H':Hp} {kvs:List (List Key×V)} {xs:List (List Key×Addr×Value)} (r:KT H kvs xs) (ht:∀b ys,H b=some (.tup ys)→H' b=some (.tup ys)):KT H' kvs xs:=
 Paired.mapP r fun _ _ z=>⟨z.1,ht _ _ z.2.1,z.2.2⟩
section
variable {P:Program} {w:World} {H:Hp} {h:Heap} {a:Addr}
theorem rd_of {u:HO} (ok:HOk P w H h) (e:Rd H a u):dO P w H h a u:=e.ok ok
theorem dk_rd {kvs:List (Key×V)} (ok:HOk P w H h) (e:Rd H a (.dK kvs)):kvs.length≤sizeLine∧(a == sysModules)=false∧∃vs,KV kvs vs∧h.DictOf (dH P w) a vs:=
 show dO P w H h a (.dK kvs) from rd_of ok e
theorem dk_of {kvs:List (Key×V)} (ok:HOk P w H h) (e:H a=some (.dK kvs)):kvs.length≤sizeLine∧(a == sysModules)=false∧∃vs,KV kvs vs∧h.DictOf (dH P w) a vs:=dk_rd ok (.inl e)
theorem zL {ks:List Key} (ok:HOk P w H h) (e:H a=some (.tup (ks.map kV))):(tupleKind (dH P w)).is h ks a:=by
 obtain⟨_,its,r,o,h1,h2,n,h3⟩:=(show dO P w H h a (.tup (ks.map kV)) from ok a _ e)
 exact⟨o,its.toArray,n,h1,h2,h3,by simpa using items_are r⟩
theorem dt_rd {kvs:List (List Key×V)} (ok:HOk P w H h) (e:Rd H a (.dT kvs)):kvs.length≤sizeLine∧(a == sysModules)=false∧
  ∃xs,KT H kvs xs∧h.DictOfH (tupleKind (dH P w)) a xs:=by
 obtain⟨z,y,xs,r,o,es,ep,h1,h2,h3,h4,h5⟩:=(show dO P w H h a (.dT kvs) from rd_of ok e)
 refine⟨z,y,xs,r,o,es,ep,h1,h2,h3,h4,fun x hx=>?_,h5⟩
 have all:∀{l:List (List Key×V)} {m:List (List Key×Addr×Value)},KT H l m→∀x∈m,(tupleKind (dH P w)).is h x.1 x.2.1:=by
  intro l m q
  induction q with
  | nil=>intro x hx;exact nomatch hx
  | @cons p q ps qs hq t ih=>
   intro x hx
   rcases List.mem_cons.mp hx with e | hx
   ·subst e
    exact zL ok (by rw [←hq.1];exact hq.2.1)
   ·exact ih x hx
 exact all r x hx
theorem dt_of {kvs:List (List Key×V)} (ok:HOk P w H h) (e:H a=some (.dT kvs)):kvs.length≤sizeLine∧(a == sysModules)=false∧
  ∃xs,KT H kvs xs∧h.DictOfH (tupleKind (dH P w)) a xs:=dt_rd ok (.inl e)
end
def mX (H:Hp) (a:Addr) (y:V) (r:Option V):Prop:=
 (∃kvs k,Rd H a (.dK kvs)∧y=kV k∧r=fJ kvs k)∨∃kvs k b,Rd H a (.dT kvs)∧y=.ref b∧H b=some (.tup (k.map kV))∧r=fJ kvs k
def DPut (H:Hp) (a:Addr) (y v:V) (H':Hp):Prop:=
 (∃kvs k,H a=some (.dK kvs)∧y=kV k∧kvs.length <sizeLine∧H'=upd H a (.dK (putK kvs k v)))∨
 ∃kvs k b,H a=some (.dT kvs)∧y=.ref b∧H b=some (.tup (k.map kV))∧kvs.length <sizeLine∧H'=upd H a (.dT (putK kvs k v))
theorem mX.k {H:Hp} {a:Addr} {kvs:List (Key×V)} {k:Key} (e:H a=some (.dK kvs)):mX H a (kV k) (fJ kvs k):=.inl ⟨kvs,k,.inl e,rfl,rfl⟩
theorem DPut.k {H:Hp} {a:Addr} {kvs:List (Key×V)} {k:Key} {v:V} (e:H a=some (.dK kvs)) (hl:kvs.length <sizeLine):DPut H a (kV k) v (upd H a (.dK (putK kvs k v))):=.inl ⟨kvs,k,e,rfl,hl,rfl⟩
section
variable {X:Cx} {pins:List (Addr×Obj)} {σ:St} {H:Hp} {s:Shared} {a:Addr} {y v:V} {u r:Value} {o:Option V} {A:Around} {E:Value→Shared→Prop}
theorem Inv.big (I:Inv X pins σ H s):sysModules <s.heap.objs.size:=by
 have h:mainGlobals <s.heap.objs.size:=(I.mod.glob.keeps I.bk).lt
 exact Nat.lt_trans (by decide) h
theorem d_getItem {Q:Value→Shared→Prop} (hu:A.units+1 <cLine) (I:Inv X pins σ H s) (g:mX H a y (some v)) (ry:RelV y u) (h:∀w' s',Inv X pins σ H s'→RelV v w'→Q w' s'):
  wpAny (model X.prog X.w) A (getItem (.ref a) u) Q E s:=by
 rcases g with ⟨kvs,k,e,ey,l⟩ | ⟨kvs,k,b,e,ey,eb,l⟩
 ·subst ey
  obtain⟨z,hd,vs,rel,dd⟩:=dk_rd I.hok e
  obtain⟨w',hw,rw'⟩:=rZ.some_of (v:=v) (o:=valueAt vs k) (by rw [l];exact rel.val k)
  exact wpAny_getItem_of (kV_is ry) dd.mapOf hw (h w' _ (I.tok _) rw')
 ·subst ey
  cases (show u=Value.ref b from ry)
  obtain⟨z,hd,xs,rel,dd⟩:=dt_rd I.hok e
  obtain⟨w',hw,rw'⟩:=rZ.some_of (v:=v) (o:=(atKey xs k).map (·.2)) (by rw [l];exact rel.val k)
  obtain⟨p,hp,hp2⟩:=Option.map_eq_some_iff.mp hw
  refine wpAny_getItem_heap (tupleKind_room_in1 hu) (zL I.hok eb) dd hp ?_
  rw [hp2]
  exact h w' _ (I.tok _) rw'
theorem d_in {Q:Value→Shared→Prop} (hu:A.units+1 <cLine) (I:Inv X pins σ H s) (g:mX H a y o) (ry:RelV y u) (h:∀s',Inv X pins σ H s'→Q (.bool o.isSome) s'):
  wpAny (model X.prog X.w) A (compareOp .In u (.ref a)) Q E s:=by
 rcases g with ⟨kvs,k,e,ey,l⟩ | ⟨kvs,k,b,e,ey,eb,l⟩
 ·subst ey
  obtain⟨z,hd,vs,rel,dd⟩:=dk_rd I.hok e
  refine wpAny_in_of (kV_is ry) hd dd.mapOf ?_
  rw [←(rel.val k).isSome_eq,←l]
  exact h _ (I.tok _)
 ·subst ey
  cases (show u=Value.ref b from ry)
  obtain⟨z,hd,xs,rel,dd⟩:=dt_rd I.hok e
  refine wpAny_in_heap (tupleKind_room_in1 hu) (zL I.hok eb) hd dd ?_
  have q:=(rel.val k).isSome_eq
  rw [Option.isSome_map] at q
  rw [←q,←l]
  exact h _ (I.tok _)
theorem d_notIn {Q:Value→Shared→Prop} (hu:A.units+1 <cLine) (I:Inv X pins σ H s) (g:mX H a y o) (ry:RelV y u) (h:∀s',Inv X pins σ H s'→Q (.bool (!o.isSome)) s'):
  wpAny (model X.prog X.w) A (compareOp .NotIn u (.ref a)) Q E s:=by
 rcases g with ⟨kvs,k,e,ey,l⟩ | ⟨kvs,k,b,e,ey,eb,l⟩
 ·subst ey
  obtain⟨z,hd,vs,rel,dd⟩:=dk_rd I.hok e
  refine wpAny_notIn_of (kV_is ry) hd dd.mapOf ?_
  rw [←(rel.val k).isSome_eq,←l]
  exact h _ (I.tok _)
 ·subst ey
  cases (show u=Value.ref b from ry)
  obtain⟨z,hd,xs,rel,dd⟩:=dt_rd I.hok e
  refine wpAny_notIn_heap (tupleKind_room_in1 hu) (zL I.hok eb) hd dd ?_
  have q:=(rel.val k).isSome_eq
  rw [Option.isSome_map] at q
  rw [←q,←l]
  exact h _ (I.tok _)
theorem d_write {h':Heap} {t':Nat} {ob:HO} (I:Inv X pins σ H s) (mu:Mut (H a)) (hs:Heap.SameBut a s.heap h') (he:∃q,h'.get? a=some q) (new:dO X.prog X.w (upd H a ob) h' a ob):
  Inv X pins σ (upd H a ob) { s with heap:=h',toks:=t' }:=
 I.write (x:=a) (e:=a) mu (.inl rfl) (fun b q hb z=>(hs.2 b hb).trans z) he new
theorem dk_new {P:Program} {w:World} {H':Hp} {h':Heap} {kvs:List (Key×V)} {vs:List (Key×Value)} (z:kvs.length≤sizeLine) (hd:(a == sysModules)=false) (rel:KV kvs vs) (dd:h'.DictOf (dH P w) a vs):
  dO P w H' h' a (.dK kvs):=⟨z,hd,vs,rel,dd⟩
theorem d_setItem {H':Hp} {Q:Unit→Shared→Prop} (hu:A.units+1 <cLine) (I:Inv X pins σ H s) (g:DPut H a y v H') (ry:RelV y u) (rv:RelV v r) (h:∀s',Inv X pins σ H' s'→Q () s'):
  wpAny (model X.prog X.w) A (setItem (.ref a) u r) Q E s:=by
 rcases g with ⟨kvs,k,e,ey,l,eH⟩ | ⟨kvs,k,b,e,ey,eb,l,eH⟩
 ·subst ey eH
  obtain⟨z,hd,vs,rel,dd⟩:=dk_of I.hok e
  have hz:vs.length≤sizeLine:=by rw [←rel.length];exact z
  have hl:(putK kvs k v).length≤sizeLine:=by have:=nY kvs k v;omega
  refine wpAny_setItem_pairs (hsz:=hz) (kV_is ry) dd fun h' dd' hs=>h _ ?_
  have he:∃q,h'.get? a=some q:=let ⟨q,_,_,hq,_⟩:=dd';⟨q,hq⟩
  exact d_write I (by rw [e];exact True.intro) hs he (dk_new hl hd (rel.put k rv) dd')
 ·subst ey eH
  cases (show u=Value.ref b from ry)
  obtain⟨z,hd,xs,rel,dd⟩:=dt_of I.hok e
  have hz:xs.length≤sizeLine:=by rw [←Paired.length rel];exact z
  have hl:(putK kvs k v).length≤sizeLine:=by have:=nY kvs k v;omega
  refine wpAny_setItem_heap (hsz:=hz) (tupleKind_room_in1 hu) (zL I.hok eb) dd fun h' dd' hs=>h _ ?_
  obtain⟨q,es,ep,hq,h2,h3,h4,_,h5⟩:=dd'
  refine d_write I (by rw [e];exact True.intro) hs ⟨q,hq⟩ ⟨hl,hd,_,(rel.put k eb rv).keeps fun c ys ec=>?_,q,es,ep,hq,h2,h3,h4,h5⟩
  rw [aK (wk ec e (fun z=>nomatch z))]
  exact ec
end
section
variable {X:Cx} {pins:List (Addr×Obj)} {σ:St} {H:Hp} {s:Shared} {a:Addr} {kvs:List (Key×V)} {k:Key} {u:Value} {A:Around} {E:Value→Shared→Prop}
end
def NoSl (i:Expr):Prop:=∀ov iv,subscripted i false ov iv=operate [ov,iv] (getItem ov iv)
theorem subD_of {prog:Program} {w:World} {A:Around} {E:Value→Shared→Prop} {s:Shared} {env:Env} {value slice:Expr} {pos:Pos} {T id:String} {Q:Value→Shared→Prop}
  (hl:typeLookup (.type T) "__getitem__" =pure (some (.builtin id))) (hs:NoSl slice)
  (h:wpAny (model prog w) A (eval value env) (fun o s₁=>wpAny (model prog w) A (eval slice env) (fun i s₂=>s₂.TypeIs o T∧wpAny (model prog w) A (getItem o i) Q E s₂) E s₁) E s):
  wpAny (model prog w) A (eval (.Subscript value slice pos) env) Q E s:=by
 refine Subscript_ (wpAny_mono h (fun o s₁ h₁=>wpAny_mono h₁ (fun i s₂ h₂=>?_) fun _ _ x=>x) fun _ _ x=>x)
 obtain⟨hT,h₂⟩:=h₂
 unfold subscriptTail
 refine wpAny_bind ?_
 rw [getitemInPython_of_ne hT.not_modules]
 refine wpAny_bind (wpAny_specialOf hT hl ?_)
 have fin:wpAny (model prog w) A (subscripted slice false o i) (fun r s₃=>wpAny (model prog w) A (letTemporaryGo value o r >>= fun _=>pure r) Q E s₃) E s₂:=by
  rw [hs o i]
  exact wpAny_operating (wpAny_mono h₂ (fun r s₃ h₃=>wpAny_bind (wpAny_letTemporaryGo (wpAny_pure h₃))) fun _ _ x=>x)
 first
  | exact wpAny_pure (wpAny_bind fin)
  | exact wpAny_bind (wpAny_pure (wpAny_bind fin))
  | exact wpAny_bind fin
theorem dict_typeIs {X:Cx} {pins:List (Addr×Obj)} {σ:St} {H:Hp} {s:Shared} {a:Addr} {y:V} {o:Option V} (I:Inv X pins σ H s) (g:mX H a y o):s.TypeIs (.ref a) "dict" :=by
 rcases g with ⟨kvs,k,e,_,_⟩ | ⟨kvs,k,b,e,_,_,_⟩
 ·obtain⟨_,_,vs,_,dd⟩:=dk_rd I.hok e
  exact dd.typeIs
 ·obtain⟨_,_,xs,_,dd⟩:=dt_rd I.hok e
  exact dd.typeIs
def tDGet (td ty:TE):TE:=fun σ H Q=>td σ H fun x H1=>ty σ H1 fun y H2=>∃a v,x=.ref a∧mX H2 a y (some v)∧Q v H2
def tDIn (ty td:TE):TE:=fun σ H Q=>ty σ H fun y H1=>td σ H1 fun x H2=>∃a o,x=.ref a∧mX H2 a y o∧Q (.bl o.isSome) H2
def tDNotIn (ty td:TE):TE:=fun σ H Q=>ty σ H fun y H1=>td σ H1 fun x H2=>∃a o,x=.ref a∧mX H2 a y o∧Q (.bl (!o.isSome)) H2
def sDPut (td ty tv:TE):TS:=fun D σ H=>tv σ H fun v H1=>td σ H1 fun x H2=>ty σ H2 fun y H3=>∃a H4,x=.ref a∧DPut H3 a y v H4∧D.nx σ H4
section
variable {X:Cx} {o i e value:Expr} {pos pos' tpos:Pos} {td ty tv:TE}
theorem pq (hu:X.A.units+1 <cLine) (ho:PE X o td) (hi:PE X i ty) (hs:NoSl i):PE X (.Subscript o i pos) (tDGet td ty):=by
 intro pins s σ H Q I h
 refine subD_of PySem.F.slot_dict_getitem.lookup hs (thn (ho pins s σ H _ I h) fun u s1 ⟨x,H1,I1,rx,q1⟩=>thn (hi pins s1 σ H1 _ I1 q1) fun iv s2 hpt=>?_)
 obtain⟨y,H2,I2,ry,a,v,ex,g,q2⟩:=hpt
 subst ex
 obtain rfl:u=Value.ref a:=rx
 exact⟨dict_typeIs I2 g,d_getItem hu I2 g ry fun w' s3 I3 rw'=>⟨v,H2,I3,rw',q2⟩⟩
theorem pc_din (hu:X.A.units+1 <cLine) (hi:PE X i ty) (ho:PE X o td):PC X .In i o (tDIn ty td):=by
 intro pins s σ H Q I h
 refine thn (hi pins s σ H _ I h) fun iv s1 ⟨y,H1,I1,ry,q1⟩=>thn (ho pins s1 σ H1 _ I1 q1) fun u s2 hpt=>?_
 obtain⟨x,H2,I2,rx,a,ov,ex,g,q2⟩:=hpt
 subst ex
 obtain rfl:u=Value.ref a:=rx
 exact d_in hu I2 g ry fun s3 I3=>⟨.bl ov.isSome,H2,I3,rfl,q2⟩
theorem vJ (hu:X.A.units+1 <cLine) (hi:PE X i ty) (ho:PE X o td):PC X .NotIn i o (tDNotIn ty td):=by
 intro pins s σ H Q I h
 refine thn (hi pins s σ H _ I h) fun iv s1 ⟨y,H1,I1,ry,q1⟩=>thn (ho pins s1 σ H1 _ I1 q1) fun u s2 hpt=>?_
 obtain⟨x,H2,I2,rx,a,ov,ex,g,q2⟩:=hpt
 subst ex
 obtain rfl:u=Value.ref a:=rx
 exact d_notIn hu I2 g ry fun s3 I3=>⟨.bl (!ov.isSome),H2,I3,rfl,q2⟩
theorem vN (hu:X.A.units+1 <cLine) (ho:PE X o td) (hi:PE X i ty) (hv:PE X value tv) (hs:swapsWith value (some (.Subscript o i pos')) pos.line X.env=pure false):
  PS X (.Assign [.Subscript o i pos'] value pos) (sDPut td ty tv):=by
 intro pins s σ H D I h
 refine wpAny_Assign_Subscript (thn (hv pins s σ H _ I h) fun r s1 ⟨v,H1,I1,rv,q1⟩=>thn (ho pins s1 σ H1 _ I1 q1) fun u s2 ⟨x,H2,I2,rx,q2⟩=>thn (hi pins s2 σ H2 _ I2 q2) fun iv s3 hpt=>?_) hs
 obtain⟨y,H3,I3,ry,a,H4,ex,g,q3⟩:=hpt
 subst ex
 obtain rfl:u=Value.ref a:=rx
 exact d_setItem hu I3 g ry rv fun s4 I4=>⟨σ,H4,I4,q3⟩
end
theorem dk_empty {P:Program} {w:World} {H:Hp} (h:Heap) (hb:sysModules <h.objs.size):dO P w H (h.push { cls:=.type "dict",data:=.dict #[] }) h.objs.size (.dK []):=
 ⟨Nat.zero_le _,beq_eq_false_iff_ne.mpr (Ne.symm (Nat.ne_of_lt hb)),[],.nil,Heap.DictOf.new h⟩
def tDNewK:TE:=fun _ H Q=>∀p,H p=none→Q (.ref p) (upd H p (.dK []))
section
variable {X:Cx} {pos:Pos}
theorem vz:PE X (.Dict [] [] pos) tDNewK:=fun pins s σ H Q I h=>
 wpAny_Dict_empty ⟨.ref s.heap.objs.size,_,I.laid (a:=s.heap.objs.size) (o:=.dK []) (t':=s.toks) (fun _ _ q=>Heap.get?_push_of_some _ q) (Nat.le_refl _) (dk_empty s.heap I.big),rfl,h _ (I.hok.fresh (Nat.le_refl _))⟩
end
def tPairs:List (TE×TE)→St→Hp→(List (V×V)→Hp→Prop)→Prop
 | [],_,H,Q=>Q [] H
 | (tk,tv):: r,σ,H,Q=>tk σ H fun x H1=>tv σ H1 fun y H2=>tPairs r σ H2 fun ps H3=>Q ((x,y):: ps) H3
abbrev VV:List (V×V)→List (Value×Value)→Prop:=Paired fun p q=>RelV p.1 q.1∧RelV p.2 q.2
def PPs (X:Cx) (pos:Pos) (keys:List (Option Expr)) (values:List Expr) (trs:List (TE×TE)):Prop:=
 ∀(pins:List (Addr×Obj)) (s:Shared) (σ:St) (H:Hp) (Q:List (V×V)→Hp→Prop),Inv X pins σ H s→tPairs trs σ H Q→
  wpAny (model X.prog X.w) X.A (evalPairs (pairTrees keys values X.env pos)) (fun vs s'=>∃ps H',Inv X pins σ H' s'∧VV ps vs∧Q ps H') X.xe s
theorem pps_nil {X:Cx} {pos:Pos}:PPs X pos [] [] []:=fun pins s σ H Q I h=>pairTrees_nil_walk ⟨[],H,I,.nil,h⟩
theorem pps_cons {X:Cx} {pos:Pos} {k v:Expr} {ks:List (Option Expr)} {vs:List Expr} {tk tv:TE} {trs:List (TE×TE)} (hk:PE X k tk) (hv:PE X v tv) (hr:PPs X pos ks vs trs):
  PPs X pos (some k:: ks) (v:: vs) ((tk,tv):: trs):=fun pins s σ H Q I h=>
 pairTrees_cons_walk (thn (hk pins s σ H _ I h) fun u s1 ⟨x,H1,I1,rx,q1⟩=>thn (hv pins s1 σ H1 _ I1 q1) fun w2 s2 ⟨y,H2,I2,ry,q2⟩=>
  thn (hr pins s2 σ H2 _ I2 q2) fun ws s3 ⟨ps,H3,I3,rel,q3⟩=>⟨(x,y):: ps,H3,I3,.cons ⟨rx,ry⟩ rel,q3⟩)
def uf (kvs more:List (Key×V)):List (Key×V):=more.foldl (fun acc kv=>putK acc kv.1 kv.2) kvs
theorem KV.merge:∀{more:List (Key×V)} {rs:List (Key×Value)} {kvs:List (Key×V)} {vs:List (Key×Value)},KV more rs→KV kvs vs→KV (uf kvs more) (merged vs rs):=by
 intro more rs kvs vs r
 unfold KV at r
 induction r generalizing kvs vs with
 | nil=>intro q;exact q
 | @cons p q ps qs h t ih=>
  intro r0
  have e:KV (putK kvs p.1 p.2) (stored vs q.1 q.2):=by
   have:=r0.put p.1 h.2
   rw [←h.1];exact this
  exact ih e
theorem vX:∀(more kvs:List (Key×V)),(uf kvs more).length≤kvs.length+more.length
 | [],kvs=>by show kvs.length≤kvs.length+0;omega
 | p:: r,kvs=>by
  have h1:=vX r (putK kvs p.1 p.2)
  have h2:=nY kvs p.1 p.2
  show(uf (putK kvs p.1 p.2) r).length≤_
  rw [List.length_cons];omega
theorem An {P:Program} {w:World}:∀{kvs:List (Key×V)} {ws:List (Value×Value)},VV (kvs.map fun kv=>(kV kv.1,kv.2)) ws→∃rs,Carries (dH P w) ws rs∧KV kvs rs
 | [],_,r=>by rw [List.map_nil] at r;cases r;exact⟨[],True.intro,.nil⟩
 | p:: kvs,_,r=>by
  rw [List.map_cons] at r
  cases r with
  | @cons a b as bs h t=>
   obtain⟨rs,c,q⟩:=An (P:=P) (w:=w) t
   obtain⟨b1,b2⟩:=b
   exact⟨(p.1,b2):: rs,⟨kV_is h.1,rfl,c⟩,.cons ⟨rfl,h.2⟩ q⟩
def tDisp (trs:List (TE×TE)):TE:=fun σ H Q=>∀p,H p=none→tPairs trs σ (upd H p (.dK [])) fun ps H2=>H2 p=some (.dK [])∧∃kvs:List (Key×V),ps=kvs.map (fun kv=>(kV kv.1,kv.2))∧kvs.length≤15∧Q (.ref p) (upd H2 p (.dK (uf [] kvs)))
theorem pe_disp {X:Cx} {pos:Pos} {keys:List (Option Expr)} {values:List Expr} {trs:List (TE×TE)} (h:PPs X pos keys values trs) (hall:keys.all (·.isSome)=true) (hl:keys.length=values.length) (h0:keys≠[])
  (h15:keys.length≤15):PE X (.Dict keys values pos) (tDisp trs):=by
 intro pins s σ H Q I q
 have hn:=I.hok.fresh (Nat.le_refl s.heap.objs.size)
 have I1:=I.laid (a:=s.heap.objs.size) (o:=.dK []) (h':=s.heap.push { cls:=.type "dict",data:=.dict #[] }) (t':=s.toks) (fun _ _ q=>Heap.get?_push_of_some _ q) (Nat.le_refl _) (dk_empty s.heap I.big)
 refine wpAny_Dict_walk (knd:=dH X.prog X.w) hall hl h0 h15 (thn (h pins _ σ _ _ I1 (q _ hn)) fun ws s2 hpt=>?_)
 obtain⟨ps,H2,I2,rel,e,kvs,ep,lk,q2⟩:=hpt
 subst ep
 obtain⟨rs,c,rk⟩:=An (P:=X.prog) (w:=X.w) rel
 obtain⟨z,hd,vs0,r0,dd⟩:=dk_of I2.hok e
 cases r0
 refine⟨rs,c,dd,fun h' dd' hs=>⟨.ref s.heap.objs.size,_,?_,rfl,q2⟩⟩
 have hz:(uf [] kvs).length≤sizeLine:=by
  have h1:=vX kvs []
  rw [List.length_nil] at h1
  rw [sizeLine_eq];omega
 have he:∃q,h'.get? s.heap.objs.size=some q:=let ⟨q,_,_,hq,_⟩:=dd';⟨q,hq⟩
 exact d_write I2 (by rw [e];exact True.intro) hs he (dk_new hz hd (rk.merge .nil) dd')
section
variable {X:Cx} {pins:List (Addr×Obj)} {σ:St} {H:Hp} {s:Shared} {a:Addr} {y d:V} {u r:Value} {o:Option V} {A:Around} {E:Value→Shared→Prop}
end
section
variable {X:Cx} {o e f:Expr} {apos cpos:Pos} {td ty tx:TE}
end
section
variable {X:Cx} {pins:List (Addr×Obj)} {σ:St} {H:Hp} {s:Shared} {a:Addr} {kvs:List (Key×V)} {A:Around} {E:Value→Shared→Prop}
end
section
variable {X:Cx} {pins:List (Addr×Obj)} {σ:St} {H:Hp} {s:Shared} {a:Addr} {y:V} {u:Value} {A:Around} {E:Value→Shared→Prop}
end
end L2
set_option Elab.async false
set_option linter.all false
set_option maxRecDepth 100000
set_option Elab.async false
set_option maxHeartbeats 4000000
namespace L2
open PySem PySem.Spec PyProof.Rows
section
variable {X:Cx} {pins:List (Addr×Obj)} {σ:St} {H:Hp} {s:Shared} {d:Addr} {kvs:List (Key×V)}
theorem Inv.chill (I:Inv X pins σ H s) (e:H d=some (.dK kvs)):∃o,s.heap.get? d=some o∧Inv X pins σ (upd H d (.frz o (.dK kvs))) s:=by
 obtain⟨z,hd,vs,rel,o,es,ep,ho,r⟩:=(show dO X.prog X.w H s.heap d (.dK kvs) from I.hok d _ e)
 refine⟨o,ho,?_⟩
 have:=I.write (x:=d) (e:=d) (o:=.frz o (.dK kvs)) (h':=s.heap) (t':=s.toks) (by rw [e];exact True.intro) (.inl rfl) (fun b u _ q=>q) ⟨o,ho⟩ ⟨ho,z,hd,vs,rel,o,es,ep,ho,r⟩
 exact this
theorem Inv.melt {o:Obj} (I:Inv X pins σ H s) (e:H d=some (.frz o (.dK kvs))) (h0:∀o u,X.H₀ d≠some (.frz o u)):Inv X pins σ (upd H d (.dK kvs)) s:=by
 have ne:∀b u,H b=some u→(∀o v,u≠.frz o v)→b≠d:=fun b u q n z=>by
  rw [z,e] at q
  exact n _ _ (Option.some.inj q).symm
 have no:∀b,H b=none→b≠d:=fun b q z=>by rw [z,e] at q;cases q
 refine⟨I.ok,I.os,I.bare,⟨I.base.keep,I.base.slot,fun b u q n hx=>?_,I.base.there,fun b xs q=>?_,fun b u v q=>?_,fun b ps q=>?_⟩,I.loc,I.cell,?_,fun y c q=>?_,fun p h=>?_,fun b u q=>?_,I.len⟩
 ·have z:=I.base.free b u q n hx
  rw [aK (no b z)];exact z
 ·have z:=I.base.tups b xs q
  rw [aK (ne b _ z (by intro _ _ w;cases w))];exact z
 ·have z:=I.base.frzs b u v q
  rw [aK (fun w=>by rw [w] at q;exact h0 _ _ q)];exact z
 ·obtain⟨m,z⟩:=I.base.tbls b ps q
  exact⟨m,by rw [aK (ne b _ z (by intro _ _ w;cases w))];exact z⟩
 ·rw [aK (no _ I.free)];exact I.free
 ·rw [aK (no _ (I.freeC y c q))];exact I.freeC y c q
 ·obtain⟨z1,z2,r⟩:=I.pin p h
  exact⟨z1,by rw [aK (no _ z2)];exact z2,r⟩
 ·by_cases w:b=d
  ·subst w
   rw [aq] at q
   cases q
   exact(I.hok b _ e).2
  ·rw [aK w] at q
   exact(I.hok b u q).stay (fun _ _ _ z=>z) (fun c z=>by rw [aK (ne c _ z (by intro _ _ w;cases w))];exact z) fun c xs z=>by rw [aK (ne c _ z (by intro _ _ w;cases w))];exact z
end
def Melt (H0 H H':Hp):Prop:=∃d o kvs,H d=some (.frz o (.dK kvs))∧(∀o u,H0 d≠some (.frz o u))∧H'=upd H d (.dK kvs)
section
variable {X:Cx} {H0:Hp} {st:Stmt} {sts:List Stmt} {e:Expr} {t:TS} {te:TE}
theorem xN (hH:X.H₀=H0) (h:PS X st t):PS X st (fun D σ H=>t { D with nx:=fun σ' H'=>∃H'',Melt H0 H' H''∧D.nx σ' H'' } σ H):=by
 subst hH
 intro pins s σ H D I hh
 refine thn (h pins s σ H _ I hh) fun f s1 q=>?_
 cases f with
 | next=>obtain⟨σ',H',I',H'',⟨d,o,kvs,e,n,rfl⟩,q⟩:=q;exact⟨σ',_,I'.melt e n,q⟩
 | ret v=>exact q
 | brk=>exact q
 | cont=>exact q
end
def Itd (d:Addr) (o:Obj) (kvs:List (Key×V)):It:=
 ⟨fun i H=>H d=some (.frz o (.dK kvs))∧i <kvs.length,fun i H x H'=>H'=H∧∃k v,kvs[i]?=some (k,v)∧x=kV k,fun i H=>H d=some (.frz o (.dK kvs))∧kvs.length≤i⟩
theorem kV_rel {P:Program} {w:World} {k:Key} {u:Value} (h:(dH P w).is k u=true):RelV (kV k) u:=by
 rcases fj (k:=k) (v:=u) h with ⟨i,t,rfl,rfl⟩ | ⟨x,t,rfl,rfl⟩
 ·exact⟨t,rfl⟩
 ·exact⟨t,rfl⟩
theorem kv_get:∀{kvs:List (Key×V)} {vs:List (Key×Value)} {i:Nat} {k:Key} {v:V},KV kvs vs→kvs[i]?=some (k,v)→∃v',vs[i]?=some (k,v')
 | _,_,0,k,v,.cons h _,e=>by
  cases (Option.some.inj e)
  exact⟨_,by rw [List.getElem?_cons_zero,show k=_ from h.1]⟩
 | _,_,i+1,k,v,.cons _ t,e=>by
  obtain⟨v',z⟩:=kv_get (i:=i) (k:=k) (v:=v) t (by simpa using e)
  exact⟨v',by simpa using z⟩
theorem turn_dict {P:Program} {w:World} {K:PySem.W.Frag} {tg:Expr} {d it:Addr} {o:Obj} {kvs:List (Key×V)} {vs:List (Key×Value)} {ep:Nat} (rel:KV kvs vs) (hD:∀h:Heap,h.get? d=some o→h.DictAt (dH P w) d vs ep):
  Turn P w K tg (Itd d o kvs) [it] it (fun i h=>h.IsKeyIter it d i vs.length ep) where
 mem:=by simp
 obj:=fun i h st b hb=>by
  have e:b=it:=by simpa using hb
  subst e
  obtain⟨o,e,c,d⟩:=st
  exact⟨o,e,fun v z=>by rw [d] at z;cases z⟩
 keep:=fun i h h' st k=>st.at fun o e=>k it (by simp) o e
 item:=by
  intro X hP hw hK hc i pins s σ H E I hf st hg
  subst hP hw hK
  obtain⟨hq,hi⟩:=hg
  obtain⟨f0,f1,f2,f3,f4,f5⟩:=hf it (by simp)
  have ho:s.heap.get? d=some o:=(I.hok d _ hq).1
  have hl:kvs.length=vs.length:=Paired.length rel
  obtain⟨k,v,ek⟩:∃k v,kvs[i]?=some (k,v):=⟨_,_,List.getElem?_eq_getElem hi⟩
  obtain⟨v',ev⟩:=kv_get rel ek
  refine wpAny_pyNext_dict_item st (hD _ ho) ev fun key h' hk st' sb=>?_
  have I1:Inv X pins σ H { s with heap:=h' }:=I.turned (t':=s.toks) (fun b o hb e=>(sb.2 b hb).trans e) f0 f1 f3 f4 f5
  obtain⟨o',e,c,dd⟩:=id st'
  exact⟨key,rfl,go_of (s:={ s with heap:=h' }) e c dd (by decide) ⟨kV k,H,I1,kV_rel hk,⟨rfl,k,v,ek,rfl⟩,st',fun b hb=>(hf b hb).1⟩⟩
 done:=by
  intro X hP hw hK hc i pins s σ H E I hf st hg
  subst hP hw hK
  obtain⟨hq,hi⟩:=hg
  obtain⟨f0,f1,f2,f3,f4,f5⟩:=hf it (by simp)
  have ho:s.heap.get? d=some o:=(I.hok d _ hq).1
  have hl:kvs.length=vs.length:=Paired.length rel
  exact wpAny_pyNext_dict_end (I.ok.hd hc) st (hD _ ho) (List.getElem?_eq_none (by omega)) fun h' eb=>⟨rfl,I.turned (t':=s.toks) (fun b o hb e=>eb b o hb e) f0 f1 f3 f4 f5⟩
 self:=fun _ _ _ _ _ st h=>wpAny_pyIter_keyiter st h
def iDict (td:TE):TI:=fun σ H R=>td σ H fun x H1=>∃d kvs,x=.ref d∧H1 d=some (.dK kvs)∧∀o,R (Itd d o kvs) (upd H1 d (.frz o (.dK kvs)))
theorem zz {X:Cx} {tg l:Expr} {td:TE} (hl:PE X l td):PI X tg l (iDict td):=by
 intro pins s σ H R I h
 refine thn (hl pins s σ H _ I h) fun v s1 hpt=>?_
 obtain⟨x,H1,I1,r1,q1⟩:=hpt
 obtain⟨d,kvs,e,ed,q⟩:=q1
 subst e
 cases r1
 obtain⟨_,hd,vs,rel,o0,es,ep,ho0,r⟩:=(show dO X.prog X.w H1 s1.heap d (.dK kvs) from I1.hok d _ ed)
 obtain⟨o,ho,I2⟩:=I1.chill ed
 obtain rfl:o0=o:=Option.some.inj (ho0.symm.trans ho)
 have hD:∀h:Heap,h.get? d=some o0→h.DictAt (dH X.prog X.w) d vs ep:=fun h z=>⟨o0,es,z,r⟩
 refine wpAny_pyIter_dict hd (hD _ ho) ?_
 refine⟨s1.heap.objs.size,[s1.heap.objs.size],_,_,_,rfl,I2.kept (t':=s1.toks) fun b o e=>Heap.get?_push_of_some _ e,turn_dict rel hD,⟨_,Heap.get?_push_size _ rfl,rfl,rfl⟩,fun b hb=>?_,q o0⟩
 have e:b=s1.heap.objs.size:=by simpa using hb
 subst e
 exact I2.fpOk (Nat.le_refl _) (I2.hok.fresh (Nat.le_refl _))
theorem for_dict {d:Addr} {o:Obj} {kvs:List (Key×V)} {g:TG} {tb:TS} {D:Ends} {σ:St} {H:Hp} (Pv:Nat→St→Hp→Prop) (h0:Pv 0 σ H) (hl:∀i σ H,i≤kvs.length→Pv i σ H→H d=some (.frz o (.dK kvs)))
  (hs:∀i k v σ H,kvs[i]?=some (k,v)→Pv i σ H→g (kV k) σ H fun σ2 H2=>tb { D with nx:=Pv (i+1),ct:=Pv (i+1),bk:=D.nx } σ2 H2) (hd:∀σ H,Pv kvs.length σ H→D.nx σ H):
  ∃W:Nat→Nat→St→Hp→Prop,(∃m,W 0 m σ H)∧∀i m σ H,W i m σ H→
   ((Itd d o kvs).stop i H∧D.nx σ H)∨((Itd d o kvs).go i H∧∃N:St→Hp→Prop,(∀σ' H',N σ' H'→∃m',m' <m∧W (i+1) m' σ' H')∧∀x H',(Itd d o kvs).yld i H x H'→g x σ H' fun σ2 H2=>tb { D with nx:=N,ct:=N,bk:=D.nx } σ2 H2):=by
 refine⟨fun i m σ H=>m=kvs.length - i∧i≤kvs.length∧Pv i σ H,⟨kvs.length,by simp,Nat.zero_le _,h0⟩,?_⟩
 rintro i m σ H ⟨rfl,hi,p⟩
 have q:=hl i σ H hi p
 by_cases hlt:i <kvs.length
 ·refine .inr ⟨⟨q,hlt⟩,Pv (i+1),fun σ' H' p'=>⟨kvs.length - (i+1),by omega,rfl,hlt,p'⟩,fun x H' y=>?_⟩
  obtain⟨rfl,k,v,ek,rfl⟩:=y
  exact hs i k v σ _ ek p
 ·obtain rfl:i=kvs.length:=by omega
  exact .inl ⟨⟨q,Nat.le_refl _⟩,hd σ H p⟩
theorem comp_dict {js:List Nat} {tt:TT} {te:TE} {σ:St} {Qd:List V→Hp→Prop} {d:Addr} {o:Obj} {kvs:List (Key×V)} {H:Hp} (Pv:Nat→List V→Hp→Prop) (hn:kvs.length≤sizeLine) (h0:Pv 0 [] H) (hl:∀i ys H,Pv i ys H→ys.length≤i) (hq:∀i ys H,i≤kvs.length→Pv i ys H→H d=some (.frz o (.dK kvs)))
  (hs:∀i k v ys H,kvs[i]?=some (k,v)→Pv i ys H→tt (some (kV k):: cJ σ js) H fun b H4=>if b=true then te (some (kV k):: cJ σ js) H4 fun y H5=>Pv (i+1) (ys ++ [y]) H5 else Pv (i+1) ys H4)
  (hd:∀ys H,Pv kvs.length ys H→Qd ys H):CompEnd js tt te σ Qd (Itd d o kvs) H:=by
 refine⟨fun i m ys H=>m=kvs.length - i∧i≤kvs.length∧Pv i ys H,⟨kvs.length,by simp,Nat.zero_le _,h0⟩,?_⟩
 rintro i m ys H ⟨rfl,hi,p⟩
 have hlen:=hl i ys H p
 have q:=hq i ys H hi p
 by_cases hlt:i <kvs.length
 ·refine .inr ⟨⟨q,hlt⟩,by omega,Pv (i+1),fun ys' H' p'=>⟨kvs.length - (i+1),by omega,rfl,hlt,p'⟩,fun x H' y=>?_⟩
  obtain⟨rfl,k,v,ek,rfl⟩:=y
  exact hs i k v ys _ ek p
 ·obtain rfl:i=kvs.length:=by omega
  exact .inl ⟨⟨q,Nat.le_refl _⟩,by omega,hd ys H p⟩
end L2
set_option Elab.async false
set_option linter.all false
set_option maxRecDepth 100000
set_option Elab.async false
set_option maxHeartbeats 4000000
namespace L2
open PySem PySem.Spec PyProof.Rows
theorem yF:∀{xs:List V} {us:List Value},us.length=xs.length→(∀(j:Nat) x u,xs[j]?=some x→us[j]?=some u→RelV x u)→Vals xs us
 | [],[],_,_=>.nil
 | [],_:: _,h,_=>by simp at h
 | _:: _,[],h,_=>by simp at h
 | x:: xs,u:: us,h,r=>.cons (r 0 x u rfl rfl) (yF (by simpa using h) fun j y v h1 h2=>r (j+1) y v (by simpa using h1) (by simpa using h2))
theorem pP {X:Cx} (hc:X.calm=true):qm X (.type "list") (fun xs H Q=>∃d kvs,xs=[.ref d]∧Rd H d (.dK kvs)∧∀l,H l=none→Q (.ref l) (upd H l (.lst (kvs.map fun p=>kV p.1)))):=by
 intro pins s σ H xs us Q I rx h
 obtain⟨d,kvs,rfl,hr,q⟩:=h
 obtain⟨u,rfl,ru⟩:=vals1 rx
 cases ru
 obtain⟨z,hd,vs,rel,dd⟩:=dk_rd I.hok hr
 obtain⟨ep,da⟩:=dd.dictAt
 have hl:kvs.length=vs.length:=Paired.length rel
 refine PySem.W.kdl_call (PySem.W.kdl_dict (knd:=dH X.prog X.w) (kvs:=vs) (ep:=ep) hd) (I.ok.hd hc) da (by omega) fun h' tk acc' c' kp e' hi=>?_
 refine⟨.ref s.heap.objs.size,_,I.laid (t':=tk) kp (Nat.le_refl _) (show dO X.prog X.w _ h' _ (.lst (kvs.map fun p=>kV p.1)) from⟨by rw [List.length_map];exact z,acc'.toList,c',yF (by rw [Array.length_toList,hi.1,List.length_map,hl]) fun j x u hx hu=>?_,by simpa using e'⟩),rfl,q _ (I.hok.fresh (Nat.le_refl _))⟩
 obtain⟨k,v,hkv,hk⟩:=hi.2 j u (by rw [←Array.getElem?_toList];exact hu)
 rw [List.getElem?_map] at hx
 obtain⟨p,hp,rfl⟩:=Option.map_eq_some_iff.mp hx
 obtain⟨v',hv'⟩:=kv_get rel (k:=p.1) (v:=p.2) hp
 rw [hkv] at hv'
 cases hv'
 exact kV_rel hk
section
variable {X:Cx} {pins:List (Addr×Obj)} {σ:St} {H:Hp} {s:Shared}
end
end L2
set_option Elab.async false
set_option linter.all false
set_option maxRecDepth 100000
set_option Elab.async false
set_option maxHeartbeats 4000000
namespace L2
open PySem PySem.Spec PyProof.Rows
section
variable {X:Cx} {tg:Expr}
end
theorem Room.u1 {k:Nat} {A:Around} (r:Room k A):A.units+1 <cLine:=by have:=r.units;omega
end L2
set_option Elab.async false
set_option linter.all false
set_option maxRecDepth 100000
set_option Elab.async false
set_option maxHeartbeats 4000000
namespace L2
open PySem PySem.Spec PyProof.Rows
section
variable {prog:Program} {w:World} {A:Around} {E:Value→Shared→Prop} {s:Shared}
end
theorem pass20 {P:Program} {w:World} {X:Cx}:oV (CX2 P w) X E0:=by
 intro pins σ H s e s' _ c
 obtain⟨_,_,_,_,_,_,_,_,_,_,_,_,_,_,z⟩:=c
 exact z.elim
end L2
set_option Elab.async false
set_option linter.all false
set_option maxRecDepth 100000
set_option Elab.async false
set_option maxHeartbeats 4000000
namespace L2
open PySem PySem.Spec PyProof.Rows
theorem pe_fldK {X:Cx} {K:PySem.W.Frag} {e:Expr} {f:Str} {pos:Pos} {ta:TE} (hK:X.K=K) (he:PE X e ta) (hb:attributeBase e f X.env (eval e X.env)=eval e X.env):PE X (.Attribute e f pos) (tFld K ta f):=by subst hK;exact du he hb
section
variable {X:Cx} {P:Program} {w:World} {K:PySem.W.Frag} {mg:Str→Option Value} {base:Heap} {CX:CXT} {k:Nat} {E:XK} {m:Str} {pos apos:Pos} {e o:Expr} {es:List Expr} {ta:TE} {t:TA}
end
end L2
set_option Elab.async false
set_option linter.all false
set_option maxRecDepth 100000
set_option Elab.async false
set_option maxHeartbeats 4000000
namespace L2
open PySem PySem.Spec PyProof.Rows
section
variable {prog:Program} {w:World} {A:Around} {R:Result→Shared→Prop} {s:Shared}
theorem loopG {elt tg iter:Expr} {ifs:List Expr} {scope:Scope} {pos:Pos} {it acc:Value} {env:Env} (J:Nat→Shared→Prop)
  (turn:∀k s1,J k s1→wpAny (model prog w) A (pyNext it) (fun r s2=>match r with
   | none=>R (.ok .next) s2
   | some v=>wpAny (model prog w) A (letOwnedTupleGo tg it v) (fun _ s3=>wpAny (model prog w) A (assign tg env v) (fun _ s4=>
     wpAny (model prog w) A (forIn ifs true fun c r=>if r=true then do let ok ←isTrue c env (eval c env);pure (ForInStep.yield ok) else pure (ForInStep.yield r)) (fun ok s5=>
      if ok=true then wpAny (model prog w) A (eval elt env) (fun y s6=>wpAny (model prog w) A (call (.builtin "list.append") [acc,y]) (fun _ s7=>∃m,m <k∧J m s7) (notedBy (model prog w) A env fun e s'=>R (.error e) s') s6)
       (notedBy (model prog w) A env fun e s'=>R (.error e) s') s5
      else ∃m,m <k∧J m s5) (notedBy (model prog w) A env fun e s'=>R (.error e) s') s4) (notedBy (model prog w) A env fun e s'=>R (.error e) s') s3) (notedBy (model prog w) A env fun e s'=>R (.error e) s') s2)
   (notedBy (model prog w) A env fun e s'=>R (.error e) s') s1)
  (k:Nat) (h:J k s):codeAny (model prog w) A (.compLoop (.ListComp elt [⟨tg,iter,ifs,0⟩] scope pos) 0 it acc env) R s:=by
 refine codeAny_loop rfl J (fun k s1 hJ=>?_) k h
 show wpAny _ A ((compTurn (.ListComp elt [⟨tg,iter,ifs,0⟩] scope pos) 0 it acc env).onRaise (fun e=>do noteFrame e env;theTreesLotGoes e)) _ _ s1
 refine wpAny_noted ?_
 rw [compTurn_list]
 refine wpAny_bind (wpAny_standAt (wpAny_bind (wpAny_mono (turn k s1 hJ) (fun r s2 h2=>?_) fun _ _ z=>z)))
 cases r with
 | none=>exact wpAny_pure h2
 | some v=>
  refine wpAny_bind (wpAny_mono h2 (fun _ s3 h3=>wpAny_bind (wpAny_mono h3 (fun _ s4 h4=>wpAny_bind (wpAny_mono h4 (fun ok s5 h5=>?_) fun _ _ z=>z)) fun _ _ z=>z)) fun _ _ z=>z)
  cases ok with
  | false=>exact wpAny_pure ⟨rfl,h5⟩
  | true=>exact wpAny_bind (wpAny_bind (wpAny_mono h5 (fun y s6 h6=>wpAny_bind (wpAny_mono h6 (fun _ s7 h7=>wpAny_pure (wpAny_pure ⟨rfl,h7⟩)) fun _ _ z=>z)) fun _ _ z=>z))
end
section
variable {X:Cx} {tg:Expr} {g:TG} {pos:Pos} {iter elt:Expr} {ifs:List Expr} {scope:Scope} {wi:TI} {tt:TT} {te:TE}
end
theorem zj {X:Cx} {K:PySem.W.Frag} {es:List Expr} {k:Nat} {pos:Pos} {t:TGs} {n:Nat} (hK:X.K=K) (hc:X.calm=true) (h:PGs X es t)
  (hn:(assignEach es X.env).length=n:=by rfl) (hst:(assignEach es X.env).findIdx? (·.1)=none:=by rfl):PG X (.Tuple es k pos) (gTup K n t):=by
 subst hK
 exact uC hc h hn hst
end L2
set_option Elab.async false
set_option linter.all false
set_option maxRecDepth 100000
set_option Elab.async false
set_option maxHeartbeats 4000000
namespace L2
open PySem PySem.Spec PyProof.Rows
def rH (X:Cx) (scope:Scope) (xs:List Str) (js:List Nat) (cl:List (Str×Addr)) (C:Addr) (s:Shared) (H:Hp) (ex:List Addr):Cx where
 prog:=X.prog
 w:=X.w
 K:=X.K
 mg:=X.mg
 base:=X.base
 A:=X.A
 N:=xs ++ cW X.N js
 s₀:=s
 H₀:=H
 env:=compEnvC scope cl C X.env
 outer:=X.stack
 stack:=X.stack
 ex:=ex
 fn:=fun _=>false
 calm:=X.calm
 pn:=[]
 xe:=fun _ _=>False
def yc (xs:List Str) (js:List Nat) (σ:St) (g:TG) (tt:TT) (te:TE) (Qd:List V→Hp→Prop) (J:It) (H1:Hp):Prop:=∃W:Nat→Nat→List V→Hp→Prop,(∃m,W 0 m [] H1)∧∀i m ys H2,W i m ys H2→
 (J.stop i H2∧ys.length≤sizeLine∧Qd ys H2)∨
 (J.go i H2∧ys.length <sizeLine∧∃N:List V→Hp→Prop,(∀ys' H',N ys' H'→∃m',m' <m∧W (i+1) m' ys' H')∧∀x H3,J.yld i H2 x H3→g x ((xs.map fun _=>none) ++ cJ σ js) H3 fun σ2 H4=>σ2.drop xs.length=cJ σ js∧tt σ2 H4 fun b H5=>
  if b=true then te σ2 H5 fun y H6=>N (ys ++ [y]) H6 else N ys H5)
def tCompH (xs:List Str) (js:List Nat) (wi:TI) (g:TG) (tt:TT) (te:TE):TE:=fun σ H Q=>wi σ H (yc xs js σ g tt te fun ys H2=>∀D,H2 D=none→Q (.ref D) (upd H2 D (.lst ys)))
section
variable {X:Cx} {tg:Expr} {g:TG} {pos:Pos} {iter elt:Expr} {ifs:List Expr} {scope:Scope} {wi:TI} {tt:TT} {te:TE}
theorem comp_blockH (xs:List Str) (js:List Nat) {pins:List (Addr×Obj)} {σ:St} {s:Shared} {itv:Value} {Q:List V→Hp→Prop} {RR:Value→Addr→Result→Shared→Prop} {E:Value→Shared→Prop}
  (hc:X.calm=true) (hk:scope.kind=.function) (hcell:∀y∈scope.names,y.2≠.cell)
  (hfree:∀y∈scope.names,y.2=.free→X.env.kindOf y.1=some .cell∨X.env.kindOf y.1=some .free)
  (hg:∀cl C s H ex,PG (rH X scope xs js cl C s H ex) tg g)
  (hif:∀cl C s H ex,PF (rH X scope xs js cl C s H ex) ifs tt) (he:∀cl C s H ex,PE (rH X scope xs js cl C s H ex) elt te)
  (hjs:∀y∈cW X.N js,scope.names.lookup y=some .free) (hit:PIE X pins σ tg (yc xs js σ g tt te Q) itv s)
  (hR:∀D C s' H2 ys m,Inv X pins σ (upd H2 D (.lst ys)) s'→H2 D=none→s'.heap.Ns C m→(∀h',Heap.SameBut C s'.heap h'→Inv X pins σ (upd H2 D (.lst ys)) { s' with heap:=h' })→FpOk X pins (upd H2 D (.lst ys)) C→C≠D→Q ys H2→RR (.ref D) C (.ok .next) s'):
  wpAny (model X.prog X.w) X.A (newList []) (fun acc s₃=>wpAny (model X.prog X.w) X.A (newFunctionEnv scope X.env.globals (clos X.env scope.names []) [] X.env.qual none .none (some X.env)) (fun cenv s₄=>
   codeAny (model X.prog X.w) X.A (.compStart (.ListComp elt [⟨tg,iter,ifs,0⟩] scope pos) 0 itv acc { cenv with scope:=relabel scope X.env }) (RR acc cenv.locals) s₄) E s₃) E s:=by
 obtain⟨it,fp,tn,J,H1,rfl,I1,T,st1,f1,W,⟨m0,w0⟩,turn⟩:=hit
 refine wpAny_newObj_type (wpAny_newFunctionEnv hcell (by intro y hy;simp at hy) (fun h₁ hns₁ hsb₁=>?_) hk)
 dsimp only at hns₁ hsb₁ ⊢
 generalize hH2:s.heap.push { cls:=.type "list",dict:=none,data:=.seq ([]:List Value).toArray }=Hl at hns₁ hsb₁ ⊢
 generalize hDe:s.heap.objs.size=D
 have hCe:Hl.objs.size=D+1:=by rw [←hH2,Heap.size_push,hDe]
 generalize hC:Hl.objs.size=C at hns₁ hsb₁ hCe ⊢
 subst hCe
 have hDC:D≠D+1:=Nat.ne_of_lt (Nat.lt_succ_self _)
 have lt:∀b o,s.heap.get? b=some o→b <D:=fun b o e=>hDe ▸ Heap.lt_size e
 have old:∀b o,s.heap.get? b=some o→h₁.get? b=some o:=fun b o e=>by
  have hb:=lt b o e
  refine hsb₁.extBut b o (Nat.ne_of_lt (Nat.lt_succ_of_lt hb)) (Heap.get?_push_of_some _ ?_)
  rw [←hH2];exact Heap.get?_push_of_some _ e
 have accD:h₁.get? D=some { cls:=.type "list",dict:=none,data:=.seq ([]:List Value).toArray }:=by
  refine hsb₁.extBut _ _ hDC (Heap.get?_push_of_some _ ?_)
  rw [←hH2,←hDe];exact Heap.get?_push_size _ rfl
 have fresh:∀a,D≤a→H1 a=none:=fun a ha=>I1.hok.fresh (by rw [hDe];exact ha)
 have fpD:∀b∈fp,b <D:=fun b hb=>by
  obtain⟨o,e,_⟩:=T.obj 0 s.heap st1 b hb
  exact lt b o e
 have cellD:∀y c,X.env.cells.lookup y=some c→c <D:=fun y c e=>by
  obtain⟨v,q⟩:=I1.cell y c e
  exact hDe ▸ q.lt
 generalize hcl:clos X.env scope.names []=cl
 have clsub:∀y c,cl.lookup y=some c→X.env.cells.lookup y=some c:=by
  rw [←hcl];exact z8 scope.names [] fun y a e=>by simp at e
 have frD:∀b∈frs X.stack,b <D:=fun b hb=>by
  obtain⟨_,o,ho,_⟩:=I1.stack.mem hb
  exact lt b o ho
 let Y:Cx:=rH X scope xs js cl (D+1) s H1 fp
 have kinds:∀y,Y.env.kindOf y=some .cell∨Y.env.kindOf y=some .free→∃k∈scope.names,k.1=y∧k.2=.free:=fun y hy=>by
  have hy':(relabel scope X.env).names.lookup y=some .cell∨(relabel scope X.env).names.lookup y=some .free:=hy
  rw [mH] at hy'
  cases q:scope.names.lookup y with
  | none=>rw [q] at hy';simp at hy'
  | some k=>
   have hm:=PySem.mem_of_lookup q
   refine⟨(y,k),hm,rfl,?_⟩
   have h1:k≠.cell:=hcell _ hm
   rw [q] at hy'
   simp only [Option.map_some,Option.some.injEq] at hy'
   by_cases hkf:k=.free
   ·exact hkf
   ·have:(k == NameKind.free)=false:=by simpa using hkf
    simp only [this,Bool.false_and,Bool.false_eq_true,if_false] at hy'
    rcases hy' with e | e
    ·exact absurd e h1
    ·exact absurd e hkf
 have okY:Y.Ok:=by
  refine⟨I1.ok.mod,hk,I1.ok.glob,I1.ok.blt,(by show s.heap.objs.size≤D+1;rw [hDe];exact Nat.le_succ _),fun y z c h1 h2=>I1.ok.inj y z c (clsub y c h1) (clsub z c h2),fun y hy=>?_,fun y c h _=>absurd h (by show ¬(false=true);decide),I1.ok.hd,I1.ok.frames,.inl rfl,fun b hb=>⟨Nat.ne_of_lt (Nat.lt_succ_of_lt (fpD b hb)),fun y c e z=>(f1 b hb).2.2.2.2.1 y c (clsub y c e) z⟩,
   fun b o e=>I1.bs b o e,Nat.le_trans I1.ok.bsz I1.sz,fun b o e hb=>?_,fun b hb hf=>?_,I1.stack,I1.stkFree⟩
  ·obtain⟨k,hm,e1,e2⟩:=kinds y hy
   show ∃c,cl.lookup y=some c
   rw [←hcl]
   refine uo scope.names [] y (.inr ⟨k,hm,e1,e2,?_⟩)
   have:=hfree k hm e2
   rw [e1] at this
   exact I1.ok.has y this
  ·obtain⟨_,_,_,h4,_,_⟩:=f1 b hb
   rcases h4 with z | z
   ·exact I1.ok.noex b o e z
   ·exact absurd (Nat.lt_of_lt_of_le (Heap.lt_size e) (Nat.le_trans I1.ok.bsz z)) (Nat.lt_irrefl _)
  ·rcases List.mem_cons.mp (I1.stkSub b hf) with z | z
   ·exact(f1 b hb).2.1 z
   ·exact(f1 b hb).2.2.1 z
 let σ0:St:=(xs.map fun _=>none) ++ cJ σ js
 have IY:Inv Y [] σ0 H1 { s with heap:=h₁,toks:=s.toks+([]:List (Str×Value)).length }:=by
  refine⟨okY,rfl,I1.bare,Un.kept old,⟨_,hns₁,fun i y v e1 e2 e3=>?_⟩,fun y c e=>?_,fresh _ (Nat.le_succ _),fun y c e=>I1.freeC y c (clsub y c e),fun p hp=>absurd (show p∈([]:List (Addr×Obj)) from hp) (by simp),I1.hok.kept old,?_⟩
  ·by_cases hi:i <xs.length
   ·exfalso
    have e2':((xs.map fun _=>(none:Option V)) ++ cJ σ js)[i]?=some (some v):=e2
    rw [List.getElem?_append_left (by rw [List.length_map];exact hi),List.getElem?_map,List.getElem?_eq_getElem hi] at e2'
    cases e2'
   ·have e1':(xs ++ cW X.N js)[i]?=some y:=e1
    have e2':((xs.map fun _=>(none:Option V)) ++ cJ σ js)[i]?=some (some v):=e2
    rw [List.getElem?_append_right (by omega)] at e1'
    rw [List.getElem?_append_right (by rw [List.length_map];omega),List.length_map] at e2'
    generalize i - xs.length=i at e1' e2'
    unfold cW at e1'
    unfold cJ at e2'
    rw [List.getElem?_map] at e1' e2'
    cases q:js[i]? with
    | none=>rw [q] at e1';cases e1'
    | some j=>
     rw [q] at e1' e2'
     simp only [Option.map_some,Option.some.injEq] at e1' e2'
     have hv:σ[j]?=some (some v):=by
      cases z:σ[j]? with
      | none=>rw [z] at e2';cases e2'
      | some w=>rw [z] at e2';simpa using e2'
     have hj:j <X.N.length:=by
      rw [←I1.len];exact(List.getElem?_eq_some_iff.mp hv).1
     have hy:X.N[j]?=some y:=by
      rw [List.getElem?_eq_getElem hj] at e1' ⊢
      rw [←e1'];rfl
     obtain⟨m,hn,hl⟩:=I1.loc
     have hmem:y∈cW X.N js:=List.mem_map.mpr ⟨j,List.mem_of_getElem? q,by rw [hy];rfl⟩
     have hfr:=hjs y hmem
     have hkx:=hfree _ (PySem.mem_of_lookup hfr) rfl
     have hvis:Vis X.env.scope y:=hkx.elim (fun z=>.inr (.inl z)) fun z=>.inr (.inr z)
     obtain⟨u,r,l⟩:=hl j y v hy hv hvis
     refine⟨u,r,?_⟩
     rcases l with ⟨kl,_⟩ | ⟨_,c,hc1,z⟩
     ·exfalso
      have kl':X.env.kindOf y=some .local:=kl
      rcases hkx with w | w <;> · rw [show X.env.kindOf y=_ from w] at kl';cases kl'
     ·obtain⟨c',hc'⟩:=uo (env:=X.env) scope.names [] y (.inr ⟨_,PySem.mem_of_lookup hfr,rfl,rfl,c,hc1⟩)
      rw [hcl] at hc'
      have e4:=clsub y c' hc'
      rw [hc1] at e4
      cases e4
      obtain⟨o,ho,hd⟩:=z
      refine .inr ⟨?_,c,hc',o,old c o ho,hd⟩
      rcases e3 with e3 | e3 | e3
      ·exfalso
       have e3':(relabel scope X.env).names.lookup y=some .local:=e3
       rw [mH,hfr] at e3'
       simp only [Option.map_some,Option.some.injEq] at e3'
       split at e3' <;> cases e3'
      ·exact .inl e3
      ·exact .inr e3
  ·obtain⟨v,q⟩:=I1.cell y c (clsub y c e)
   obtain⟨o,ho,hd⟩:=q
   exact⟨v,o,old c o ho,hd⟩
  ·show((xs.map fun _=>(none:Option V)) ++ cJ σ js).length=(xs ++ cW X.N js).length
   unfold cJ cW
   rw [List.length_append,List.length_append,List.length_map,List.length_map,List.length_map]
 have mkR:∀(s':Shared) (H2:Hp) (ys:List V) (its:List Value) (σ':St),Inv Y [] σ' H2 s'→s'.heap.PlainList D its.toArray→Vals ys its→ys.length≤sizeLine→H2 D=none→Q ys H2→RR (.ref D) (D+1) (.ok .next) s':=by
  intro s' H2 ys its σ' I' pl rv hz hD hq
  obtain⟨m,hn,_⟩:=I'.loc
  have hn':s'.heap.Ns (D+1) m:=hn
  have hCn:H2 (D+1)=none:=I'.free
  have hch:∀b∈fp,(b∈X.ex∨X.s₀.heap.objs.size≤b)∧b≠X.env.locals∧(∀x c,X.env.cells.lookup x=some c→c≠b)∧∀p∈X.pn ++ pins,p.1≠b:=fun b hb=>by
   obtain⟨_,h2,_,h4,h5,h6⟩:=f1 b hb
   exact⟨h4,h2,h5,h6⟩
  have bs:Un (frs X.stack) fp H1 H2 s.heap s'.heap:=I'.base
  have all:∀h',Heap.SameBut (D+1) s'.heap h'→Inv X pins σ (upd H2 D (.lst ys)) { s' with heap:=h' }:=fun h' sb=>by
   have neD:∀b o,s.heap.get? b=some o→b≠D:=fun b o e=>Nat.ne_of_lt (lt b o e)
   have neC:∀b o,s.heap.get? b=some o→b≠D+1:=fun b o e=>Nat.ne_of_lt (Nat.lt_succ_of_lt (lt b o e))
   refine I1.call' (s':={ s' with heap:=h' }) (ch:=fp) I'.os ⟨fun b o e n hb hx=>?_,fun b o e n hb hx=>?_,fun b o e n hx=>?_,fun b o e hx=>?_,fun b xs e=>?_,fun b o u e=>?_,fun b ps e=>?_⟩ ?_ I'.bare hch
   ·exact(sb.2 b (neC b o e)).trans (bs.keep b o e n hb hx)
   ·obtain⟨sl,q⟩:=bs.slot b o e n hb hx
    exact⟨sl,(sb.2 b (neC b o e)).trans q⟩
   ·rw [aK (neD b o e)];exact bs.free b o e n hx
   ·obtain⟨o',q⟩:=bs.there b o e hx
    exact⟨o',(sb.2 b (neC b o e)).trans q⟩
   ·have:=bs.tups b xs e
    rw [aK (aD this hD)];exact this
   ·have:=bs.frzs b o u e
    rw [aK (aD this hD)];exact this
   ·obtain⟨more,q⟩:=bs.tbls b ps e
    exact⟨more,by rw [aK (aD q hD)];exact q⟩
   ·have h0:HOk X.prog X.w H2 h':=fun b u e=>(I'.hok b u e).stay (fun c v hc q=>(sb.2 c (by
     rintro rfl
     rcases hc with z | z
     ·rw [z,e] at hCn;cases hCn
     ·rw [z] at hCn;cases hCn)).trans q) (fun _ q=>q) fun _ _ q=>q
    refine ym h0 hD ?_
    obtain⟨n,e⟩:=pl
    exact⟨hz,its,n,rv,(sb.2 D hDC).trans e⟩
  have hall:=all s'.heap (.refl ..)
  refine hR D (D+1) s' H2 ys m hall hD hn' all ?_ hDC.symm hq
  refine⟨by rw [aK hDC.symm];exact hCn,?_,?_,.inr (Nat.le_trans I1.sz (by rw [hDe];exact Nat.le_succ _)),fun y c e z=>?_,fun p hp z=>?_⟩
  ·exact Nat.ne_of_gt (Nat.lt_trans (hDe ▸ I1.lt) (Nat.lt_succ_self _))
  ·exact I1.nofs (by rw [hDe];exact Nat.le_succ _)
  ·exact absurd z (Nat.ne_of_lt (Nat.lt_succ_of_lt (cellD y c e)))
  ·exact absurd z (Nat.ne_of_lt (Nat.lt_succ_of_lt (lt _ _ (I1.pin p hp).1)))
 have loop:∀s₃:Shared,s₃={ s with heap:=h₁,toks:=s.toks+([]:List (Str×Value)).length }→
   codeAny (model X.prog X.w) X.A (.compLoop (.ListComp elt [⟨tg,iter,ifs,0⟩] scope pos) 0 (.ref it) (.ref D) Y.env) (RR (.ref D) (D+1)) s₃:=by
  rintro s₃ rfl
  have stat:∀{H':Hp} {ob:Obj},(∀b∈fp,H' b=none)→∀b∈fp,FpOk Y [(D,ob)] H' b:=fun {H'} {ob} hn b hb=>by
   refine⟨hn b hb,Nat.ne_of_lt (Nat.lt_succ_of_lt (fpD b hb)),fun hf=>okY.exfs b hb hf,.inl hb,fun y c e=>(okY.exf b hb).2 y c e,fun p hp z=>?_⟩
   have hp':p∈[(D,ob)]:=hp
   have e:p=(D,ob):=by simpa using hp'
   rw [e] at z
   exact absurd z (Ne.symm (Nat.ne_of_lt (fpD b hb)))
  refine loopG (fun n s'=>∃i ys its H',∃ob:Obj,Inv Y [(D,ob)] σ0 H' s'∧(∃n,ob={ cls:=.type "list",data:=.seq its.toArray n })∧Vals ys its∧H' D=none∧tn i s'.heap∧(∀b∈fp,H' b=none)∧W i n ys H') ?_ m0
   ⟨0,[],[],H1,{ cls:=.type "list",dict:=none,data:=.seq ([]:List Value).toArray },?_,⟨_,rfl⟩,.nil,fresh _ (Nat.le_refl _),T.keep _ _ _ st1 fun b _ o e=>old b o e,fun b hb=>(f1 b hb).1,w0⟩
  ·rintro n s3 ⟨i,ys,its,H3,ob,I3,⟨cap,rfl⟩,rv,hD,st3,fr3,w3⟩
   rcases turn i n ys H3 w3 with ⟨stop,hz,hq⟩ | ⟨go,hz,N,hN7,step⟩
   ·refine wpAny_mono (T.done Y rfl rfl rfl hc i _ s3 σ0 H3 (fun _ _=>False) I3 (stat fr3) st3 stop) (fun r s4 ⟨hr,I4⟩=>?_) fun _ _ f=>f.elim
    subst hr
    exact mkR s4 H3 ys its σ0 (I4.pins_of fun p hp=>absurd hp (by simp)) ⟨cap,(I4.pin _ (List.mem_append_right _ List.mem_cons_self)).1⟩ rv hz hD hq
   ·refine wpAny_mono (T.item Y rfl rfl rfl hc i _ s3 σ0 H3 (fun _ _=>False) I3 (stat fr3) st3 go) (fun r s4 ⟨u,hr,h4⟩=>?_) fun _ _ f=>f.elim
    subst hr
    refine wpAny_mono h4 (fun _ s4 ⟨xv,H5,I5,r5,y5,st5,fr5⟩=>?_) fun _ _ f=>f.elim
    have I5':=I5.pinned (stat fr5) (T.obj _ _ st5)
    refine wpAny_mono (hg cl (D+1) s H1 fp _ _ σ0 H5 xv u _ I5' r5 (step xv H5 y5)) (fun _ s6 ⟨σ6,H6,I6,hσ6,q6⟩=>?_) fun _ _ f=>False.elim f
    have again:∀{s7:Shared} {H7:Hp} {ys7:List V} {its7:List Value} {cap7:Nat} {pl:List (Addr×Obj)},Inv Y ([(D,{ cls:=.type "list",data:=.seq its7.toArray cap7 })] ++ pl) σ6 H7 s7→(∀b∈fp,∀o,s4.heap.get? b=some o→s7.heap.get? b=some o∧H7 b=none)→Vals ys7 its7→(∃m',m' <n∧W (i+1) m' ys7 H7)→
      ∃m,m <n∧∃i ys its H',∃ob:Obj,Inv Y [(D,ob)] σ0 H' s7∧(∃n,ob={ cls:=.type "list",data:=.seq its.toArray n })∧Vals ys its∧H' D=none∧tn i s7.heap∧(∀b∈fp,H' b=none)∧W i m ys H':=by
     intro s7 H7 ys7 its7 cap7 pl I7 kf rv7 ⟨m',hm,w7⟩
     refine⟨m',hm,i+1,ys7,its7,H7,_,I7.unpinned.weak (by rw [I7.len];show((xs.map fun _=>(none:Option V)) ++ cJ σ js).length=(xs ++ cW X.N js).length;unfold cJ cW;rw [List.length_append,List.length_append,List.length_map,List.length_map,List.length_map]) fun j v e=>?_,⟨cap7,rfl⟩,rv7,(I7.pin _ (List.mem_append_right _ (List.mem_append_left _ List.mem_cons_self))).2.1,T.keep _ _ _ st5 fun b hb o e=>(kf b hb o e).1,fun b hb=>?_,w7⟩
     ·have e':((xs.map fun _=>(none:Option V)) ++ cJ σ js)[j]?=some (some v):=e
      by_cases hj:j <xs.length
      ·exfalso
       rw [List.getElem?_append_left (by rw [List.length_map];exact hj),List.getElem?_map,List.getElem?_eq_getElem hj] at e'
       cases e'
      ·rw [List.getElem?_append_right (by rw [List.length_map];omega),List.length_map,←hσ6,List.getElem?_drop] at e'
       rw [show xs.length+(j - xs.length)=j by omega] at e'
       exact e'
     ·obtain⟨o,e,_⟩:=T.obj _ _ st5 b hb
      exact(kf b hb o e).2
    refine wpAny_mono (hif cl (D+1) s H1 fp _ s6 _ H6 _ I6 q6) (fun ok s7 ⟨H7,I7,q7⟩=>?_) fun _ _ f=>False.elim f
    have kf7:∀b∈fp,∀o,s4.heap.get? b=some o→s7.heap.get? b=some o∧H7 b=none:=fun b hb o e=>
     have z:=I7.pin (b,o) (List.mem_append_right _ (List.mem_append_right _ (mQ hb e)))
     ⟨z.1,z.2.1⟩
    cases ok with
    | false=>
     rw [if_neg Bool.false_ne_true] at q7 ⊢
     exact again I7 kf7 rv (hN7 _ _ q7)
    | true=>
     rw [if_pos rfl] at q7 ⊢
     refine wpAny_mono (he cl (D+1) s H1 fp _ s7 _ H7 _ I7 q7) (fun yv s8 ⟨y,H8,I8,r8,q8⟩=>?_) fun _ _ f=>False.elim f
     have pD:=I8.pin _ (List.mem_append_right _ (List.mem_append_left _ List.mem_cons_self))
     have hlen:=rv.length
     refine wpAny_list_append_plain (items:=its.toArray) ⟨cap,pD.1⟩ (fun h9 pl9 sb9=>?_) (by rw [List.size_toArray];omega)
     obtain⟨cap9,e9⟩:=pl9
     have I9:Inv Y [] σ6 H8 { s8 with heap:=h9 }:=(I8.pins_of (pins':=[]) fun p hp=>absurd hp (by simp)).turned (t':=s8.toks) (it:=D) (fun b o hb e=>(sb9.2 b hb).trans e) pD.2.1 hDC
      (.inr (Nat.le_of_eq hDe)) (fun y c e z=>absurd z (Nat.ne_of_lt (cellD y c (clsub y c e)))) fun p hp=>absurd (show p∈([]:List (Addr×Obj)) from hp) (by simp)
     have kf9:∀b∈fp,∀o,s4.heap.get? b=some o→h9.get? b=some o∧H8 b=none:=fun b hb o e=>by
      have z:=I8.pin (b,o) (List.mem_append_right _ (List.mem_append_right _ (mQ hb e)))
      exact⟨(sb9.2 b (Nat.ne_of_lt (fpD b hb))).trans z.1,z.2.1⟩
     refine again (s7:={ s8 with heap:=h9 }) (its7:=its ++ [yv]) (cap7:=cap9) (pl:=[]) (I9.pins_of fun p hp=>?_) kf9 (rv.append (.cons r8 .nil)) (hN7 _ _ q8)
     have hp':p=(D,{ cls:=.type "list",data:=.seq (its ++ [yv]).toArray cap9 }):=by simpa using hp
     subst hp'
     refine⟨?_,pD.2.1,pD.2.2.1,pD.2.2.2.1,fun v z=>by cases z⟩
     rw [e9]
     simp
  ·refine IY.pins_of fun p hp=>?_
   have hp':p=(D,{ cls:=.type "list",dict:=none,data:=.seq ([]:List Value).toArray }):=by simpa using hp
   subst hp'
   exact⟨accD,fresh _ (Nat.le_refl _),hDC,fun hf=>Nat.lt_irrefl _ (frD _ hf),fun v z=>by cases z⟩
 exact codeAny_compStart_list (loop _ rfl) (wpAny_mono (T.self X.A 0 _ (fun v s'=>v=.ref it∧s'={ s with heap:=h₁,toks:=s.toks+([]:List (Str×Value)).length }) (fun _ _=>False) (T.keep _ _ _ st1 fun b _ o e=>old b o e) ⟨rfl,rfl⟩) (fun v s' ⟨e1,e2⟩=>by subst e1 e2;exact loop _ rfl) fun _ _ f=>f.elim)
theorem xG {i:Nat} {y:Str} {py spos:Pos} (xs:List Str) (js:List Nat) (N0:List Str) (sc0:Scope) (hc:X.calm=true) (hNX:X.N.Nodup) (hiy:X.N[i]?=some y) (hi:PI X tg iter wi) (hg:∀cl C s H ex,PG (rH X scope xs js cl C s H ex) tg g)
  (hif:∀cl C s H ex,PF (rH X scope xs js cl C s H ex) ifs tt) (he:∀cl C s H ex,PE (rH X scope xs js cl C s H ex) elt te)
  (hsw:swapsWith (.ListComp elt [⟨tg,iter,ifs,0⟩] scope pos) (some (.Name y py)) spos.line X.env=pure true:=by rfl) (hy:X.env.scope.names.lookup y=some .local:=by rfl)
  (hk:scope.kind=.function:=by rfl) (hcell:∀y∈scope.names,y.2≠.cell:=by decide +kernel)
  (hnames:∀y∈scope.names,y.2=.local→scope.names.lookup y.1=some .local:=by decide +kernel)
  (hsc:X.env.scope=sc0:=by rfl) (hfree0:∀y∈scope.names,y.2=.free→sc0.names.lookup y.1=some .cell∨sc0.names.lookup y.1=some .free:=by decide +kernel)
  (hNN:X.N=N0:=by rfl) (hj0:∀y∈cW N0 js,scope.names.lookup y=some .free:=by decide +kernel)
  (hs:∀x,foldedSetIterable iter X.env x=pure x:=by intro _;rfl):
  PS X (.Assign [.Name y py] (.ListComp elt [⟨tg,iter,ifs,0⟩] scope pos) spos) (tAsg (tCompH xs js wi g tt te) (gName i)):=by
 intro pins s σ H D I h
 have hfree:∀y∈scope.names,y.2=.free→X.env.kindOf y.1=some .cell∨X.env.kindOf y.1=some .free:=fun y hy e=>by
  show X.env.scope.names.lookup y.1=some .cell∨X.env.scope.names.lookup y.1=some .free
  rw [hsc];exact hfree0 y hy e
 have hjs:∀y∈cW X.N js,scope.names.lookup y=some .free:=by rw [hNN];exact hj0
 rw [exec_Assign_Name_used _ _ _ _ hsw]
 refine wpAny_bind (wpAny_standAt (wpAny_bind ?_))
 show wpAny _ X.A (do let _ ←comprehension (.ListComp elt [⟨tg,iter,ifs,0⟩] scope pos) scope X.env _ (newList []) false (eval iter X.env) (some (assign (.Name y py) X.env))) _ _ s
 have hcl:closureFor scope X.env=pure (clos X.env scope.names []):=qN fun y hy e=>I.ok.has y.1 (hfree y hy e)
 refine wpAny_bind (wpAny_mono (wpAny_comprehension_free (use:=some (assign (.Name y py) X.env)) (Q:=fun _ s'=>SP X pins D .next s') rfl hs hcl hk hnames
  (thn (hi pins s σ H _ I h) fun xv s1 h1=>thn h1 fun it s2 h2=>?_)) (fun _ s' hq=>wpAny_pure (wpAny_pure hq)) fun _ _ e=>e)
 refine comp_blockH xs js (RR:=fun acc C=>compPost (model X.prog X.w) X.A X.xe (some (assign (.Name y py) X.env)) (fun _ s'=>SP X pins D .next s') acc C) (Q:=fun ys H2=>∀D',H2 D'=none→D.nx (σ.set i (some (.ref D'))) (upd H2 D' (.lst ys))) hc hk hcell hfree hg hif he hjs h2 ?_
 intro D' C s' H2 ys m I' hD hn all fpC hCD hq
 show wpAny _ X.A (assign (.Name y py) X.env (.ref D')) _ _ _
 refine wpAny_assign_Name (yu I' hNX hiy (.inl hy) (v:=.ref D') rfl (fun s'' I'' ⟨a,sb,ha⟩=>?_) (.inr hy))
 obtain⟨f1,f2,f3,f4,f5,f6⟩:=fpC
 have hCa:C≠a:=by
  rcases ha with z | z
  ·rw [z];exact f2
  ·exact fun w=>f5 _ _ z w.symm
 exact⟨m,hn.sameBut sb hCa,fun h' sb'=>⟨_,_,I''.turned (t':=s''.toks) (it:=C) (fun b o hb e=>(sb'.2 b hb).trans e) f1 f2 f4 f5 f6,hq D' hD⟩⟩
end
theorem xg {ts:List Str} {js:List Nat} {σ:St} {g:TG} {tt:TT} {te:TE} {Qd:List V→Hp→Prop} {K:PySem.W.Frag} {a:Addr} {xs:List V} {H:Hp} (Pv:Nat→List V→Hp→Prop) (hn:xs.length≤sizeLine) (h0:Pv 0 [] H) (hl:∀i ys H,Pv i ys H→ys.length≤i) (hq:∀i ys H,i≤xs.length→Pv i ys H→SqL K H a xs)
  (hs:∀i x ys H,xs[i]?=some x→Pv i ys H→g x ((ts.map fun _=>none) ++ cJ σ js) H fun σ2 H3=>σ2.drop ts.length=cJ σ js∧tt σ2 H3 fun b H4=>if b=true then te σ2 H4 fun y H5=>Pv (i+1) (ys ++ [y]) H5 else Pv (i+1) ys H4)
  (hd:∀ys H,Pv xs.length ys H→Qd ys H):yc ts js σ g tt te Qd (Itl K a) H:=by
 refine⟨fun i m ys H=>m=xs.length - i∧i≤xs.length∧Pv i ys H,⟨xs.length,by simp,Nat.zero_le _,h0⟩,?_⟩
 rintro i m ys H ⟨rfl,hi,p⟩
 have hlen:=hl i ys H p
 have q:=hq i ys H hi p
 by_cases hlt:i <xs.length
 ·refine .inr ⟨⟨xs,xs[i],q,by simp [hlt]⟩,by omega,Pv (i+1),fun ys' H' p'=>⟨xs.length - (i+1),by omega,rfl,hlt,p'⟩,fun x H' y=>?_⟩
  obtain⟨e,y⟩:=y
  subst e
  exact hs i x ys _ (y xs q) p
 ·have e:i=xs.length:=by omega
  subst e
  exact .inl ⟨⟨xs,q,Nat.le_refl _⟩,by omega,hd ys H p⟩
end L2
set_option Elab.async false
set_option linter.all false
set_option maxRecDepth 100000
set_option Elab.async false
set_option maxHeartbeats 4000000
namespace L2
open PySem PySem.Spec PyProof.Rows
section
variable {P:Program} {w:World} {K:PySem.W.Frag} {mg:Str→Option Value} {base:Heap} {its:Array Value}
end
end L2
namespace L2
open PySem PySem.Spec PyProof.Rows
end L2
namespace L2
open PySem PySem.Spec PyProof.Rows
theorem comp_enumH {ts:List Str} {js:List Nat} {σ:St} {g:TG} {tt:TT} {te:TE} {Qd:List V→Hp→Prop} {K:PySem.W.Frag} {a:Addr} {xs:List V} {H:Hp} (Pv:Nat→List V→Hp→Prop) (hn:xs.length≤sizeLine) (h0:Pv 0 [] H) (hl:∀i ys H,Pv i ys H→ys.length≤i) (hq:∀i ys H,i≤xs.length→Pv i ys H→SqL K H a xs)
  (hs:∀i x ys H p,xs[i]?=some x→Pv i ys H→H p=none→g (.ref p) ((ts.map fun _=>none) ++ cJ σ js) (upd H p (.tup [.int (i:Nat),x])) fun σ2 H3=>σ2.drop ts.length=cJ σ js∧tt σ2 H3 fun b H4=>if b=true then te σ2 H4 fun y H5=>Pv (i+1) (ys ++ [y]) H5 else Pv (i+1) ys H4)
  (hd:∀ys H,Pv xs.length ys H→Qd ys H):yc ts js σ g tt te Qd (Iten K a) H:=by
 refine⟨fun i m ys H=>m=xs.length - i∧i≤xs.length∧Pv i ys H,⟨xs.length,by simp,Nat.zero_le _,h0⟩,?_⟩
 rintro i m ys H ⟨rfl,hi,p⟩
 have hlen:=hl i ys H p
 have q:=hq i ys H hi p
 by_cases hlt:i <xs.length
 ·refine .inr ⟨⟨xs,xs[i],q,by simp [hlt]⟩,by omega,Pv (i+1),fun ys' H' p'=>⟨xs.length - (i+1),by omega,rfl,hlt,p'⟩,fun x H' y=>?_⟩
  obtain⟨u,z,hu,ex,eH,hy⟩:=y
  subst ex eH
  exact hs i z ys H u (hy xs q) p hu
 ·have e:i=xs.length:=by omega
  subst e
  exact .inl ⟨⟨xs,q,Nat.le_refl _⟩,by omega,hd ys H p⟩
end L2
namespace L2
open PySem PySem.Spec PyProof.Rows
section
variable {X:Cx} {e:Expr} {es:List Expr} {te:TE} {t:TA} {pos:Pos} {st:Stmt} {rest:List Stmt} {ts us:TS}
end
end L2
set_option Elab.async false
set_option linter.all false
set_option maxRecDepth 100000
set_option Elab.async false
set_option maxHeartbeats 4000000
namespace L2
open PySem PySem.Spec PyProof.Rows
theorem rK {X:Cx} {K:PySem.W.Frag} (hK:X.K=K):qm X (.type "tuple") (fun xs H Q=>∃a ys,xs=[.ref a]∧SqA K H a ys∧∀(H':Hp) (u:Addr),aO H H'→SqT K H' u ys→Q (.ref u) H'):=by subst hK;exact rG
end L2
set_option Elab.async false
set_option linter.all false
set_option maxRecDepth 100000
set_option Elab.async false
set_option maxHeartbeats 4000000
namespace L2
open PySem PySem.Spec PyProof.Rows
section
variable {X:Cx}
end
end L2
namespace L2
open PySem PySem.Spec PyProof.Rows
end L2
set_option Elab.async false
set_option linter.all false
set_option maxRecDepth 100000
set_option Elab.async false
set_option maxHeartbeats 4000000
namespace L2
open PySem PySem.Spec PyProof.Rows
section
variable {X:Cx}
end
section
variable {prog:Program} {w:World} {A:Around} {E:Value→Shared→Prop}
theorem draw_list {it t:Addr} {items:Array Value} (hne:t≠it):∀(n i:Nat) (s:Shared) (Q:List Value→Shared→Prop),s.heap.IsListIter it t i→s.heap.IsList t items→i+n≤items.size→
  (∀h',h'.IsListIter it t (i+n)→Heap.SameBut it s.heap h'→Q ((items.toList.drop i).take n) { s with heap:=h' })→wpAny (model prog w) A (draw (.ref it) n) Q E s
 | 0,i,s,Q,hit,_,_,hQ=>by
  show wpAny _ _ (pure []) Q E s
  exact wpAny_pure (by simpa using hQ s.heap hit (Heap.SameBut.refl ..))
 | n+1,i,s,Q,hit,ht,hle,hQ=>by
  have hlt:i <items.size:=by omega
  show wpAny _ _ (pyNext (.ref it) >>= _) Q E s
  refine wpAny_bind (wpAny_pyNext_list_item hit ht (x:=items[i]) (by simp [hlt]) fun h₁ hit₁ hs₁=>?_)
  refine wpAny_bind (wpAny_holding (draw_list hne n (i+1) _ _ hit₁ (ht.extBut hs₁.extBut hne) (by omega) fun h₂ hit₂ hs₂=>wpAny_pure ?_))
  have hd:items.toList.drop i=items[i]:: items.toList.drop (i+1):=by simp [List.drop_eq_getElem_cons,hlt]
  have:=hQ h₂ (by rw [show i+(n+1)=i+1+n by omega];exact hit₂) (hs₁.trans hs₂)
  rw [hd,List.take_succ_cons] at this
  exact this
theorem unpack_list {s:Shared} {t:Addr} {items:Array Value} {targets:List (Bool×(Value→Sem Unit))} {Q:Unit→Shared→Prop} (hh:A.handled=none) (ht:s.heap.IsList t items)
  (hn:targets.length=items.size) (hstar:targets.findIdx? (·.1)=none)
  (h:∀h',Heap.ExtBut s.heap.objs.size s.heap h'→wpAny (model prog w) A (assignInOrder (targets.map (·.2)) items.toList) Q E { s with heap:=h' }):
  wpAny (model prog w) A (unpack (.ref t) targets) Q E s:=by
 unfold unpack
 rw [hn,hstar]
 refine wpAny_bind (wpAny_holding ?_)
 have hlt:t≠s.heap.objs.size:=by obtain⟨o,ho,_⟩:=ht.typeIs;exact Nat.ne_of_lt (Heap.lt_size ho)
 unfold unpackItems
 refine wpAny_bind ?_
 unfold notIterableAtAll
 refine wpAny_bind (wpAny_specialOf ht.typeIs F.slot_list_iter.lookup ?_)
 refine wpAny_pure ?_
 simp only [Bool.false_eq_true,if_false]
 refine wpAny_bind (wpAny_holding (wpAny_pyIter_list ht ?_))
 refine wpAny_bind (wpAny_holding (draw_list hlt items.size 0 _ _ ⟨_,Heap.get?_push_size _ rfl,rfl,rfl⟩ (ht.at fun o e=>Heap.get?_push_of_some _ e) (by omega) fun h₁ hit₁ hs₁=>?_))
 have hall:List.take items.size (List.drop 0 items.toList)=items.toList:=by
  rw [List.drop_zero];exact List.take_of_length_le (by simp)
 rw [hall]
 rw [if_neg (by simp)]
 have ht₁:h₁.IsList t items:=Heap.IsList.extBut (ht.at fun o e=>Heap.get?_push_of_some _ e) hs₁.extBut hlt
 refine wpAny_bind (wpAny_holding (wpAny_pyNext_list_end hh hit₁ ht₁ (by simp) fun h₂ he₂=>?_))
 simp only [Option.isSome_none,Bool.false_eq_true,if_false]
 exact wpAny_pure (h h₂ fun b o hb e=>he₂ b o hb (hs₁.extBut b o hb (Heap.get?_push_of_some _ e)))
end
def gLst (K:PySem.W.Frag) (n:Nat) (t:TGs):TG:=fun v σ H Q=>∃a xs,v=.ref a∧SqL K H a xs∧xs.length=n∧t xs σ H Q
theorem pg_lst {X:Cx} {pos:Pos} {es:List Expr} {k:Nat} {t:TGs} {n:Nat} (hc:X.calm=true) (h:PGs X es t)
  (hn:(assignEach es X.env).length=n:=by rfl) (hst:(assignEach es X.env).findIdx? (·.1)=none:=by rfl):PG X (.Tuple es k pos) (gLst X.K n t):=by
 intro pins s σ H v u Q I r hw
 obtain⟨a,xs,e1,hq,hl,hw⟩:=hw
 subst e1
 cases r
 obtain⟨its,rv,ht,hz⟩:=I.list hq
 rw [arm_assign_Tuple]
 refine wpAny_bind (wpAny_standAt (unpack_list (I.ok.hd hc) ht.isList (by simp [hn,←hl,rv.length]) hst fun h' hx=>?_))
 have I1:Inv X pins σ H { s with heap:=h' }:=I.kept (t':=s.toks) fun b o e=>hx b o (Nat.ne_of_lt (Heap.lt_size e)) e
 exact h pins _ σ H xs _ Q I1 (by simpa using rv) hw
end L2
set_option Elab.async false
set_option linter.all false
set_option maxRecDepth 100000
set_option Elab.async false
set_option maxHeartbeats 4000000
namespace L2
open PySem PySem.Spec PyProof.Rows
section
variable {X:Cx} {tg:Expr}
end
section
variable {X:Cx} {e:Expr}
theorem pt_alt {t u:TT} (h:PT X e t) (h':PT X e u):PT X e (fun σ H Q=>t σ H Q∨u σ H Q):=fun pins s σ H Q I q=>q.elim (h pins s σ H Q I) (h' pins s σ H Q I)
end
end L2
set_option Elab.async false
set_option linter.all false
set_option maxRecDepth 100000
set_option Elab.async false
set_option maxHeartbeats 4000000
namespace L2
open PySem PySem.Spec PyProof.Rows
section
variable {X:Cx}
end
end L2
namespace L2
open PySem PySem.Spec PyProof.Rows
section
variable {M:Model} {A:Around} {E:Value→Shared→Prop} {nm q:Str} {C N:Addr} {bs bm:List Value} {hdct:Bool} {sn:List Str} {sub:List Value} {ab:Bool} {col:Option Bool} {dd:Option Addr} {k0 k1 k2 k3 k5:Option Value} {newId:String}
end
end L2
set_option Elab.async false
set_option linter.all false
set_option maxRecDepth 100000
set_option Elab.async false
set_option maxHeartbeats 4000000
namespace L2
open PySem PyProof
end L2
set_option maxHeartbeats 4000000
namespace One
open PySem PySem.W PySem.Calls PyProof.Rows
def plant:Nat→BT→List Obj→BT
 | _,t,[]=>t
 | n,t,o:: r=>plant (n+1) (t.ins n o) r
def planted:Nat→BT→List Obj→Bool
 | _,_,[]=>true
 | n,t,o:: r=>((t.ins n o).get n).isSome && planted (n+1) (t.ins n o) r
theorem plant_abs {life:Life}:∀(l:List Obj) (n:Nat) (t:BT) (as:List Obj),absHeap t n life=⟨as.toArray,life⟩→planted n t l=true→absHeap (plant n t l) (n+l.length) life=⟨(as ++ l).toArray,life⟩
 | [],n,t,as,h,_=>by simpa [plant] using h
 | o:: r,n,t,as,h,k=>by
  simp only [planted,Bool.and_eq_true] at k
  have e:=absHeap_ins (life:=life) k.1
  rw [h] at e
  have:=plant_abs r (n+1) (t.ins n o) (as ++ [o]) (by rw [e];simp [Heap.push]) k.2
  rw [List.append_assoc] at this
  rw [List.length_cons,show n+(r.length+1)=n+1+r.length by omega]
  exact this
def goT (tb:String→Option Builtin) (p:Program) (w:World) (m:Nat) (an:Option Value):Nat→SharedT→Thread→Option (SharedT×Thread)
 | 0,s,t=>some (s,t)
 | n+1,s,t=>match through t with
  | true=>some (s,t)
  | false=>match stepOk m an t with
   | false=>none
   | true=>match stepT (denote tb) p w s t with
    | some (s',t')=>goT tb p w m an n s' t'
    | none=>none
theorem goT_of {tb:String→Option Builtin} {p:Program} {w:World} {m:Nat} {an:Option Value}:∀{n:Nat} {s s':SharedT} {t t':Thread},goT tb p w m an n s t=some (s',t')→through t'=true→topRun tb p w m an (n+1) s.abs t=some s'.abs
 | 0,s,s',t,t',h,z=>by
  obtain⟨rfl,rfl⟩:=Prod.mk.inj (Option.some.inj h)
  unfold topRun
  rw [z]
 | n+1,s,s',t,t',h,z=>by
  unfold goT at h
  unfold topRun
  cases e1:through t with
  | true=>
   rw [e1] at h
   obtain⟨rfl,rfl⟩:=Prod.mk.inj (Option.some.inj h)
   rfl
  | false=>
   rw [e1] at h
   cases e2:stepOk m an t with
   | false=>rw [e2] at h;cases h
   | true=>
    rw [e2] at h
    cases e3:stepT (denote tb) p w s t with
    | none=>rw [e3] at h;cases h
    | some r=>
     obtain⟨s2,t2⟩:=r
     rw [e3] at h
     rw [stepT_spec e3]
     exact goT_of h z
def ends (r:SharedT×Thread):Option SharedT:=match through r.2 with
 | true=>some r.1
 | false=>none
theorem topT_of {tb:String→Option Builtin} {p:Program} {w:World} {m:Nat} {an:Option Value} {n:Nat} {s s':SharedT} {t:Thread} (h:(goT tb p w m an n s t).bind ends=some s'):topRun tb p w m an (n+1) s.abs t=some s'.abs:=by
 obtain⟨⟨s2,t2⟩,e1,e2⟩:=Option.bind_eq_some_iff.mp h
 unfold ends at e2
 cases z:through t2 with
 | false=>simp only [z] at e2;cases e2
 | true=>
  simp only [z] at e2
  cases e2
  exact goT_of e1 z
noncomputable def ann0 (P:Params):Option Value:=(boot_heap P).nsMap mainGlobals "__annotations__"
noncomputable def S0 (w:World) (os:OsState):SharedT:=⟨plant 0 .nil (boot_heap w.params).objs.toList,11,{},Array.mk [],boot_drawn,boot_toks,os⟩
theorem S0_abs (w:World) (os:OsState):(S0 w os).abs=⟨boot_heap w.params,Array.mk [],boot_drawn,boot_toks,os⟩:=by
 have e:=plant_abs (life:={}) (boot_heap w.params).objs.toList 0 .nil [] rfl (by rfl)
 have e2:absHeap (plant 0 .nil (boot_heap w.params).objs.toList) 11 {}=boot_heap w.params:=e
 show(⟨absHeap (plant 0 .nil (boot_heap w.params).objs.toList) 11 {},_,_,_,_⟩:Shared)=_
 rw [e2]
 rfl
noncomputable def runX (p:Program) (M:Nat) (w:World) (os:OsState):Option SharedT:=(goT treeTable p w 11 (ann0 w.params) M (S0 w os) (topStub p)).bind ends
noncomputable def looksX (p q:Program) (loose:List Str) (Xt:Shared→Bool) (M:Nat) (w:World) (os:OsState):=
 (runX p M w os).map fun s=>(staticsOk (importedModules p.main.body) (boot_heap w.params) s.abs.heap && namesBound p s.abs.heap && gensDone s.abs && laidKept (boot_heap w.params) s.abs.heap,openSeen q loose (importedModules p.main.body) Xt true s.abs)
theorem left_of {p q:Program} {loose:List Str} {Xt:Shared→Bool} {α:Type} {Yf:Shared→α} {Ya:World→α} {N M:Nat} (e:opening p=plainProg p.main.scope.names) (hN:Nat.ble 600 N=true) (f:∀s,fenceModules? p s=some s) (le:Nat.ble (M+1) N=true)
  (A:∀w os,looksX p q loose Xt M w os=some (true,openGood q loose)) (B:∀w os,(runX p M w os).map (fun s=>Yf s.abs)=some (Ya w)):LeftO p q loose Xt Yf Ya N:=fun w=>by
 obtain⟨⟨h,gs,d,k,os⟩,e1,e2⟩:=Option.map_eq_some_iff.mp (boot_open e hN f w)
 obtain⟨rfl,rfl,rfl,rfl⟩:h=boot_heap w.params∧gs=Array.mk []∧d=boot_drawn∧k=boot_toks:=by simpa using e2
 obtain⟨s1,r1,l1⟩:=Option.map_eq_some_iff.mp (A w os)
 obtain⟨s2,r2,l2⟩:=Option.map_eq_some_iff.mp (B w os)
 rw [r1] at r2
 cases r2
 obtain⟨l3,l4⟩:=Prod.mk.inj l1
 have r3:=topT_of r1
 rw [S0_abs] at r3
 have r4:=topRun_mono (N - (M+1)) _ _ _ _ r3
 rw [show M+1+(N - (M+1))=N by have:=Nat.le_of_ble_eq_true le;omega] at r4
 have t:topFrom treeTable p w N ⟨boot_heap w.params,Array.mk [],boot_drawn,boot_toks,os⟩=some s1.abs:=by
  unfold topFrom
  have z1:((boot_heap w.params).isNs mainGlobals && (Array.mk []:Array GenState).size == 0)=true:=by kernel_rfl
  dsimp only
  rw [z1]
  show((topRun treeTable p w 11 (ann0 w.params) N _ _).bind _)=_
  rw [r4]
  show(match staticsOk (importedModules p.main.body) (boot_heap w.params) s1.abs.heap && namesBound p s1.abs.heap && gensDone s1.abs && laidKept (boot_heap w.params) s1.abs.heap with | true=>_ | false=>_)=_
  rw [l3]
 unfold openEnds
 rw [e1]
 show(topFrom treeTable p w N _).map _=_
 rw [t]
 exact congrArg some (Prod.ext l4 l2)
def xM (s:SharedT) (a:Addr):Option Obj:=match Nat.blt a s.n with
 | true=>(match s.tree.get a with | some o=>alive o | none=>none)
 | false=>none
theorem getT_abs {s:SharedT} {a:Addr} {o:Obj} (h:xM s a=some o):s.abs.heap.get? a=some o:=by
 unfold xM at h
 cases e:Nat.blt a s.n with
 | false=>rw [e] at h;cases h
 | true=>
  rw [e] at h
  cases g:s.tree.get a with
  | none=>rw [g] at h;cases h
  | some x=>
   rw [g] at h
   exact(abs_get (Nat.le_of_ble_eq_true e) g).trans h
theorem all_abs {s:SharedT}:∀{as:List Addr} {l:List (Addr×Obj)},as.map (xM s)=l.map (fun p=>some p.2)→as.map s.abs.heap.get?=l.map fun p=>some p.2
 | [],[],_=>rfl
 | [],_:: _,h=>by cases h
 | _:: _,[],h=>by cases h
 | a:: as,x:: l,h=>by
  have h1:=List.cons.inj h
  show s.abs.heap.get? a:: as.map _=_
  rw [getT_abs h1.1,all_abs h1.2]
  rfl
theorem chunk {o:Option SharedT} {as:List Addr} {l:List (Addr×Obj)} (n:Nat) (h1:o.map (fun s=>(as.take n).map (xM s))=some ((l.take n).map fun p=>some p.2)) (h2:o.map (fun s=>(as.drop n).map (xM s))=some ((l.drop n).map fun p=>some p.2)):
  o.map (fun s=>as.map (xM s))=some (l.map fun p=>some p.2):=by
 obtain⟨s,e1,e2⟩:=Option.map_eq_some_iff.mp h1
 subst e1
 have e3:=Option.some.inj h2
 show some (as.map (xM s))=_
 rw [←List.take_append_drop n as,←List.take_append_drop n l,List.map_append,List.map_append]
 exact congrArg some (congr (congrArg _ e2) e3)
theorem hook_of {o:Option SharedT} {w:World} {K:Params→Frag} {as:List Addr} {e:∀P,as=(K P).map (·.1)} (h:o.map (fun s=>as.map (xM s))=some ((K w.params).map fun p=>some p.2)):
  o.map (fun s=>Hook.obs (kHook K as e) s.abs)=some (Hook.val (kHook K as e) w):=by
 obtain⟨s,h1,h2⟩:=Option.map_eq_some_iff.mp h
 rw [h1]
 exact congrArg some (all_abs h2)
end One
namespace HD
open PySem PySem.W PySem.Calls PyProof.Rows
abbrev rr:OpenRow:=OpenLaw.row PySem.Challenge.rw_holdlane_k74_slots_put_in
def q:Program:=view PySem.Challenge.pw_holdlane_k74_slots_put_in [76]
def loose:List PySem.Str:=(["_wall", "LaneError", "TooMany", "NoKind", "BadName", "Doubled", "NoSuch", "BadNumbers", "BadLanes", "BadRoom", "Open", "Loose", "VALUES", "FIGURES", "LETTERS", "LONGEST_NAME"]:List PySem.Str) ++ (["is_whole", "is_value", "is_name", "COUNTS", "Part", "Give", "Take", "Pass", "Copy", "Turn", "Heap", "Add", "Less", "Order", "Choose", "Split"]:List PySem.Str) ++ (["is_kind", "need_fit", "made_of", "part_made", "MOST_LANES", "MOST_PARTS", "MOST_ROOM", "need_counts", "need_fresh", "need_lane", "fresh_part", "tie_lanes", "need_ends", "joined_with", "need_joined", "row_of"]:List PySem.Str) ++ (["Net", "with_slot", "part_led", "_law_cell", "_law_mix", "_law_value", "_law_word", "_law_lane", "_law_part", "_law_pick", "_law_two", "_law_loop", "_law_step", "_law_closed", "_law_net", "_law_as_tuples"]:List PySem.Str) ++ (["_law_wide", "_law_called", "_law_is_name", "_law_due", "_law_slotted", "_law_asked"]:List PySem.Str)
def Xt (s:Shared):Bool:=xlAt q [] s && recOk (RowW.records (OpenRow.toRowW (OpenLaw.row PySem.Challenge.rw_holdlane_k74_slots_put_in))) s
structure KA where
 K:Params→Frag
 as:List Addr
def pickK {r:OpenRow} {K:Params→Frag} {as:List Addr} (_:(∀H:Hook,(∃e,H=kHook K as e)→r.Holds)→r.Holds):KA:=⟨K,as⟩
local macro_rules | `(tactic| o_head $H)=>`(tactic| (rename_i hh;exact hh $H ⟨_,rfl⟩))
noncomputable def ka:KA:=pickK (r:=rr) (fun _=>by k_head)
theorem ka_e (P:Params):KA.as ka=(ka.heap_1 P).map (·.1):=by kernel_rfl
noncomputable def runC:World→OsState→Option SharedT:=fun w os=>One.runX PySem.Challenge.pw_holdlane_k74_slots_put_in 12060 w os
noncomputable def looksC:=fun(w:World) (os:OsState)=>One.looksX PySem.Challenge.pw_holdlane_k74_slots_put_in q loose Xt 12060 w os
noncomputable def goodC:=some (true,openGood q loose)
theorem runC_e:runC=runC:=rfl
name_quick runQ for HD.runC by HD.runC_e
theorem looksC_e:looksC=looksC:=rfl
name_quick looksQ for HD.looksC by HD.looksC_e
theorem goodC_e:goodC=goodC:=rfl
name_quick goodQ for HD.goodC by HD.goodC_e
theorem A0 (w:World) (os:OsState):PySem.W.Fast.looksQ (w.withFollow "special-get-raises" false) os=PySem.W.Fast.goodQ:=by kernel_rfl
theorem B0_0 (w:World) (os:OsState):(PySem.W.Fast.runQ (w.withFollow "special-get-raises" false) os).map (fun s=>(KA.as ka).map (One.xM s))=some ((ka.heap_1 (w.withFollow "special-get-raises" false).params).map fun p=>some p.2):=by kernel_rfl
theorem B0 (w:World) (os:OsState):(PySem.W.Fast.runQ (w.withFollow "special-get-raises" false) os).map (fun s=>(KA.as ka).map (One.xM s))=some ((ka.heap_1 (w.withFollow "special-get-raises" false).params).map fun p=>some p.2):=B0_0 w os
theorem A1 (w:World) (os:OsState):PySem.W.Fast.looksQ (w.withFollow "special-get-raises" true) os=PySem.W.Fast.goodQ:=by kernel_rfl
theorem B1_0 (w:World) (os:OsState):(PySem.W.Fast.runQ (w.withFollow "special-get-raises" true) os).map (fun s=>(KA.as ka).map (One.xM s))=some ((ka.heap_1 (w.withFollow "special-get-raises" true).params).map fun p=>some p.2):=by kernel_rfl
theorem B1 (w:World) (os:OsState):(PySem.W.Fast.runQ (w.withFollow "special-get-raises" true) os).map (fun s=>(KA.as ka).map (One.xM s))=some ((ka.heap_1 (w.withFollow "special-get-raises" true).params).map fun p=>some p.2):=B1_0 w os
theorem A (w:World):∀os,looksC w os=goodC:=by
 rw [PySem.W.Fast.looksQ_eq,PySem.W.Fast.goodQ_eq]
 exact byRow2 "special-get-raises" (P:=fun w=>∀os,PySem.W.Fast.looksQ w os=PySem.W.Fast.goodQ) A0 A1 w
theorem B (w:World):∀os,(runC w os).map (fun s=>(KA.as ka).map (One.xM s))=some ((ka.heap_1 w.params).map fun p=>some p.2):=by
 rw [PySem.W.Fast.runQ_eq]
 exact byRow2 "special-get-raises" (P:=fun w=>∀os,(PySem.W.Fast.runQ w os).map (fun s=>(KA.as ka).map (One.xM s))=some ((ka.heap_1 w.params).map fun p=>some p.2)) B0 B1 w
theorem head {d:DefRec} {kwd:List (PySem.Str×Expr)}
  (hdef:defOf q rr.name=some (d,kwd)) (hp:rr.prog.theDef rr.name=some (d.params,d.body,d.scope)) (hk:kwWritten? d.params.kwonlyargs d.params.kw_defaults=some kwd) (hwr:(!rr.writes || rr.records.isEmpty)=true)
  (k1:rr.wellSaid=true) (ok:(chainsOk q && opensWell rr.prog && (frees rr.toRowW && rr.within.isEmpty))=true) (hb:rr.prog.bare) (ho:opening PySem.Challenge.pw_holdlane_k74_slots_put_in=plainProg (PySem.Challenge.pw_holdlane_k74_slots_put_in).main.scope.names) (f:∀s,fenceModules? PySem.Challenge.pw_holdlane_k74_slots_put_in s=some s)
  (hw:rr.toRowW.promised) (hc:WalkO q loose (XL q []) (Hook.says (kHook ka.heap_1 (KA.as ka) ka_e)) rr.toRowW d kwd fun f vs=>PySem.call f vs):rr.Holds:=by
 have left:LeftO PySem.Challenge.pw_holdlane_k74_slots_put_in q loose Xt (Hook.obs (kHook ka.heap_1 (KA.as ka) ka_e)) (Hook.val (kHook ka.heap_1 (KA.as ka) ka_e)) 24700:=One.left_of (M:=12060) ho rfl f rfl A fun w os=>One.hook_of (B w os)
 exact holds_open (XP:=XL q []) (YP:=Hook.says (kHook ka.heap_1 (KA.as ka) ka_e)) left (Hook.of _) (Hook.keeps _) (fun s z=>xl_of s (Bool.and_eq_true_iff.mp z).1) XL.keeps hdef hp hk (fun s z=>recFacts_of (Bool.and_eq_true_iff.mp z).2) hwr k1 ok hb hw hc
end HD
namespace K74
open PySem L2
theorem szl {n:Nat} (h:Nat.ble n 16777216=true:=by rfl):n≤sizeLine:=by rw [sizeLine_eq];exact Nat.le_of_ble_eq_true h
theorem lM {α β:Type} {f:α→β} {l:List α}:(l.map f).length=l.length:=List.length_map ..
theorem lP {α:Type} {l m:List α}:(l ++ m).length=l.length+m.length:=List.length_append ..
def top (i:Nat):Stmt:=PySem.Challenge.pw_holdlane_k74_slots_put_in.main.body.getD i (.Pass ⟨0,0,0,0⟩)
abbrev d9:Stmt:=inClass (top 7) 0
abbrev dX:Stmt:=inClass (top 5) 0
abbrev dY:Stmt:=inClass (top 6) 0
abbrev m8:Stmt:=top 18
abbrev m6:Stmt:=top 19
abbrev fK:Stmt:=inClass (top 23) 0
abbrev lK:Stmt:=inClass (top 24) 0
abbrev lO:Stmt:=inClass (top 25) 0
abbrev mj:Stmt:=inClass (top 26) 0
abbrev lQ:Stmt:=inClass (top 27) 0
abbrev lU:Stmt:=inClass (top 28) 0
abbrev lG:Stmt:=inClass (top 29) 0
abbrev mO:Stmt:=inClass (top 30) 0
abbrev lX:Stmt:=inClass (top 31) 0
abbrev iW:Stmt:=inClass (top 32) 0
abbrev gQ:Stmt:=inClass (top 33) 0
abbrev iK:Stmt:=inClass (top 34) 0
abbrev pA:Stmt:=top 35
abbrev lC:Stmt:=top 36
abbrev pF:Stmt:=top 37
abbrev lJ:Stmt:=top 38
abbrev mU:Stmt:=top 58
abbrev lN:Stmt:=top 57
abbrev iV:Stmt:=top 59
abbrev iB:Stmt:=top 60
abbrev iD:Stmt:=top 61
abbrev lY:Stmt:=top 63
abbrev iu:Stmt:=top 62
abbrev m5:Stmt:=top 64
abbrev lL:Stmt:=top 65
abbrev lZ:Stmt:=top 66
abbrev gP:Stmt:=top 67
abbrev lq:Stmt:=top 68
abbrev m9:Stmt:=top 20
abbrev gW:Stmt:=top 43
abbrev iR:Stmt:=top 44
abbrev iH:Stmt:=top 45
abbrev iU:Stmt:=top 46
abbrev lF:Stmt:=top 47
abbrev lH:Stmt:=top 48
abbrev gY:Stmt:=top 49
abbrev gZ:Stmt:=top 50
abbrev fB:Stmt:=inClass (top 52) 1
abbrev fu:Stmt:=inClass (top 52) 2
abbrev dB:Stmt:=inClass (top 52) 12
abbrev ie:Stmt:=inClass (top 52) 7
abbrev fV:Stmt:=inClass (top 52) 8
abbrev rA:Stmt:=top 51
abbrev iG:Stmt:=inClass (top 52) 13
abbrev fY:Stmt:=inClass (top 52) 0
abbrev lD:Stmt:=top 55
abbrev gw:Stmt:=top 54
abbrev dw:Stmt:=top 69
abbrev gB:Stmt:=top 70
abbrev gO:Stmt:=top 71
abbrev fD:Stmt:=top 72
abbrev iw:Stmt:=top 73
abbrev fX:Stmt:=top 74
abbrev iM:Stmt:=top 75
abbrev yJ:Stmt:=top 76
set_option genInjectivity false in
structure Adr where
 mJ:Addr
 lA:FuncData
 lE:Addr
 kJ:FuncData
 lu:Addr
 kO:FuncData
 wJ:Addr
 uy:FuncData
 wH:Addr
 uP:FuncData
 bY:Addr
 mZ:FuncData
 vq:Addr
 tV:FuncData
 vm:Addr
 rN:FuncData
 u9:Addr
 rJ:FuncData
 uJ:Addr
 rR:FuncData
 uD:Addr
 sX:FuncData
 uF:Addr
 tR:FuncData
 wN:Addr
 uh:FuncData
 uc:Addr
 sG:FuncData
 rO:Addr
 qU:FuncData
 qI:Addr
 pY:FuncData
 sI:Addr
 qX:FuncData
 ye:Addr
 wV:FuncData
 wK:Addr
 vh:FuncData
 yx:Addr
 wW:FuncData
 uX:Addr
 sU:FuncData
 wQ:Addr
 uK:FuncData
 ut:Addr
 sH:FuncData
 sS:Addr
 qJ:FuncData
 uN:Addr
 tK:FuncData
 vA:Addr
 rM:FuncData
 uM:Addr
 rP:FuncData
 ul:Addr
 tE:FuncData
 wU:Addr
 uO:FuncData
 uW:Addr
 tX:FuncData
 uz:Addr
 sy:FuncData
 qP:Addr
 pK:FuncData
 wL:Addr
 u5:FuncData
 yf:Addr
 wC:FuncData
 qz:Addr
 pI:FuncData
 rY:Addr
 qG:FuncData
 vd:Addr
 rT:FuncData
 sW:Addr
 qL:FuncData
 vC:Addr
 rW:FuncData
 uY:Addr
 tU:FuncData
 qH:Addr
 pN:FuncData
 qT:Addr
 pU:FuncData
 mW:Addr
 mD:FuncData
 mV:Addr
 mL:FuncData
 iC:Addr
 ik:FuncData
 qK:Addr
 pO:FuncData
 pJ:Addr
 oM:FuncData
 zN:Addr
 yl:FuncData
 w5:Addr
 vp:FuncData
 p7:Addr
 oN:FuncData
 wY:Addr
 vo:FuncData
 ue:Addr
 sY:FuncData
 mY:Addr
 mF:FuncData
 uI:Addr
 tQ:FuncData
 qW:Addr
 pH:FuncData
 pL:Addr
 oR:FuncData
 wD:Addr
 vf:FuncData
 pM:Addr
 oO:FuncData
 tL:Addr
 qC:FuncData
 f_law:Addr
 fd_law:FuncData
 eO:Addr
 eG:Addr
 eY:Addr
 eQ:Addr
 eX:Addr
 eU:Addr
 gM:Addr
 eV:Addr
 dm:Addr
 cG:Addr
 dj:Addr
 bO:Addr
 oJ:Addr
 fc:Addr
 bT:Addr
 bV:Addr
 bM:Addr
 bQ:Addr
abbrev ROWS:List (Str×List Int):=[("give",[0,0,1]),("take",[0,1,0]),("pass",[0,1,1]),("copy",[0,1,2]),("turn",[2,1,1]),("heap",[1,1,1]),("add",[0,2,1]),("less",[0,2,1]),("order",[0,2,2]),("choose",[0,3,1]),("split",[0,2,2])]
structure Txt (w:World) (K:PySem.W.Frag) (mg:Str→Option Value) (t:Adr):Prop where
 F_NoSuch___init__:Fun K "__init__" "NoSuch.__init__" d9 t.mJ t.lA
 b_NoSuch___init__:Binds K t.lA ["self", "name"] []
 F_BadName___init__:Fun K "__init__" "BadName.__init__" dX t.lE t.kJ
 b_BadName___init__:Binds K t.kJ ["self", "name"] []
 F_Doubled___init__:Fun K "__init__" "Doubled.__init__" dY t.lu t.kO
 b_Doubled___init__:Binds K t.kO ["self", "name"] []
 wy:Fun K "is_whole" "is_whole" m8 t.wJ t.uy
 Ac:Binds K t.uy ["thing"] []
 zR:mg "is_whole" =some (.ref t.wJ)
 wX:Fun K "is_value" "is_value" m6 t.wH t.uP
 Ae:Binds K t.uP ["thing"] []
 zQ:mg "is_value" =some (.ref t.wH)
 F_Part___init__:Fun K "__init__" "Part.__init__" fK t.bY t.mZ
 cC:Binds K t.mZ ["self", "name", "numbers", "ins", "outs"] []
 F_Give_kind:Fun K "kind" "Give.kind" lK t.vq t.tV
 b_Give_kind:Binds K t.tV ["self"] []
 F_Take_kind:Fun K "kind" "Take.kind" lO t.vm t.rN
 b_Take_kind:Binds K t.rN ["self"] []
 F_Pass_kind:Fun K "kind" "Pass.kind" mj t.u9 t.rJ
 b_Pass_kind:Binds K t.rJ ["self"] []
 F_Copy_kind:Fun K "kind" "Copy.kind" lQ t.uJ t.rR
 b_Copy_kind:Binds K t.rR ["self"] []
 F_Turn_kind:Fun K "kind" "Turn.kind" lU t.uD t.sX
 b_Turn_kind:Binds K t.sX ["self"] []
 F_Heap_kind:Fun K "kind" "Heap.kind" lG t.uF t.tR
 b_Heap_kind:Binds K t.tR ["self"] []
 F_Add_kind:Fun K "kind" "Add.kind" mO t.wN t.uh
 b_Add_kind:Binds K t.uh ["self"] []
 F_Less_kind:Fun K "kind" "Less.kind" lX t.uc t.sG
 b_Less_kind:Binds K t.sG ["self"] []
 F_Order_kind:Fun K "kind" "Order.kind" iW t.rO t.qU
 b_Order_kind:Binds K t.qU ["self"] []
 F_Choose_kind:Fun K "kind" "Choose.kind" gQ t.qI t.pY
 b_Choose_kind:Binds K t.pY ["self"] []
 F_Split_kind:Fun K "kind" "Split.kind" iK t.sI t.qX
 b_Split_kind:Binds K t.qX ["self"] []
 yt:Fun K "is_kind" "is_kind" pA t.ye t.wV
 b_is_kind:Binds K t.wV ["word"] []
 m_is_kind:mg "is_kind" =some (.ref t.ye)
 Ag:Fun K "need_fit" "need_fit" lC t.wK t.vh
 b_need_fit:Binds K t.vh ["kind", "name", "numbers", "ins", "outs"] []
 m_need_fit:mg "need_fit" =some (.ref t.wK)
 F_made_of:Fun K "made_of" "made_of" pF t.yx t.wW
 b_made_of:Binds K t.wW ["kind", "name", "numbers", "ins", "outs"] []
 m_made_of:mg "made_of" =some (.ref t.yx)
 yP:Fun K "part_made" "part_made" lJ t.uX t.sU
 b_part_made:Binds K t.sU ["kind", "name", "numbers", "ins", "outs"] []
 m_part_made:mg "part_made" =some (.ref t.uX)
 aZ:Fun K "_law_mix" "_law_mix" mU t.wQ t.uK
 bc:Binds K t.uK ["_law_cell_here", "_law_k"] []
 bf:mg "_law_mix" =some (.ref t.wQ)
 fM:Fun K "_law_cell" "_law_cell" lN t.ut t.sH
 gm:Binds K t.sH ["_law_script", "_law_k"] []
 gA:mg "_law_cell" =some (.ref t.ut)
 mG:Fun K "_law_value" "_law_value" iV t.sS t.qJ
 oX:Binds K t.qJ ["_law_cell_here", "_law_k"] []
 oZ:mg "_law_value" =some (.ref t.sS)
 cZ:Fun K "_law_word" "_law_word" iB t.uN t.tK
 dG:Binds K t.tK ["_law_cell_here", "_law_k"] []
 dD:mg "_law_word" =some (.ref t.uN)
 lR:Fun K "_law_lane" "_law_lane" iD t.vA t.rM
 n8:Binds K t.rM ["_law_state", "_law_cell_here", "_law_back"] []
 nZ:mg "_law_lane" =some (.ref t.vA)
 qt:Fun K "_law_pick" "_law_pick" lY t.uM t.rP
 uA:Binds K t.rP ["_law_state", "_law_number"] []
 uH:mg "_law_pick" =some (.ref t.uM)
 cX:Fun K "_law_part" "_law_part" iu t.ul t.tE
 dz:Binds K t.tE ["_law_state", "_law_cell_here", "_law_kind", "_law_numbers", "_law_ins", "_law_many"] []
 dF:mg "_law_part" =some (.ref t.ul)
 zG:Fun K "_law_two" "_law_two" m5 t.wU t.uO
 b__law_two:Binds K t.uO ["_law_state", "_law_cell_here", "_law_one", "_law_odd"] []
 m__law_two:mg "_law_two" =some (.ref t.wU)
 yZ:Fun K "_law_loop" "_law_loop" lL t.uW t.tX
 b__law_loop:Binds K t.tX ["_law_state", "_law_cell_here", "_law_one"] []
 m__law_loop:mg "_law_loop" =some (.ref t.uW)
 yQ:Fun K "_law_step" "_law_step" lZ t.uz t.sy
 b__law_step:Binds K t.sy ["_law_state", "_law_cell_here", "_law_odd"] []
 m__law_step:mg "_law_step" =some (.ref t.uz)
 vY:Fun K "_law_closed" "_law_closed" gP t.qP t.pK
 b__law_closed:Binds K t.pK ["_law_state", "_law_cell_here", "_law_back"] []
 m__law_closed:mg "_law_closed" =some (.ref t.qP)
 zX:Fun K "_law_net" "_law_net" lq t.wL t.u5
 b__law_net:Binds K t.u5 ["_law_script", "_law_start", "_law_steps", "_law_odd"] []
 m__law_net:mg "_law_net" =some (.ref t.wL)
 F_is_name:Fun K "is_name" "is_name" m9 t.yf t.wC
 b_is_name:Binds K t.wC ["thing"] []
 m_is_name:mg "is_name" =some (.ref t.yf)
 vW:Fun K "need_counts" "need_counts" gW t.qz t.pI
 b_need_counts:Binds K t.pI ["lanes", "parts"] []
 m_need_counts:mg "need_counts" =some (.ref t.qz)
 mq:Fun K "need_fresh" "need_fresh" iR t.rY t.qG
 oY:Binds K t.qG ["name", "known"] []
 o9:mg "need_fresh" =some (.ref t.rY)
 yI:Fun K "need_lane" "need_lane" iH t.vd t.rT
 b_need_lane:Binds K t.rT ["name", "room", "first"] []
 m_need_lane:mg "need_lane" =some (.ref t.vd)
 xX:Fun K "fresh_part" "fresh_part" iU t.sW t.qL
 b_fresh_part:Binds K t.qL ["row", "known"] []
 m_fresh_part:mg "fresh_part" =some (.ref t.sW)
 uv:Fun K "tie_lanes" "tie_lanes" lF t.vC t.rW
 yM:Binds K t.rW ["part", "lanes", "rooms", "ends"] []
 yK:mg "tie_lanes" =some (.ref t.vC)
 yR:Fun K "need_ends" "need_ends" lH t.uY t.tU
 b_need_ends:Binds K t.tU ["rooms", "givers", "takers"] []
 m_need_ends:mg "need_ends" =some (.ref t.uY)
 ww:Fun K "joined_with" "joined_with" gY t.qH t.pN
 b_joined_with:Binds K t.pN ["part", "givers", "takers"] []
 m_joined_with:mg "joined_with" =some (.ref t.qH)
 wu:Fun K "need_joined" "need_joined" gZ t.qT t.pU
 b_need_joined:Binds K t.pU ["names", "givers", "takers"] []
 m_need_joined:mg "need_joined" =some (.ref t.qT)
 F_Net_lane_names:Fun K "lane_names" "Net.lane_names" fB t.mW t.mD
 rF:Binds K t.mD ["self"] []
 F_Net_part_names:Fun K "part_names" "Net.part_names" fu t.mV t.mL
 b_Net_part_names:Binds K t.mL ["self"] []
 F_Net_need_lane_name:Fun K "need_lane_name" "Net.need_lane_name" dB t.iC t.ik
 iz:Binds K t.ik ["self", "name"] []
 F_Net_room_of:Fun K "room_of" "Net.room_of" ie t.qK t.pO
 b_Net_room_of:Binds K t.pO ["self", "name"] []
 F_Net_first_of:Fun K "first_of" "Net.first_of" fV t.pJ t.oM
 b_Net_first_of:Binds K t.oM ["self", "name"] []
 F_row_of:Fun K "row_of" "row_of" rA t.zN t.yl
 b_row_of:Binds K t.yl ["part"] []
 m_row_of:mg "row_of" =some (.ref t.zN)
 F_Net_told:Fun K "told" "Net.told" iG t.w5 t.vp
 wG:Binds K t.vp ["self"] []
 F_Net___init__:Fun K "__init__" "Net.__init__" fY t.p7 t.oN
 ur:Binds K t.oN ["self", "lanes", "parts"] []
 Ai:Fun K "part_led" "part_led" lD t.wY t.vo
 b_part_led:Binds K t.vo ["part", "lane", "fresh"] []
 m_part_led:mg "part_led" =some (.ref t.wY)
 yW:Fun K "with_slot" "with_slot" gw t.ue t.sY
 b_with_slot:Binds K t.sY ["net", "lane", "slot", "fresh"] []
 m_with_slot:mg "with_slot" =some (.ref t.ue)
 nj:Fun K "_law_as_tuples" "_law_as_tuples" dw t.mY t.mF
 q9:Binds K t.mF ["_law_lanes", "_law_parts"] []
 rB:mg "_law_as_tuples" =some (.ref t.mY)
 yS:Fun K "_law_wide" "_law_wide" gB t.uI t.tQ
 b__law_wide:Binds K t.tQ ["_law_one", "_law_other", "_law_many"] []
 m__law_wide:mg "_law_wide" =some (.ref t.uI)
 qQ:Fun K "_law_called" "_law_called" gO t.qW t.pH
 vZ:Binds K t.pH ["_law_cell_here", "_law_k", "_law_names"] []
 wg:mg "_law_called" =some (.ref t.qW)
 uQ:Fun K "_law_is_name" "_law_is_name" fD t.pL t.oR
 b__law_is_name:Binds K t.oR ["_law_word_here"] []
 m__law_is_name:mg "_law_is_name" =some (.ref t.pL)
 zM:Fun K "_law_due" "_law_due" iw t.wD t.vf
 b__law_due:Binds K t.vf ["_law_lanes", "_law_parts", "_law_lane_here", "_law_slot", "_law_fresh"] []
 m__law_due:mg "_law_due" =some (.ref t.wD)
 uV:Fun K "_law_slotted" "_law_slotted" fX t.pM t.oO
 b__law_slotted:Binds K t.oO ["_law_lanes", "_law_parts", "_law_lane_here", "_law_slot", "_law_fresh"] []
 m__law_slotted:mg "_law_slotted" =some (.ref t.pM)
 xV:Fun K "_law_asked" "_law_asked" iM t.tL t.qC
 b__law_asked:Binds K t.qC ["_law_net_one", "_law_lane_here", "_law_slot", "_law_fresh"] []
 m__law_asked:mg "_law_asked" =some (.ref t.tL)
 F_law:Fun K "law" "law" yJ t.f_law t.fd_law
 b_law:Binds K t.fd_law ["_law_script"] []
 m_law:mg "law" =some (.ref t.f_law)
 c_Give:Cls K t.eO
 mc_Give:mg "Give" =some (.ref t.eO)
 M_Give:Mk K t.eO t.bY
 me_Give_kind:Meth K t.eO "kind" t.vq
 na_Give_name:bB K t.eO "name"
 na_Give_numbers:bB K t.eO "numbers"
 na_Give_ins:bB K t.eO "ins"
 na_Give_outs:bB K t.eO "outs"
 c_Take:Cls K t.eG
 mc_Take:mg "Take" =some (.ref t.eG)
 M_Take:Mk K t.eG t.bY
 me_Take_kind:Meth K t.eG "kind" t.vm
 na_Take_name:bB K t.eG "name"
 na_Take_numbers:bB K t.eG "numbers"
 na_Take_ins:bB K t.eG "ins"
 na_Take_outs:bB K t.eG "outs"
 c_Pass:Cls K t.eY
 mc_Pass:mg "Pass" =some (.ref t.eY)
 M_Pass:Mk K t.eY t.bY
 me_Pass_kind:Meth K t.eY "kind" t.u9
 na_Pass_name:bB K t.eY "name"
 na_Pass_numbers:bB K t.eY "numbers"
 na_Pass_ins:bB K t.eY "ins"
 na_Pass_outs:bB K t.eY "outs"
 c_Copy:Cls K t.eQ
 mc_Copy:mg "Copy" =some (.ref t.eQ)
 M_Copy:Mk K t.eQ t.bY
 me_Copy_kind:Meth K t.eQ "kind" t.uJ
 na_Copy_name:bB K t.eQ "name"
 na_Copy_numbers:bB K t.eQ "numbers"
 na_Copy_ins:bB K t.eQ "ins"
 na_Copy_outs:bB K t.eQ "outs"
 c_Turn:Cls K t.eX
 mc_Turn:mg "Turn" =some (.ref t.eX)
 M_Turn:Mk K t.eX t.bY
 me_Turn_kind:Meth K t.eX "kind" t.uD
 na_Turn_name:bB K t.eX "name"
 na_Turn_numbers:bB K t.eX "numbers"
 na_Turn_ins:bB K t.eX "ins"
 na_Turn_outs:bB K t.eX "outs"
 c_Heap:Cls K t.eU
 mc_Heap:mg "Heap" =some (.ref t.eU)
 M_Heap:Mk K t.eU t.bY
 me_Heap_kind:Meth K t.eU "kind" t.uF
 na_Heap_name:bB K t.eU "name"
 na_Heap_numbers:bB K t.eU "numbers"
 na_Heap_ins:bB K t.eU "ins"
 na_Heap_outs:bB K t.eU "outs"
 c_Add:Cls K t.gM
 mc_Add:mg "Add" =some (.ref t.gM)
 M_Add:Mk K t.gM t.bY
 me_Add_kind:Meth K t.gM "kind" t.wN
 na_Add_name:bB K t.gM "name"
 na_Add_numbers:bB K t.gM "numbers"
 na_Add_ins:bB K t.gM "ins"
 na_Add_outs:bB K t.gM "outs"
 c_Less:Cls K t.eV
 mc_Less:mg "Less" =some (.ref t.eV)
 M_Less:Mk K t.eV t.bY
 me_Less_kind:Meth K t.eV "kind" t.uc
 na_Less_name:bB K t.eV "name"
 na_Less_numbers:bB K t.eV "numbers"
 na_Less_ins:bB K t.eV "ins"
 na_Less_outs:bB K t.eV "outs"
 c_Order:Cls K t.dm
 mc_Order:mg "Order" =some (.ref t.dm)
 M_Order:Mk K t.dm t.bY
 me_Order_kind:Meth K t.dm "kind" t.rO
 na_Order_name:bB K t.dm "name"
 na_Order_numbers:bB K t.dm "numbers"
 na_Order_ins:bB K t.dm "ins"
 na_Order_outs:bB K t.dm "outs"
 c_Choose:Cls K t.cG
 mc_Choose:mg "Choose" =some (.ref t.cG)
 M_Choose:Mk K t.cG t.bY
 me_Choose_kind:Meth K t.cG "kind" t.qI
 na_Choose_name:bB K t.cG "name"
 na_Choose_numbers:bB K t.cG "numbers"
 na_Choose_ins:bB K t.cG "ins"
 na_Choose_outs:bB K t.cG "outs"
 c_Split:Cls K t.dj
 mc_Split:mg "Split" =some (.ref t.dj)
 M_Split:Mk K t.dj t.bY
 me_Split_kind:Meth K t.dj "kind" t.sI
 na_Split_name:bB K t.dj "name"
 na_Split_numbers:bB K t.dj "numbers"
 na_Split_ins:bB K t.dj "ins"
 na_Split_outs:bB K t.dj "outs"
 dI:Cls K t.bO
 mc_Net:mg "Net" =some (.ref t.bO)
 M_Net:Mk K t.bO t.p7
 qx:Meth K t.bO "lane_names" t.mW
 me_Net_part_names:Meth K t.bO "part_names" t.mV
 ig:Meth K t.bO "need_lane_name" t.iC
 me_Net_room_of:Meth K t.bO "room_of" t.qK
 me_Net_first_of:Meth K t.bO "first_of" t.pJ
 uE:Meth K t.bO "told" t.w5
 d7:bB K t.bO "rooms"
 nA:bB K t.bO "firsts"
 gC:bB K t.bO "parts"
 nG:bB K t.bO "givers"
 nQ:bB K t.bO "takers"
 mt_COUNTS:mg "COUNTS" =some (.ref t.oJ)
 t_COUNTS:KTab w K t.oJ ROWS
 n_all:mg "all" =none
 n_bool:mg "bool" =none
 yG:mg "enumerate" =none
 n_int:mg "int" =none
 my:mg "isinstance" =none
 gh:mg "len" =none
 n_list:mg "list" =none
 n_max:mg "max" =none
 qg:mg "range" =none
 n_str:mg "str" =none
 qe:mg "tuple" =none
 g_VALUES:∃u,mg "VALUES" =some u∧RelV (.int 1000000000) u
 g_LETTERS:∃u,mg "LETTERS" =some u∧RelV (.str "abcdefghijklmnopqrstuvwxyz") u
 g_LONGEST_NAME:∃u,mg "LONGEST_NAME" =some u∧RelV (.int 8) u
 g_FIGURES:∃u,mg "FIGURES" =some u∧RelV (.str "0123456789") u
 g_MOST_LANES:∃u,mg "MOST_LANES" =some u∧RelV (.int 24) u
 g_MOST_PARTS:∃u,mg "MOST_PARTS" =some u∧RelV (.int 16) u
 g_MOST_ROOM:∃u,mg "MOST_ROOM" =some u∧RelV (.int 199) u
 ph:mg "LaneError" =some (.ref t.fc)
 xm:mg "TooMany" =some (.ref t.bT)
 mc_NoSuch:mg "NoSuch" =some (.ref t.bV)
 z6:mg "BadName" =some (.ref t.bM)
 Aq:mg "Doubled" =some (.ref t.bQ)
 tO:BaseI K t.fc
 ko_TooMany_LaneError:PySem.W.kitOne K (.ref t.bT) (.ref t.fc)=some true
 sb_NoSuch_BadName:PySem.W.subIn K (.ref t.bV) (.ref t.bM)=some false
 sb_NoSuch_Doubled:PySem.W.subIn K (.ref t.bV) (.ref t.bQ)=some false
 sb_NoSuch_TooMany:PySem.W.subIn K (.ref t.bV) (.ref t.bT)=some false
 qy:PySem.W.subIn K (.ref t.bM) (.ref t.bV)=some false
 sb_BadName_Doubled:PySem.W.subIn K (.ref t.bM) (.ref t.bQ)=some false
 sb_BadName_TooMany:PySem.W.subIn K (.ref t.bM) (.ref t.bT)=some false
 ql:PySem.W.subIn K (.ref t.bQ) (.ref t.bV)=some false
 pZ:PySem.W.subIn K (.ref t.bQ) (.ref t.bM)=some false
 sb_Doubled_TooMany:PySem.W.subIn K (.ref t.bQ) (.ref t.bT)=some false
 sb_TooMany_NoSuch:PySem.W.subIn K (.ref t.bT) (.ref t.bV)=some false
 sb_TooMany_BadName:PySem.W.subIn K (.ref t.bT) (.ref t.bM)=some false
 sb_TooMany_Doubled:PySem.W.subIn K (.ref t.bT) (.ref t.bQ)=some false
 Ao:ExcCls K t.bT
 xa_TooMany:ExcAt K t.bT
 xc_TooMany:XcK K t.bT
 X_NoSuch:MkX K t.bV t.mJ
 xf_NoSuch:XfK K t.bV
 na_NoSuch:bB K t.bV "name"
 xa_NoSuch:ExcAt K t.bV
 X_BadName:MkX K t.bM t.lE
 xj:XfK K t.bM
 wz:bB K t.bM "name"
 xa_BadName:ExcAt K t.bM
 X_Doubled:MkX K t.bQ t.lu
 xq:XfK K t.bQ
 wA:bB K t.bQ "name"
 xa_Doubled:ExcAt K t.bQ
section
variable {P:Program} {w:World} {K:PySem.W.Frag} {mg:Str→Option Value} {base:Heap} {t:Adr}
def dZ (i:Nat):Str:=match i with
 | 0=> "give"
 | 1=> "take"
 | 2=> "pass"
 | 3=> "copy"
 | 4=> "turn"
 | 5=> "heap"
 | 6=> "add"
 | 7=> "less"
 | 8=> "order"
 | 9=> "choose"
 | _=> "split"
def cN (i:Nat):Nat:=match i with
 | 0=>0
 | 1=>0
 | 2=>0
 | 3=>0
 | 4=>2
 | 5=>1
 | 6=>0
 | 7=>0
 | 8=>0
 | 9=>0
 | _=>0
def cI (i:Nat):Nat:=match i with
 | 0=>0
 | 1=>1
 | 2=>1
 | 3=>1
 | 4=>1
 | 5=>1
 | 6=>2
 | 7=>2
 | 8=>2
 | 9=>3
 | _=>2
def cO (i:Nat):Nat:=match i with
 | 0=>1
 | 1=>0
 | 2=>1
 | 3=>2
 | 4=>1
 | 5=>1
 | 6=>1
 | 7=>1
 | 8=>2
 | 9=>1
 | _=>2
def cls (t:Adr) (i:Nat):Addr:=match i with
 | 0=>t.eO
 | 1=>t.eG
 | 2=>t.eY
 | 3=>t.eQ
 | 4=>t.eX
 | 5=>t.eU
 | 6=>t.gM
 | 7=>t.eV
 | 8=>t.dm
 | 9=>t.cG
 | _=>t.dj
theorem row_of (i:Nat):rowOf ROWS (dZ i)=some [((cN i:Nat):Int),((cI i:Nat):Int),((cO i:Nat):Int)]:=match i with
 | 0=>by show rowOf ROWS "give" =some [0,0,1];decide +kernel
 | 1=>by show rowOf ROWS "take" =some [0,1,0];decide +kernel
 | 2=>by show rowOf ROWS "pass" =some [0,1,1];decide +kernel
 | 3=>by show rowOf ROWS "copy" =some [0,1,2];decide +kernel
 | 4=>by show rowOf ROWS "turn" =some [2,1,1];decide +kernel
 | 5=>by show rowOf ROWS "heap" =some [1,1,1];decide +kernel
 | 6=>by show rowOf ROWS "add" =some [0,2,1];decide +kernel
 | 7=>by show rowOf ROWS "less" =some [0,2,1];decide +kernel
 | 8=>by show rowOf ROWS "order" =some [0,2,2];decide +kernel
 | 9=>by show rowOf ROWS "choose" =some [0,3,1];decide +kernel
 | n+10=>by show rowOf ROWS "split" =some [0,2,2];decide +kernel
theorem mR (T:Txt w K mg t) (i:Nat):Cls K (cls t i):=match i with
 | 0=>T.c_Give
 | 1=>T.c_Take
 | 2=>T.c_Pass
 | 3=>T.c_Copy
 | 4=>T.c_Turn
 | 5=>T.c_Heap
 | 6=>T.c_Add
 | 7=>T.c_Less
 | 8=>T.c_Order
 | 9=>T.c_Choose
 | n+10=>T.c_Split
theorem xK (T:Txt w K mg t) (i:Nat):bB K (cls t i) "name" :=match i with
 | 0=>T.na_Give_name
 | 1=>T.na_Take_name
 | 2=>T.na_Pass_name
 | 3=>T.na_Copy_name
 | 4=>T.na_Turn_name
 | 5=>T.na_Heap_name
 | 6=>T.na_Add_name
 | 7=>T.na_Less_name
 | 8=>T.na_Order_name
 | 9=>T.na_Choose_name
 | n+10=>T.na_Split_name
theorem zW (T:Txt w K mg t) (i:Nat):bB K (cls t i) "numbers" :=match i with
 | 0=>T.na_Give_numbers
 | 1=>T.na_Take_numbers
 | 2=>T.na_Pass_numbers
 | 3=>T.na_Copy_numbers
 | 4=>T.na_Turn_numbers
 | 5=>T.na_Heap_numbers
 | 6=>T.na_Add_numbers
 | 7=>T.na_Less_numbers
 | 8=>T.na_Order_numbers
 | 9=>T.na_Choose_numbers
 | n+10=>T.na_Split_numbers
theorem na_ins (T:Txt w K mg t) (i:Nat):bB K (cls t i) "ins" :=match i with
 | 0=>T.na_Give_ins
 | 1=>T.na_Take_ins
 | 2=>T.na_Pass_ins
 | 3=>T.na_Copy_ins
 | 4=>T.na_Turn_ins
 | 5=>T.na_Heap_ins
 | 6=>T.na_Add_ins
 | 7=>T.na_Less_ins
 | 8=>T.na_Order_ins
 | 9=>T.na_Choose_ins
 | n+10=>T.na_Split_ins
theorem na_outs (T:Txt w K mg t) (i:Nat):bB K (cls t i) "outs" :=match i with
 | 0=>T.na_Give_outs
 | 1=>T.na_Take_outs
 | 2=>T.na_Pass_outs
 | 3=>T.na_Copy_outs
 | 4=>T.na_Turn_outs
 | 5=>T.na_Heap_outs
 | 6=>T.na_Add_outs
 | 7=>T.na_Less_outs
 | 8=>T.na_Order_outs
 | 9=>T.na_Choose_outs
 | n+10=>T.na_Split_outs
theorem cN_le (i:Nat):cN i≤2:=match i with
 | 0=>by show 0≤2;decide
 | 1=>by show 0≤2;decide
 | 2=>by show 0≤2;decide
 | 3=>by show 0≤2;decide
 | 4=>by show 2≤2;decide
 | 5=>by show 1≤2;decide
 | 6=>by show 0≤2;decide
 | 7=>by show 0≤2;decide
 | 8=>by show 0≤2;decide
 | 9=>by show 0≤2;decide
 | n+10=>by show 0≤2;decide
theorem cI_le (i:Nat):cI i≤3:=match i with
 | 0=>by show 0≤3;decide
 | 1=>by show 1≤3;decide
 | 2=>by show 1≤3;decide
 | 3=>by show 1≤3;decide
 | 4=>by show 1≤3;decide
 | 5=>by show 1≤3;decide
 | 6=>by show 2≤3;decide
 | 7=>by show 2≤3;decide
 | 8=>by show 2≤3;decide
 | 9=>by show 3≤3;decide
 | n+10=>by show 2≤3;decide
theorem cO_le (i:Nat):cO i≤2:=match i with
 | 0=>by show 1≤2;decide
 | 1=>by show 0≤2;decide
 | 2=>by show 1≤2;decide
 | 3=>by show 2≤2;decide
 | 4=>by show 1≤2;decide
 | 5=>by show 1≤2;decide
 | 6=>by show 1≤2;decide
 | 7=>by show 1≤2;decide
 | 8=>by show 2≤2;decide
 | 9=>by show 1≤2;decide
 | n+10=>by show 2≤2;decide
theorem vQ {f:Str} {y:V} {fs:List (Str×V)} {n:Nat} (h:fs.length≤n):(bu f y fs).length≤n+1:=Nat.le_trans (uw f y fs) (Nat.succ_le_succ h)
def Af (nm:V) (tn ti to:Addr):List (Str×V):=bu "outs" (.ref to) (bu "ins" (.ref ti) (bu "numbers" (.ref tn) (bu "name" nm [])))
theorem vH (nm:V) (tn ti to:Addr):(Af nm tn ti to).lookup ("name" :Str)=some nm:=by
 unfold Af
 rw [aM,if_neg (by decide +kernel),aM,if_neg (by decide +kernel),aM,if_neg (by decide +kernel),aM,if_pos rfl]
theorem flds_numbers (nm:V) (tn ti to:Addr):(Af nm tn ti to).lookup ("numbers" :Str)=some (.ref tn):=by
 unfold Af
 rw [aM,if_neg (by decide +kernel),aM,if_neg (by decide +kernel),aM,if_pos rfl]
theorem flds_ins (nm:V) (tn ti to:Addr):(Af nm tn ti to).lookup ("ins" :Str)=some (.ref ti):=by
 unfold Af
 rw [aM,if_neg (by decide +kernel),aM,if_pos rfl]
theorem flds_outs (nm:V) (tn ti to:Addr):(Af nm tn ti to).lookup ("outs" :Str)=some (.ref to):=by
 unfold Af
 rw [aM,if_pos rfl]
theorem flds_no (nm:V) (tn ti to:Addr) {m:Str} (h1:¬m= "outs") (h2:¬m= "ins") (h3:¬m= "numbers") (h4:¬m= "name"):(Af nm tn ti to).lookup m=none:=by
 unfold Af
 rw [aM,if_neg h1,aM,if_neg h2,aM,if_neg h3,aM,if_neg h4]
 all_goals rfl
structure PartAt (K:PySem.W.Frag) (t:Adr) (H:Hp) (p:Addr) (i:Nat) (nm:V) (ns is os:List V):Prop where
 ex:∃dx tn ti to,H p=some (.ins (cls t i) dx (Af nm tn ti to))∧SqT K H tn ns∧SqT K H ti is∧SqT K H to os
theorem PartAt.same {H H':Hp} {p:Addr} {i:Nat} {nm:V} {ns is os:List V} (h:PartAt K t H p i nm ns is os) (s:aO H H'):PartAt K t H' p i nm ns is os:=by
 obtain⟨dx,tn,ti,to,h1,h2,h3,h4⟩:=h
 exact⟨dx,tn,ti,to,s _ _ h1,s.seqT h2,s.seqT h3,s.seqT h4⟩
def iY (i:Nat):Sp:=fun vs H Q _=>∃x,vs=[x]∧Q (.str (dZ i)) H
def nV (j:Nat):V:=.int (j:Nat)
def Val (v:V):Prop:=∃n:Int,v=.int n∧0≤n∧n <1000000000
inductive Flat:PyData→Prop
 | non:Flat .none
 | int (i:Int):Flat (.int i)
def cu (a b:Int):Int:=((((a % 2147483647 * 48271+7919 * b+11) % 2147483647) * ((a % 2147483647 * 48271+7919 * b+11) % 2147483647) % 2147483629+613 * b) * (((a % 2147483647 * 48271+7919 * b+11) % 2147483647) * ((a % 2147483647 * 48271+7919 * b+11) % 2147483647) % 2147483629)) % 2147483587
theorem yV (a b:Int):0≤cu a b:=Int.emod_nonneg _ (by decide)
def gj (ns:List Int) (j:Nat):Int:=(ns[j]?).getD (41 * (j:Int)+3)
def tW (a b:Int):Int:=if cu a b / 7 % 3=0 then cu a b % 5 else if cu a b / 7 % 3=1 then cu a b % 10 ^ 9 else 10 ^ 9 - 1 - cu a b % 3
theorem vK (a b:Int):0≤tW a b∧tW a b <1000000000:=by
 unfold tW
 have h0:=yV a b
 generalize cu a b=n at h0
 split
 ·omega
 ·split
  ·have h1:=Int.emod_lt_of_pos n (show(0:Int) <10 ^ 9 by decide)
   have h2:=Int.emod_nonneg n (show(10:Int) ^ 9≠0 by decide)
   exact⟨h2,h1⟩
  ·have h1:=Int.emod_lt_of_pos n (show(0:Int) <3 by decide)
   have h2:=Int.emod_nonneg n (show(3:Int)≠0 by decide)
   have e:(10:Int) ^ 9=1000000000:=by decide
   rw [e]
   omega
def low (c:Nat):Bool:=decide (97≤c) && decide (c≤122)
def fig (c:Nat):Bool:=decide (48≤c) && decide (c≤57)
def nameB (x:Str):Bool:=match x.cps.toList with
 | []=>false
 | c:: r=>decide (r.length≤7) && (low c && (c:: r).all fun d=>low d || fig d)
theorem iJ (x:Str):x.cps.toList.length=x.length:=by simp [Str.length]
theorem Ar:∀(ws:List Str),(Str.join Str.empty ws).cps.toList=(ws.map fun w=>w.cps.toList).flatten
 | []=>rfl
 | [w]=>by simp [Str.join]
 | w:: v:: r=>by
  have ih:=Ar (v:: r)
  show(w.cps ++ #[] ++ (Str.join Str.empty (v:: r)).cps).toList=_
  rw [Array.toList_append,ih]
  simp
theorem sum_le {n:Nat}:∀(ws:List Str),(∀w∈ws,w.length≤n)→(ws.map (·.length)).sum≤ws.length * n
 | [],_=>by simp
 | w:: r,h=>by
  have h1:=h w (by simp)
  have h2:=sum_le r fun v hv=>h v (by simp [hv])
  simp only [List.map_cons,List.sum_cons,List.length_cons,Nat.add_mul]
  omega
def ltc (n:Int):Nat:=97+(n % 26).toNat
theorem ltc_low (n:Int):low (ltc n)=true:=by
 unfold low ltc
 have h0:=Int.emod_nonneg n (show(26:Int)≠0 by decide)
 have h1:=Int.emod_lt_of_pos n (show(0:Int) <26 by decide)
 simp
 omega
abbrev LT:Str:= "abcdefghijklmnopqrstuvwxyz"
theorem lt_len:LT.length=26:=by decide +kernel
theorem lt_codes:LT.cps.toList=List.range' 97 26:=by decide +kernel
theorem lt_at (n:Int):atI LT.cps.toList (n % 26)=some (ltc n):=by
 have h0:=Int.emod_nonneg n (show(26:Int)≠0 by decide)
 have h1:=Int.emod_lt_of_pos n (show(0:Int) <26 by decide)
 obtain⟨j,hj⟩:∃j:Nat,n % 26=(j:Int):=⟨(n % 26).toNat,by omega⟩
 unfold ltc
 rw [hj,lt_codes]
 exact aQ (by rw [List.getElem?_range' (by omega)];simp)
def gq (a:Int):List Nat:=(List.range (cu a 50 % 7).toNat).map fun j=>ltc (cu a (60+(j:Nat)))
def qw (a:Int):Nat:=(cu a 51 % (cu a 50 % 7+1)).toNat
def numC (n:Nat):List Nat:=(toString (Int.ofNat n):Str).cps.toList
def yD (a:Int) (k:Nat):List Nat:=if cu a 52 % 3=0 then ltc (cu a 53):: numC (cu a 54 % 1000+37 * (k:Int)).toNat else(gq a).take (qw a) ++ ltc (cu a 55+k):: (gq a).drop (qw a)
def aG (a:Int) (k:Nat):Str:=⟨(yD a k).toArray⟩
def undig (l:List Nat):Nat:=l.foldl (fun r c=>10 * r+(c - 48)) 0
theorem num_tab:(List.range 2000).all (fun i=>(numC i).all fig && decide ((numC i).length≤4) && decide (undig (numC i)=i))=true:=by decide +kernel
theorem vO {n:Nat} (h:n <2000):(numC n).all fig=true∧(numC n).length≤4∧undig (numC n)=n:=by
 have z:=List.all_eq_true.mp num_tab n (List.mem_range.mpr h)
 simp only [Bool.and_eq_true,decide_eq_true_eq] at z
 exact⟨z.1.1,z.1.2,z.2⟩
theorem z7 (a:Int):(gq a).length≤6∧((gq a).length:Int)=cu a 50 % 7:=by
 unfold gq
 have h0:=Int.emod_nonneg (cu a 50) (show(7:Int)≠0 by decide)
 have h1:=Int.emod_lt_of_pos (cu a 50) (show(0:Int) <7 by decide)
 rw [lM,List.length_range]
 omega
theorem spot_le (a:Int):qw a≤(gq a).length:=by
 have h:=(z7 a).2
 unfold qw
 have h0:=Int.emod_nonneg (cu a 50) (show(7:Int)≠0 by decide)
 have h1:=Int.emod_lt_of_pos (cu a 51) (show(0:Int) <cu a 50 % 7+1 by omega)
 have h2:=Int.emod_nonneg (cu a 51) (show cu a 50 % 7+1≠0 by omega)
 omega
theorem zH {x:Str} {c:Nat} {r:List Nat} (e:x.cps.toList=c:: r) (h:r.length≤7) (hc:low c=true) (ha:∀d∈r,low d=true∨fig d=true):nameB x=true:=by
 unfold nameB
 rw [e]
 simp only [Bool.and_eq_true,decide_eq_true_eq,List.all_eq_true,Bool.or_eq_true]
 refine⟨h,hc,fun d hd=>?_⟩
 rcases List.mem_cons.mp hd with rfl | hd
 ·exact .inl hc
 ·exact ha d hd
theorem zE (a:Int) (k:Nat):(aG a k).cps.toList=yD a k:=by simp [aG]
theorem sO (a:Int) {k:Nat} (hk:k <26):nameB (aG a k)=true:=by
 have h0:=Int.emod_nonneg (cu a 54) (show(1000:Int)≠0 by decide)
 have h1:=Int.emod_lt_of_pos (cu a 54) (show(0:Int) <1000 by decide)
 have e:=zE a k
 unfold yD at e
 split at e
 ·obtain⟨n1,n2,_⟩:=vO (n:=(cu a 54 % 1000+37 * (k:Int)).toNat) (by omega)
  exact zH e (by omega) (ltc_low _) fun c hc=>.inr (List.all_eq_true.mp n1 c hc)
 ·have b1:=(z7 a).1
  have b2:=spot_le a
  have all:∀c∈(gq a).take (qw a) ++ ltc (cu a 55+k):: (gq a).drop (qw a),low c=true:=fun c hc=>by
   have hb:∀c∈gq a,low c=true:=fun c hc=>by
    unfold gq at hc
    obtain⟨j,_,rfl⟩:=List.mem_map.mp hc
    exact ltc_low _
   rcases List.mem_append.mp hc with h | h
   ·exact hb c (List.mem_of_mem_take h)
   ·rcases List.mem_cons.mp h with rfl | h
    ·exact ltc_low _
    ·exact hb c (List.mem_of_mem_drop h)
  have len:((gq a).take (qw a) ++ ltc (cu a 55+k):: (gq a).drop (qw a)).length≤7:=by
   rw [lP,List.length_take,List.length_cons,List.length_drop]
   omega
  have ne:(gq a).take (qw a) ++ ltc (cu a 55+k):: (gq a).drop (qw a)≠[]:=by simp
  generalize (gq a).take (qw a) ++ ltc (cu a 55+k):: (gq a).drop (qw a)=l at all len ne e
  obtain⟨c,r,rfl⟩:=List.exists_cons_of_ne_nil ne
  rw [List.length_cons] at len
  exact zH e (by omega) (all c List.mem_cons_self) fun d hd=>.inl (all d (List.mem_cons_of_mem _ hd))
theorem word_len (a:Int) {k:Nat} (hk:k <26):(aG a k).length≤100:=by
 have h:=sO a hk
 unfold nameB at h
 rw [←iJ]
 split at h
 ·simp_all
 ·rename_i e
  rw [e]
  simp only [Bool.and_eq_true,decide_eq_true_eq] at h
  rw [List.length_cons]
  omega
theorem word_inj (a:Int) {j k:Nat} (hj:j <26) (hk:k <26) (h:aG a j=aG a k):j=k:=by
 have e:yD a j=yD a k:=by
  have:=congrArg (fun s:Str=>s.cps.toList) h
  simpa [aG] using this
 unfold yD at e
 split at e
 ·have h0:=Int.emod_nonneg (cu a 54) (show(1000:Int)≠0 by decide)
  have h1:=Int.emod_lt_of_pos (cu a 54) (show(0:Int) <1000 by decide)
  have e2:=congrArg undig (List.cons.inj e).2
  rw [(vO (by omega)).2.2,(vO (by omega)).2.2] at e2
  omega
 ·have e2:=(List.cons.inj (List.append_cancel_left e)).1
  unfold ltc at e2
  omega
namespace Drawn
variable {S:Type}
structure PartD (S:Type) where
 kind:Nat
 name:S
 nums:List Int
 ins:List S
 outs:List S
structure NS (S:Type) where
 lanes:List S
 parts:List (PartD S)
 opens:List S
 back:List S
inductive Conn (ps:List (PartD S)):S→S→Prop
 | refl (x:S):Conn ps x x
 | step {x y z:S} {p:PartD S}:p∈ps→x∈p.ins ++ p.outs→y∈p.ins ++ p.outs→Conn ps y z→Conn ps x z
theorem Conn.trans {ps:List (PartD S)} {x y z:S} (h:Conn ps x y) (k:Conn ps y z):Conn ps x z:=by
 induction h with
 | refl _=>exact k
 | step hp hx hy _ ih=>exact .step hp hx hy (ih k)
theorem Conn.symm {ps:List (PartD S)} {x y:S} (h:Conn ps x y):Conn ps y x:=by
 induction h with
 | refl _=>exact .refl _
 | step hp hx hy _ ih=>exact ih.trans (.step hp hy hx (.refl _))
theorem Conn.mono {ps qs:List (PartD S)} (hs:∀p∈ps,p∈qs) {x y:S} (h:Conn ps x y):Conn qs x y:=by
 induction h with
 | refl _=>exact .refl _
 | step hp hx hy _ ih=>exact .step (hs _ hp) hx hy ih
theorem Conn.part {ps:List (PartD S)} {p:PartD S} (hp:p∈ps) {x y:S} (hx:x∈p.ins ++ p.outs) (hy:y∈p.ins ++ p.outs):Conn ps x y:=.step hp hx hy (.refl _)
structure WF (ns:NS S):Prop where
 nod:ns.lanes.Nodup
 outs:((ns.parts.flatMap (·.outs)) ++ ns.back).Perm ns.lanes
 ins:((ns.parts.flatMap (·.ins)) ++ ns.opens).Perm ns.lanes
 hang:∀p∈ns.parts,∃x∈p.ins ++ p.outs,∃o∈ns.opens,Conn ns.parts x o
 touch:∀p∈ns.parts,p.ins ++ p.outs≠[]
theorem WF.add {ns:NS S} (w:WF ns) {p:PartD S} {newl opens' back':List S} (hn:(ns.lanes ++ newl).Nodup) (ho:(p.outs ++ back').Perm (ns.back ++ newl)) (hi:(p.ins ++ opens').Perm (ns.opens ++ newl))
  (hg:∀o∈ns.opens,∃o'∈opens',Conn (ns.parts ++ [p]) o o') (hp:∃x∈p.ins ++ p.outs,∃o∈opens',Conn (ns.parts ++ [p]) x o):
  WF { lanes:=ns.lanes ++ newl,parts:=ns.parts ++ [p],opens:=opens',back:=back' }:=by
 have mono:∀q∈ns.parts,q∈ns.parts ++ [p]:=fun q hq=>List.mem_append.mpr (.inl hq)
 refine⟨hn,?_,?_,?_,?_⟩
 ·have e:(ns.parts ++ [p]).flatMap (·.outs)=ns.parts.flatMap (·.outs) ++ p.outs:=by simp
  show(((ns.parts ++ [p]).flatMap (·.outs)) ++ back').Perm _
  rw [e,List.append_assoc]
  exact(ho.append_left _).trans (by rw [←List.append_assoc];exact w.outs.append_right _)
 ·have e:(ns.parts ++ [p]).flatMap (·.ins)=ns.parts.flatMap (·.ins) ++ p.ins:=by simp
  show(((ns.parts ++ [p]).flatMap (·.ins)) ++ opens').Perm _
  rw [e,List.append_assoc]
  exact(hi.append_left _).trans (by rw [←List.append_assoc];exact w.ins.append_right _)
 ·intro q hq
  rcases List.mem_append.mp hq with h | h
  ·obtain⟨x,hx,o,hoq,c⟩:=w.hang q h
   obtain⟨o',ho',c'⟩:=hg o hoq
   exact⟨x,hx,o',ho',(c.mono mono).trans c'⟩
  ·rw [List.mem_singleton] at h
   subst h
   exact hp
 ·intro q hq
  rcases List.mem_append.mp hq with h | h
  ·exact w.touch q h
  ·rw [List.mem_singleton] at h
   subst h
   obtain⟨x,hx,_⟩:=hp
   intro z
   rw [z] at hx
   cases hx
theorem WF.start:WF (⟨[],[],[],[]⟩:NS S):=⟨List.nodup_nil,.refl _,.refl _,fun p hp=>(by cases hp),fun p hp=>(by cases hp)⟩
theorem WF.backLane {ns:NS S} (w:WF ns) {b:S} (hn:(ns.lanes ++ [b]).Nodup):WF { ns with lanes:=ns.lanes ++ [b],opens:=ns.opens ++ [b],back:=ns.back ++ [b] }:=by
 refine⟨hn,?_,?_,fun p hp=>?_,w.touch⟩
 ·show(_ ++ (ns.back ++ [b])).Perm _
  rw [←List.append_assoc]
  exact w.outs.append_right _
 ·show(_ ++ (ns.opens ++ [b])).Perm _
  rw [←List.append_assoc]
  exact w.ins.append_right _
 ·obtain⟨x,hx,o,ho,c⟩:=w.hang p hp
  exact⟨x,hx,o,List.mem_append.mpr (.inl ho),c⟩
theorem WF.part {ns:NS S} (w:WF ns) {p:PartD S} {rest:List S} (hi:ns.opens.Perm (p.ins ++ rest)) (hf:(ns.lanes ++ p.outs).Nodup) (ho:p.outs≠[]):
  WF { ns with lanes:=ns.lanes ++ p.outs,parts:=ns.parts ++ [p],opens:=rest ++ p.outs }:=by
 have hp:p∈ns.parts ++ [p]:=by simp
 obtain⟨o1,hoo⟩:∃o1,o1∈p.outs:=List.exists_mem_of_ne_nil _ ho
 have h1:o1∈rest ++ p.outs:=List.mem_append.mpr (.inr hoo)
 refine w.add hf List.perm_append_comm ?_ (fun o h=>?_) ⟨o1,List.mem_append.mpr (.inr hoo),o1,h1,.refl _⟩
 ·rw [←List.append_assoc]
  exact hi.symm.append_right _
 ·rcases List.mem_append.mp (hi.mem_iff.mp h) with h | h
  ·exact⟨o1,h1,Conn.part hp (List.mem_append.mpr (.inl h)) (List.mem_append.mpr (.inr hoo))⟩
  ·exact⟨o,List.mem_append.mpr (.inl h),.refl _⟩
theorem WF.take {ns:NS S} (w:WF ns) {p:PartD S} {rest:List S} {y x:S} (hi:p.ins=[y]) (ho:p.outs=[]) (hr:ns.opens.Perm (y:: rest)) (hx:x∈rest) (c:Conn ns.parts y x):
  WF { ns with parts:=ns.parts ++ [p],opens:=rest }:=by
 have mono:∀q∈ns.parts,q∈ns.parts ++ [p]:=fun q hq=>List.mem_append.mpr (.inl hq)
 have:=w.add (p:=p) (newl:=[]) (opens':=rest) (back':=ns.back) (by rw [List.append_nil];exact w.nod) (by rw [ho,List.append_nil];exact .refl _) (by rw [hi,List.append_nil];exact hr.symm)
  (fun o h=>by
   rcases List.mem_cons.mp (hr.mem_iff.mp h) with rfl | h
   ·exact⟨x,hx,c.mono mono⟩
   ·exact⟨o,h,.refl _⟩) ⟨y,by simp [hi],x,hx,c.mono mono⟩
 rw [List.append_nil] at this
 exact this
theorem WF.loop {ns:NS S} (w:WF ns) {p:PartD S} {rest:List S} {one own fresh:S} (hi:p.ins=[one,own]) (ho:p.outs=[own,fresh]) (hr:ns.opens.Perm (one:: rest)) (hn:(ns.lanes ++ [own,fresh]).Nodup):
  WF { ns with lanes:=ns.lanes ++ [own,fresh],parts:=ns.parts ++ [p],opens:=rest ++ [fresh] }:=by
 have hp:p∈ns.parts ++ [p]:=by simp
 have hf:fresh∈rest ++ [fresh]:=by simp
 refine w.add hn (by rw [ho];exact List.perm_append_comm) ?_ (fun o h=>?_) ⟨fresh,by simp [ho],fresh,hf,.refl _⟩
 ·rw [hi]
  show(one:: own:: (rest ++ [fresh])).Perm (ns.opens ++ [own,fresh])
  refine .trans ?_ (hr.symm.append_right _)
  refine .cons _ ?_
  show(own:: (rest ++ [fresh])).Perm (rest ++ ([own] ++ [fresh]))
  rw [←List.append_assoc]
  exact(List.perm_append_comm (l₁:=[own]) (l₂:=rest)).append_right [fresh]
 ·rcases List.mem_cons.mp (hr.mem_iff.mp h) with rfl | h
  ·exact⟨fresh,hf,Conn.part hp (by simp [hi]) (by simp [ho])⟩
  ·exact⟨o,List.mem_append.mpr (.inl h),.refl _⟩
theorem WF.closeBack {ns:NS S} (w:WF ns) {p:PartD S} {rest:List S} {one b fresh:S} (hi:p.ins=[one]) (ho:p.outs=[b,fresh]) (hb:ns.back.Perm (b:: rest)) (h1:ns.opens=[one]) (hn:(ns.lanes ++ [fresh]).Nodup):
  WF { lanes:=ns.lanes ++ [fresh],parts:=ns.parts ++ [p],opens:=[fresh],back:=rest }:=by
 have hp:p∈ns.parts ++ [p]:=by simp
 refine w.add hn ?_ (by rw [hi,h1]) (fun o h=>?_) ⟨fresh,by simp [ho],fresh,by simp,.refl _⟩
 ·rw [ho]
  show(b:: fresh:: rest).Perm (ns.back ++ [fresh])
  refine .trans ?_ (hb.symm.append_right _)
  exact .cons _ (List.perm_append_comm (l₁:=[fresh]) (l₂:=rest))
 ·rw [h1,List.mem_singleton] at h
  subst h
  exact⟨fresh,by simp,Conn.part hp (by simp [hi]) (by simp [ho])⟩
theorem WF.last {ns:NS S} (w:WF ns) {p:PartD S} {y:S} (hb:ns.back=[]) (h1:ns.opens=[y]) (hi:p.ins=[y]) (ho:p.outs=[]):
  ((ns.parts ++ [p]).flatMap (·.outs)).Perm ns.lanes∧((ns.parts ++ [p]).flatMap (·.ins)).Perm ns.lanes∧∀q∈ns.parts ++ [p],∃x∈q.ins ++ q.outs,Conn (ns.parts ++ [p]) x y:=by
 have mono:∀q∈ns.parts,q∈ns.parts ++ [p]:=fun q hq=>List.mem_append.mpr (.inl hq)
 refine⟨?_,?_,?_⟩
 ·have e:(ns.parts ++ [p]).flatMap (·.outs)=ns.parts.flatMap (·.outs):=by simp [ho]
  rw [e]
  have:=w.outs
  rw [hb,List.append_nil] at this
  exact this
 ·have e:(ns.parts ++ [p]).flatMap (·.ins)=ns.parts.flatMap (·.ins) ++ [y]:=by simp [hi]
  rw [e]
  have:=w.ins
  rw [h1] at this
  exact this
 ·intro q hq
  rcases List.mem_append.mp hq with h | h
  ·obtain⟨x,hx,o,hoq,c⟩:=w.hang q h
   rw [h1,List.mem_singleton] at hoq
   subst hoq
   exact⟨x,hx,c.mono mono⟩
  ·rw [List.mem_singleton] at h
   subst h
   exact⟨y,by simp [hi],.refl _⟩
theorem all_joined {ps:List (PartD S)} {J:PartD S→Prop} (closed:∀(l:S) (p q:PartD S),p∈ps→q∈ps→l∈p.ins ++ p.outs→l∈q.ins ++ q.outs→J p→J q) {y:S} (hang:∀q∈ps,∃x∈q.ins ++ q.outs,Conn ps x y)
  {p0:PartD S} (hp0:p0∈ps) (h0:J p0):∀q∈ps,J q:=by
 have go:∀{x z:S},Conn ps x z→(∃p∈ps,x∈p.ins ++ p.outs∧J p)→∃p∈ps,z∈p.ins ++ p.outs∧J p:=by
  intro x z c
  induction c with
  | refl _=>exact id
  | step hp hx hy _ ih=>
   rintro⟨p',hp',hx',hJ⟩
   exact ih ⟨_,hp,hy,closed _ _ _ hp' hp hx' hx hJ⟩
 obtain⟨x0,hx0,c0⟩:=hang p0 hp0
 have hy:=go c0 ⟨p0,hp0,hx0,h0⟩
 intro q hq
 obtain⟨x,hx,c⟩:=hang q hq
 obtain⟨p',hp',hx',hJ⟩:=go c.symm hy
 exact closed _ _ _ hp' hq hx' hx hJ
theorem one_giver {ps:List (PartD S)} (f:PartD S→List S) (h:(ps.flatMap f).Nodup) {i j:Nat} {p q:PartD S} {l:S} (hi:ps[i]?=some p) (hj:ps[j]?=some q) (hp:l∈f p) (hq:l∈f q):i=j:=by
 induction ps generalizing i j with
 | nil=>cases hi
 | cons r rs ih=>
  rw [List.flatMap_cons,List.nodup_append] at h
  obtain⟨h1,h2,h3⟩:=h
  have far:∀{k:Nat} {s:PartD S},rs[k]?=some s→l∈f s→l∈rs.flatMap f:=fun e hs=>List.mem_flatMap.mpr ⟨_,List.mem_of_getElem? e,hs⟩
  match i,j with
  | 0,0=>rfl
  | 0,j+1=>
   simp only [List.getElem?_cons_zero,Option.some.injEq] at hi
   subst hi
   exact absurd rfl (h3 l hp l (far (by simpa using hj) hq))
  | i+1,0=>
   simp only [List.getElem?_cons_zero,Option.some.injEq] at hj
   subst hj
   exact absurd rfl (h3 l hq l (far (by simpa using hi) hp))
  | i+1,j+1=>exact congrArg (· +1) (ih h2 (by simpa using hi) (by simpa using hj))
end Drawn
structure LaneD where
 name:Str
 room:Int
 first:List Int
def LaneD.ok (l:LaneD):Prop:=1≤l.room∧l.room≤10∧(l.first.length:Int)≤l.room∧∀v∈l.first,0≤v∧v <1000000000
abbrev PD:=Drawn.PartD Str
def PartOk (p:PD):Prop:=p.kind <11∧p.nums.length=cN p.kind∧p.ins.length=cI p.kind∧p.outs.length=cO p.kind∧∀v∈p.nums,0≤v∧v <1000000000
def bR (E:List Addr) (H:Hp):Hp:=fun b=>if b∈E then none else H b
theorem cY {E:List Addr} {H:Hp}:aO (bR E H) H:=fun b o e=>by
 unfold bR at e
 split at e
 ·cases e
 ·exact e
theorem dM {E:List Addr} {H:Hp} {p:Addr} {o:HO} (h:H p=some o) (n:p∉E):bR E H p=some o:=by
 unfold bR
 rw [if_neg n]
 exact h
theorem dN {E:List Addr} {H:Hp} {a:Addr} {o:HO} (h:a∈E):bR E (upd H a o)=bR E H:=by
 funext b
 unfold bR
 split
 ·rfl
 ·rename_i n
  rw [aK (fun z=>n (by rw [z];exact h))]
theorem zP {E:List Addr} {H H':Hp} (s:aO H H') (hE:∀a∈E,∃o,H a=some o):aO (bR E H) (bR E H'):=fun b o e=>by
 have e':=cY b o e
 unfold bR at e ⊢
 split at e
 ·cases e
 ·rename_i n
  rw [if_neg n]
  exact s _ _ e'
inductive All2 {α β:Type} (R:α→β→Prop):List α→List β→Prop
 | nil:All2 R [] []
 | cons {a:α} {b:β} {l:List α} {m:List β}:R a b→All2 R l m→All2 R (a:: l) (b:: m)
theorem All2.imp {α β:Type} {R R':α→β→Prop} (h:∀a b,R a b→R' a b):∀{l:List α} {m:List β},All2 R l m→All2 R' l m
 | _,_,.nil=>.nil
 | _,_,.cons r t=>.cons (h _ _ r) (t.imp h)
theorem All2.length {α β:Type} {R:α→β→Prop}:∀{l:List α} {m:List β},All2 R l m→l.length=m.length
 | _,_,.nil=>rfl
 | _,_,.cons _ t=>by rw [List.length_cons,List.length_cons,t.length]
theorem All2.app {α β:Type} {R:α→β→Prop}:∀{l l':List α} {m m':List β},All2 R l m→All2 R l' m'→All2 R (l ++ l') (m ++ m')
 | _,_,_,_,.nil,h=>h
 | _,_,_,_,.cons r t,h=>.cons r (t.app h)
theorem All2.get {α β:Type} {R:α→β→Prop}:∀{l:List α} {m:List β},All2 R l m→∀{i:Nat} {a:α},l[i]?=some a→∃b,m[i]?=some b∧R a b
 | _,_,.nil,_,_,h=>by simp at h
 | _,_,.cons r t,0,_,h=>by
  simp only [List.getElem?_cons_zero,Option.some.injEq] at h
  subst h
  exact⟨_,rfl,r⟩
 | _,_,.cons r t,i+1,_,h=>t.get (i:=i) (by simpa using h)
theorem All2.take {α β:Type} {R:α→β→Prop}:∀{l:List α} {m:List β},All2 R l m→∀n:Nat,All2 R (l.take n) (m.take n)
 | _,_,.nil,_=>by simp;exact .nil
 | _,_,.cons r t,0=>by simp;exact .nil
 | _,_,.cons r t,n+1=>by simp;exact .cons r (t.take n)
theorem All2.drop {α β:Type} {R:α→β→Prop}:∀{l:List α} {m:List β},All2 R l m→∀n:Nat,All2 R (l.drop n) (m.drop n)
 | _,_,.nil,_=>by simp;exact .nil
 | _,_,.cons r t,0=>.cons r t
 | _,_,.cons r t,n+1=>by simp;exact t.drop n
def qM (G:Hp) (v:V) (l:LaneD):Prop:=∃q f,v=.ref q∧G q=some (.tup [.str l.name,.int l.room,.ref f])∧G f=some (.lst (l.first.map V.int))
def oH (G:Hp) (v:V) (p:PD):Prop:=∃q a1 a2 a3,v=.ref q∧G q=some (.tup [.str (dZ p.kind),.str p.name,.ref a1,.ref a2,.ref a3])∧G a1=some (.lst (p.nums.map V.int))∧G a2=some (.lst (p.ins.map V.str))∧G a3=some (.lst (p.outs.map V.str))
theorem qM.same {G G':Hp} {v:V} {l:LaneD} (h:qM G v l) (s:aO G G'):qM G' v l:=by
 obtain⟨q,f,e,h1,h2⟩:=h
 exact⟨q,f,e,s _ _ h1,s _ _ h2⟩
theorem oH.same {G G':Hp} {v:V} {p:PD} (h:oH G v p) (s:aO G G'):oH G' v p:=by
 obtain⟨q,a1,a2,a3,e,h1,h2,h3,h4⟩:=h
 exact⟨q,a1,a2,a3,e,s _ _ h1,s _ _ h2,s _ _ h3,s _ _ h4⟩
structure Dw where
 S:Addr
 L:Addr
 P:Addr
 O:Addr
 c3:Int
 c4:Int
abbrev Dw.E (d:Dw):List Addr:=[d.L,d.P,d.O]
structure DAt (d:Dw) (H:Hp) (ls:List LaneD) (ps:List PD) (os:List Str):Prop where
 top:bR d.E H d.S=some (.lst [.ref d.L,.ref d.P,.ref d.O,.int d.c3,.int d.c4])
 lanes:∃xs,H d.L=some (.lst xs)∧All2 (qM (bR d.E H)) xs ls
 parts:∃xs,H d.P=some (.lst xs)∧All2 (oH (bR d.E H)) xs ps
 opens:H d.O=some (.lst (os.map V.str))
 ne:d.L≠d.P∧d.L≠d.O∧d.P≠d.O
 lok:∀l∈ls,l.ok
 pok:∀p∈ps,PartOk p
 ln:ls.map (·.name)=(List.range ls.length).map (aG d.c3)
 pn:ps.map (·.name)=(List.range ps.length).map (aG d.c4)
theorem DAt.seqS {d:Dw} {H:Hp} {ls:List LaneD} {ps:List PD} {os:List Str} (D:DAt d H ls ps os):SqL K H d.S [.ref d.L,.ref d.P,.ref d.O,.int d.c3,.int d.c4]:=SqL.of (cY _ _ D.top)
theorem DAt.has {d:Dw} {H:Hp} {ls:List LaneD} {ps:List PD} {os:List Str} (D:DAt d H ls ps os) {a:Addr} (h:a∈d.E):∃o,H a=some o:=by
 obtain⟨_,e1,_⟩:=D.lanes
 obtain⟨_,e2,_⟩:=D.parts
 rcases List.mem_cons.mp h with rfl | h
 ·exact⟨_,e1⟩
 ·rcases List.mem_cons.mp h with rfl | h
  ·exact⟨_,e2⟩
  ·rw [List.mem_singleton] at h
   subst h
   exact⟨_,D.opens⟩
theorem DAt.out {d:Dw} {H:Hp} {ls:List LaneD} {ps:List PD} {os:List Str} (D:DAt d H ls ps os) {p:Addr} (h:H p=none):p∉d.E:=fun z=>by
 obtain⟨o,e⟩:=D.has z
 rw [h] at e
 cases e
theorem DAt.keep {d:Dw} {H H':Hp} {ls:List LaneD} {ps:List PD} {os:List Str} (D:DAt d H ls ps os) (s:aO H H'):DAt d H' ls ps os:=by
 obtain⟨xs,e1,a1⟩:=D.lanes
 obtain⟨ys,e2,a2⟩:=D.parts
 have c:=zP (E:=d.E) s (fun a h=>D.has h)
 exact⟨c _ _ D.top,⟨xs,s _ _ e1,a1.imp fun _ _ h=>h.same c⟩,⟨ys,s _ _ e2,a2.imp fun _ _ h=>h.same c⟩,s _ _ D.opens,D.ne,D.lok,D.pok,D.ln,D.pn⟩
theorem DAt.cut {d:Dw} {H H':Hp} {ls:List LaneD} {ps:List PD} {os:List Str} (D:DAt d H ls ps os) (s:aO H H'):aO (bR d.E H) (bR d.E H'):=zP s (fun _ h=>D.has h)
theorem name_next {α:Type} {f:α→Str} {w:Nat→Str} {l:List α} {x:α} (h:l.map f=(List.range l.length).map w) (hx:f x=w l.length):(l ++ [x]).map f=(List.range (l ++ [x]).length).map w:=by
 rw [List.map_append,lP,List.length_singleton,List.range_succ,List.map_append,h,List.map_singleton,List.map_singleton,hx]
theorem DAt.lane {d:Dw} {H:Hp} {ls:List LaneD} {ps:List PD} {os:List Str} (D:DAt d H ls ps os) {v:V} {l:LaneD} (h:qM (bR d.E H) v l) (hl:l.ok) (hn:l.name=aG d.c3 ls.length) {xs:List V} (e:H d.L=some (.lst xs)):
  DAt d (upd H d.L (.lst (xs ++ [v]))) (ls ++ [l]) ps os:=by
 obtain⟨xs',e1,a1⟩:=D.lanes
 obtain⟨ys,e2,a2⟩:=D.parts
 rw [e] at e1
 cases e1
 have c:bR d.E (upd H d.L (.lst (xs ++ [v])))=bR d.E H:=dN (by simp)
 refine⟨by rw [c];exact D.top,⟨_,aq,by rw [c];exact a1.app (.cons h .nil)⟩,⟨ys,by rw [aK (Ne.symm D.ne.1)];exact e2,by rw [c];exact a2⟩,by rw [aK (Ne.symm D.ne.2.1)];exact D.opens,D.ne,fun x hx=>?_,D.pok,name_next D.ln hn,D.pn⟩
 rcases List.mem_append.mp hx with hx | hx
 ·exact D.lok x hx
 ·rw [List.mem_singleton] at hx
  subst hx
  exact hl
theorem DAt.part {d:Dw} {H:Hp} {ls:List LaneD} {ps:List PD} {os:List Str} (D:DAt d H ls ps os) {v:V} {p:PD} (h:oH (bR d.E H) v p) (hl:PartOk p) (hn:p.name=aG d.c4 ps.length) {xs:List V} (e:H d.P=some (.lst xs)):
  DAt d (upd H d.P (.lst (xs ++ [v]))) ls (ps ++ [p]) os:=by
 obtain⟨xs',e1,a1⟩:=D.lanes
 obtain⟨ys,e2,a2⟩:=D.parts
 rw [e] at e2
 cases e2
 have c:bR d.E (upd H d.P (.lst (xs ++ [v])))=bR d.E H:=dN (by simp)
 refine⟨by rw [c];exact D.top,⟨_,by rw [aK D.ne.1];exact e1,by rw [c];exact a1⟩,⟨_,aq,by rw [c];exact a2.app (.cons h .nil)⟩,by rw [aK (Ne.symm D.ne.2.2)];exact D.opens,D.ne,D.lok,fun x hx=>?_,D.ln,name_next D.pn hn⟩
 rcases List.mem_append.mp hx with hx | hx
 ·exact D.pok x hx
 ·rw [List.mem_singleton] at hx
  subst hx
  exact hl
theorem DAt.open {d:Dw} {H:Hp} {ls:List LaneD} {ps:List PD} {os os':List Str} (D:DAt d H ls ps os):DAt d (upd H d.O (.lst (os'.map V.str))) ls ps os':=by
 obtain⟨xs,e1,a1⟩:=D.lanes
 obtain⟨ys,e2,a2⟩:=D.parts
 have c:bR d.E (upd H d.O (.lst (os'.map V.str)))=bR d.E H:=dN (by simp)
 exact⟨by rw [c];exact D.top,⟨xs,by rw [aK D.ne.2.1];exact e1,by rw [c];exact a1⟩,⟨ys,by rw [aK D.ne.2.2];exact e2,by rw [c];exact a2⟩,aq,D.ne,D.lok,D.pok,D.ln,D.pn⟩
theorem qi (a:Int) {n:Nat} (h:n≤26):((List.range n).map (aG a)).Nodup:=by
 induction n with
 | zero=>exact List.nodup_nil
 | succ n ih=>
  rw [List.range_succ,List.map_append,List.nodup_append]
  refine⟨ih (by omega),by simp,fun x hx y hy=>?_⟩
  obtain⟨j,hj,rfl⟩:=List.mem_map.mp hx
  rw [List.map_singleton,List.mem_singleton] at hy
  subst hy
  have hj':=List.mem_range.mp hj
  intro z
  have:=word_inj a (by omega) (by omega) z
  omega
abbrev uG (ls:List LaneD) (ps:List PD) (os back:List Str):Drawn.NS Str:=⟨ls.map (·.name),ps,os,back⟩
theorem DAt.nod {d:Dw} {H:Hp} {ls:List LaneD} {ps:List PD} {os:List Str} (D:DAt d H ls ps os) (h:ls.length≤26):(ls.map (·.name)).Nodup:=by
 rw [D.ln]
 exact qi _ h
theorem WFperm {ns:Drawn.NS Str} (w:Drawn.WF ns) {os:List Str} (h:ns.opens.Perm os):Drawn.WF { ns with opens:=os }:=
 ⟨w.nod,w.outs,(h.symm.append_left _).trans w.ins,fun p hp=>by
  obtain⟨x,hx,o,ho,c⟩:=w.hang p hp
  exact⟨x,hx,o,h.mem_iff.mp ho,c⟩,w.touch⟩
theorem rC {d:Dw} {H:Hp} {ls newl:List LaneD} {ps:List PD} {p:PD} {os ops back:List Str} (w:Drawn.WF (uG ls ps ops back)) (ho:p.outs=newl.map (·.name)) (D:DAt d H (ls ++ newl) (ps ++ [p]) (os ++ newl.map (·.name))) (hi:ops.Perm (p.ins ++ os)) (hne:newl.length≠0) (hl:(ls ++ newl).length≤26):
  Drawn.WF (uG (ls ++ newl) (ps ++ [p]) (os ++ newl.map (·.name)) back):=by
 have nd:=D.nod hl
 rw [List.map_append] at nd
 have:=w.part (p:=p) hi (by rw [ho];exact nd) (by rw [ho];intro z;exact hne (by rw [←lM (f:=fun l:LaneD=>l.name),z];rfl))
 rw [ho] at this
 unfold uG
 rw [List.map_append]
 exact this
structure Nxt (d:Dw) (H H':Hp) (ls:List LaneD) (ps:List PD) (back:List Str) (ls':List LaneD) (ps':List PD) (os':List Str):Prop where
 cut:aO (bR d.E H) (bR d.E H')
 at':DAt d H' ls' ps' os'
 wf:Drawn.WF (uG ls' ps' os' back)
 o1:1≤os'.length
 o4:os'.length≤4
 l2:ls'.length≤ls.length+2
 p2:ps'.length≤ps.length+2
theorem Av {c X Y B:Prop} [Decidable c] (k:B) (hx:c→B→X) (hy:B→Y):if c then X else Y:=by
 split
 ·rename_i h;exact hx h k
 ·exact hy k
theorem hide {t u:TS} {D:Ends} {σ:St} {H:Hp} (h:∀v,v=u→yq t v D σ H):yq t u D σ H:=h u rfl
theorem hideG {i:Nat} {x:V} {t u:TS} {D:Ends} {σ:St} {H:Hp} (h:∀E,E=D→∀v,v=u→yq t v E (σ.set i (some x)) H):gName i x σ H fun σ2 H2=>yq t u D σ2 H2:=h D rfl u rfl
theorem hideD {i:Nat} {x:V} {t:TS} {D:Ends} {σ:St} {H:Hp} (h:∀E,E=D→t E (σ.set i (some x)) H):gName i x σ H fun σ2 H2=>t D σ2 H2:=h D rfl
theorem hideW {t u:TS} {D:Ends} {σ:St} {H:Hp} (h:∀E,E=D→∀v,v=u→yq t v E σ H):yq t u D σ H:=h D rfl u rfl
theorem dC {t u v:TS} {D:Ends} {σ:St} {H:Hp} (hv:v=yq t u) (h:∀w,w=u→yq t w D σ H):v D σ H:=by
 subst hv
 exact h u rfl
theorem DAt.two {d:Dw} {H:Hp} {ls:List LaneD} {ps:List PD} {os:List Str} (D:DAt d H ls ps os) {a1 a2:Addr} {x y:HO} (n1:H a1=none) (n2:upd H a1 x a2=none):
  DAt d (upd (upd H a1 x) a2 y) ls ps os∧bR d.E (upd (upd H a1 x) a2 y) a1=some x∧bR d.E (upd (upd H a1 x) a2 y) a2=some y∧aO (bR d.E H) (bR d.E (upd (upd H a1 x) a2 y)):=by
 have s1:=aC (o:=x) n1
 have s2:=aC (o:=y) n2
 have s:=s1.trans s2
 exact⟨D.keep s,dM (s2 _ _ aq) (D.out n1),dM aq (D.out (s1.free n2)),D.cut s⟩
structure Whole (lanes:List Str) (ps:List PD):Prop where
 nod:lanes.Nodup
 outs:(ps.flatMap (·.outs)).Perm lanes
 ins:(ps.flatMap (·.ins)).Perm lanes
 hang:∃y,∀q∈ps,∃x∈q.ins ++ q.outs,Drawn.Conn ps x y
def lenAt (H:Hp) (a:Addr):Nat:=match H a with
 | some (.lst xs)=>xs.length
 | _=>0
theorem lenAt_eq {H:Hp} {a:Addr} {xs:List V} (h:H a=some (.lst xs)):lenAt H a=xs.length:=by
 unfold lenAt
 rw [h]
theorem modNat (m:Int) {n:Int} {k:Nat} (h0:0 <n) (hk:n=k):∃j:Nat,m % n=(j:Int)∧j <k:=by
 have h1:=Int.emod_nonneg m (Int.ne_of_gt h0)
 have h2:=Int.emod_lt_of_pos m h0
 exact⟨(m % n).toNat,(Int.toNat_of_nonneg h1).symm,by omega⟩
theorem pick3 (m:Int):∃i:Nat,atI [V.str "add",V.str "less",V.str "add"] (m % 3)=some (.str (dZ i))∧(i=6∨i=7):=by
 have key:∀j,j <3→atI [V.str "add",V.str "less",V.str "add"] ((j:Nat):Int)=some (.str (dZ (([6,7,6]:List Nat).getD j 0)))∧(([6,7,6]:List Nat).getD j 0=6∨([6,7,6]:List Nat).getD j 0=7):=by decide +kernel
 obtain⟨j,e,hj⟩:=modNat m (n:=3) (k:=3) (by decide) rfl
 rw [e]
 exact⟨_,key j hj⟩
structure NetD (c3 c4:Int) (ls:List LaneD) (ps:List PD):Prop where
 lok:∀l∈ls,l.ok
 pok:∀p∈ps,PartOk p
 ln:ls.map (·.name)=(List.range ls.length).map (aG c3)
 pn:((List.range ps.length).map (aG c4)).Perm (ps.map (·.name))
 whole:Whole (ls.map (·.name)) ps
 l1:1≤ls.length
 l17:ls.length≤17
 p1:1≤ps.length
 p16:ps.length≤16
structure NetAt (H:Hp) (L P:Addr) (ls:List LaneD) (ps:List PD):Prop where
 lanes:∃xs,H L=some (.lst xs)∧All2 (qM H) xs ls
 parts:∃xs,H P=some (.lst xs)∧All2 (oH H) xs ps
theorem NetAt.same {H H':Hp} {L P:Addr} {ls:List LaneD} {ps:List PD} (h:NetAt H L P ls ps) (s:aO H H'):NetAt H' L P ls ps:=by
 obtain⟨⟨xs,e1,a1⟩,⟨ys,e2,a2⟩⟩:=h
 exact⟨⟨xs,s _ _ e1,a1.imp fun _ _ h=>h.same s⟩,⟨ys,s _ _ e2,a2.imp fun _ _ h=>h.same s⟩⟩
theorem Conn_perm {ps qs:List PD} (h:ps.Perm qs) {x y:Str} (c:Drawn.Conn ps x y):Drawn.Conn qs x y:=c.mono fun _ hp=>h.mem_iff.mp hp
theorem Whole.perm {ns:List Str} {ps qs:List PD} (w:Whole ns ps) (h:ps.Perm qs):Whole ns qs:=by
 obtain⟨y,hy⟩:=w.hang
 exact⟨w.nod,(h.symm.flatMap_right _).trans w.outs,(h.symm.flatMap_right _).trans w.ins,y,fun q hq=>by
  obtain⟨x,hx,c⟩:=hy q (h.mem_iff.mpr hq)
  exact⟨x,hx,Conn_perm h c⟩⟩
theorem rot_perm {α:Type} (l:List α) (n:Nat):l.Perm (l.drop n ++ l.take n):=by
 have h:l.Perm (l.take n ++ l.drop n):=by rw [List.take_append_drop]
 exact h.trans List.perm_append_comm
theorem cutV_from (xs:List V) (g:Nat):oU xs (some (g:Int)) none=xs.drop g:=by
 unfold oU
 rw [HT.sIx_none,HT.vG,←List.length_drop,List.take_length]
 rcases Nat.le_total g xs.length with h | h
 ·rw [Nat.min_eq_left h]
 ·rw [Nat.min_eq_right h,List.drop_length,List.drop_eq_nil_of_le h]
theorem cutV_to (xs:List V) (g:Nat):oU xs none (some (g:Int))=xs.take g:=by
 unfold oU
 rw [HT.sIx_none,HT.vG,List.drop_zero,Nat.sub_zero]
 rcases Nat.le_total g xs.length with h | h
 ·rw [Nat.min_eq_left h]
 ·rw [Nat.min_eq_right h,List.take_length,List.take_of_length_le h]
theorem DAt.init {H:Hp} {S L P O:Addr} (c3 c4:Int) (nL:H L=none) (nP:upd H L (.lst []) P=none) (nO:upd (upd H L (.lst [])) P (.lst []) O=none) (nS:upd (upd (upd H L (.lst [])) P (.lst [])) O (.lst []) S=none):
  DAt ⟨S,L,P,O,c3,c4⟩ (upd (upd (upd (upd H L (.lst [])) P (.lst [])) O (.lst [])) S (.lst [.ref L,.ref P,.ref O,.int c3,.int c4])) [] [] []∧aO H (bR [L,P,O] (upd (upd (upd (upd H L (.lst [])) P (.lst [])) O (.lst [])) S (.lst [.ref L,.ref P,.ref O,.int c3,.int c4])))∧H P=none:=by
 have s1:=aC (o:=.lst []) nL
 have s2:=aC (o:=.lst []) nP
 have s3:=aC (o:=.lst []) nO
 have s4:=aC (o:=.lst [.ref L,.ref P,.ref O,.int c3,.int c4]) nS
 have e1:=s4 _ _ (s3 _ _ (s2 L (.lst []) aq))
 have e2:=s4 _ _ (s3 P (.lst []) aq)
 have e3:=s4 O (.lst []) aq
 have n1:L≠P:=aD (aq (H:=H) (o:=.lst [])) nP
 have n2:L≠O:=aD (s2 L (.lst []) aq) nO
 have n3:P≠O:=aD (aq (H:=upd H L (.lst [])) (o:=.lst [])) nO
 have m1:L≠S:=aD (s3 _ _ (s2 L (.lst []) aq)) nS
 have m2:P≠S:=aD (s3 P (.lst []) aq) nS
 have m3:O≠S:=aD (aq (H:=upd (upd H L (.lst [])) P (.lst [])) (o:=.lst [])) nS
 refine⟨⟨dM aq ?_,⟨[],e1,.nil⟩,⟨[],e2,.nil⟩,e3,⟨n1,n2,n3⟩,(fun _ h=>by cases h),(fun _ h=>by cases h),rfl,rfl⟩,fun b o e=>dM (s4 _ _ (s3 _ _ (s2 _ _ (s1 _ _ e)))) ?_,s1.free nP⟩
 ·show S∉[L,P,O]
  simp [m1.symm,m2.symm,m3.symm]
 ·have q1:=aD e nL
  have q2:=aD (s1 _ _ e) nP
  have q3:=aD (s2 _ _ (s1 _ _ e)) nO
  simp [q1,q2,q3]
abbrev LET:Str:= "abcdefghijklmnopqrstuvwxyz"
abbrev FIG:Str:= "0123456789"
theorem let_codes:LET.cps.toList=List.range' 97 26:=by decide +kernel
theorem fig_codes:FIG.cps.toList=List.range' 48 10:=by decide +kernel
theorem in_let (c:Nat):(!(Builtin.Str.occurrences LET ⟨#[c]⟩ 0 LET.length 1).isEmpty)=low c:=by
 rw [StrLaws.found_one,let_codes]
 unfold low
 rw [Bool.eq_iff_iff]
 simp [List.mem_range'_1]
 omega
theorem in_fig (c:Nat):(!(Builtin.Str.occurrences FIG ⟨#[c]⟩ 0 FIG.length 1).isEmpty)=fig c:=by
 rw [StrLaws.found_one,fig_codes]
 unfold fig
 rw [Bool.eq_iff_iff]
 simp [List.mem_range'_1]
 omega
structure Flds (ms:List Str) (want:List (Str×V)) (fs:List (Str×V)):Prop where
 has:∀p∈want,fs.lookup p.1=some p.2
 no:∀m∈ms,fs.lookup m=none
theorem rD {H:Hp} {d:Addr} {kvs:List (Key×V)} {v:HO} (e:H d=some (.dK kvs)) {b:Addr} {u:HO} (h:H b=some u) (hu:∀ks,u≠.dK ks):upd H d v b=some u:=by
 rw [aK]
 ·exact h
 ·rintro rfl
  rw [e] at h
  exact hu _ (Option.some.inj h).symm
theorem fQ {H:Hp} {d a:Addr} {kvs:List (Key×V)} {v:HO} {xs:List V} (e:H d=some (.dK kvs)) (h:SqT K H a xs):SqT K (upd H d v) a xs:=by
 rcases h with (h | ⟨o,h⟩) | h
 ·exact .inl (.inl (rD e h (by intro _ z;cases z)))
 ·exact .inl (.inr ⟨o,rD e h (by intro _ z;cases z)⟩)
 ·exact .inr h
theorem PartAt.chill {H:Hp} {d p:Addr} {kvs:List (Key×V)} {v:HO} {i:Nat} {nm:V} {ns is os:List V} (e:H d=some (.dK kvs)) (h:PartAt K t H p i nm ns is os):PartAt K t (upd H d v) p i nm ns is os:=by
 obtain⟨dx,tn,ti,to,h1,h2,h3,h4⟩:=h
 exact⟨dx,tn,ti,to,rD e h1 (by intro _ z;cases z),fQ e h2,fQ e h3,fQ e h4⟩
theorem zT {H:Hp} {d D:Addr} {v:HO} (hD:(upd H d v) D=none):H D=none:=by
 by_cases h:D=d
 ·subst h;rw [aq] at hD;cases hD
 ·rw [aK h] at hD;exact hD
theorem upd_id {H:Hp} {a:Addr} {o:HO} (e:H a=some o):upd H a o=H:=by
 funext b
 unfold upd
 split
 ·rename_i h;rw [h];exact e.symm
 ·rfl
theorem uT {κ:Type} [DecidableEq κ] {kvs:List (κ×V)} {k:κ} (h:k∉kvs.map (·.1)):fJ kvs k=none:=by
 induction kvs with
 | nil=>rfl
 | cons p r ih=>
  simp only [List.map_cons,List.mem_cons,not_or] at h
  rw [fZ (Ne.symm h.1)]
  exact ih h.2
theorem vD {κ:Type} [DecidableEq κ] {kvs:List (κ×V)} {k:κ} {v:V} (nd:(kvs.map (·.1)).Nodup) (h:(k,v)∈kvs):fJ kvs k=some v:=by
 induction kvs with
 | nil=>cases h
 | cons p r ih=>
  simp only [List.map_cons,List.nodup_cons] at nd
  rcases List.mem_cons.mp h with h | h
  ·subst h
   exact gH rfl
  ·have:¬p.1=k:=fun z=>nd.1 (List.mem_map.mpr ⟨_,h,z.symm⟩)
   rw [fZ this]
   exact ih nd.2 h
def dg (f:PD→List Str) (ps:List PD):List (Key×V):=ps.flatMap fun p=>(f p).map fun l=>((Sum.inr l:Key),V.str p.name)
theorem wM (f:PD→List Str) (ps:List PD):(dg f ps).map (·.1)=(ps.flatMap f).map (fun l=>(Sum.inr l:Key)):=by
 induction ps with
 | nil=>rfl
 | cons p r ih=>
  unfold dg at ih ⊢
  simp only [List.flatMap_cons,List.map_append,ih,List.map_map]
  rfl
theorem qZ {l:List Str} (h:l.Nodup):(l.map (fun x=>(Sum.inr x:Key))).Nodup:=by
 induction l with
 | nil=>exact List.nodup_nil
 | cons a r ih=>
  simp only [List.map_cons,List.nodup_cons,List.mem_map] at h ⊢
  refine⟨?_,ih h.2⟩
  rintro⟨b,hb,e⟩
  cases e
  exact h.1 hb
theorem iT {f:PD→List Str} {ps:List PD} (nd:(ps.flatMap f).Nodup) {p:PD} (hp:p∈ps) {l:Str} (hl:l∈f p):fJ (dg f ps) (Sum.inr l)=some (.str p.name):=
 vD (by rw [wM];exact qZ nd) (List.mem_flatMap.mpr ⟨p,hp,List.mem_map.mpr ⟨l,hl,rfl⟩⟩)
theorem zK {f:PD→List Str} {ps:List PD} {l:Str} (h:l∉ps.flatMap f):fJ (dg f ps) (Sum.inr l)=none:=uT (by
 rw [wM]
 intro z
 obtain⟨b,hb,e⟩:=List.mem_map.mp z
 cases e
 exact h hb)
theorem endsK_len (f:PD→List Str) (ps:List PD):(dg f ps).length=(ps.flatMap f).length:=by
 have:=congrArg List.length (wM f ps)
 simpa using this
theorem zJ (f:PD→List Str) (ps:List PD) (p:PD):dg f (ps ++ [p])=dg f ps ++ (f p).map fun l=>((Sum.inr l:Key),V.str p.name):=by
 unfold dg
 rw [List.flatMap_append]
 simp
theorem filt_lt {α:Type} {f g:α→Bool}:∀{l:List α},(∀a∈l,g a=true→f a=true)→(∃a∈l,f a=true∧g a=false)→(l.filter g).length <(l.filter f).length
 | [],_,h=>by obtain⟨a,ha,_⟩:=h;cases ha
 | x:: r,h,h2=>by
  have le:∀r:List α,(∀a∈r,g a=true→f a=true)→(r.filter g).length≤(r.filter f).length:=fun r=>by
   induction r with
   | nil=>intro _;exact Nat.le_refl _
   | cons y t ih=>
    intro q
    have:=ih fun a ha=>q a (List.mem_cons_of_mem _ ha)
    have q0:=q y List.mem_cons_self
    rw [List.filter_cons,List.filter_cons]
    cases hg:g y
    ·simp only [Bool.false_eq_true,if_false]
     split
     ·rw [List.length_cons];omega
     ·exact this
    ·rw [q0 hg]
     simp only [if_true,List.length_cons]
     omega
  obtain⟨a,ha,hf,hg⟩:=h2
  have hr:=fun a ha=>h a (List.mem_cons_of_mem x ha)
  rw [List.filter_cons,List.filter_cons]
  rcases List.mem_cons.mp ha with rfl | ha
  ·rw [hf,hg]
   have:=le r hr
   simp
   omega
  ·have ih:=filt_lt hr ⟨a,ha,hf,hg⟩
   have q0:=h x List.mem_cons_self
   cases hx:g x
   ·simp only [Bool.false_eq_true,if_false]
    split
    ·rw [List.length_cons];omega
    ·exact ih
   ·rw [q0 hx]
    simp only [if_true,List.length_cons]
    omega
def gG (jk:List (Key×V)) (x:Str):Bool:=(fJ jk (Sum.inr x)).isSome
def pR (ps:List PD) (jk:List (Key×V)):Nat:=(ps.filter fun p=>!gG jk p.name).length
theorem hasN_put (jk:List (Key×V)) (x y:Str) (v:V):gG (putK jk (Sum.inr x) v) y=(decide (y=x) || gG jk y):=by
 unfold gG
 rw [valV_put]
 by_cases h:y=x
 ·subst h;simp
 ·have:¬(Sum.inr y:Key)=Sum.inr x:=fun z=>h (Sum.inr.inj z)
  rw [if_neg this]
  simp [h]
theorem missN_lt {ps:List PD} {jk jk':List (Key×V)} (h:∀x,gG jk x=true→gG jk' x=true) {p:PD} (hp:p∈ps) (h1:gG jk p.name=false) (h2:gG jk' p.name=true):pR ps jk' <pR ps jk:=by
 refine filt_lt (fun a _ q=>?_) ⟨p,hp,by simp [h1],by simp [h2]⟩
 cases hj:gG jk a.name
 ·rfl
 ·rw [h _ hj] at q;cases q
theorem lane_ends {ps:List PD} (pm:(ps.flatMap (·.outs)).Perm (ps.flatMap (·.ins))) {l:Str} (h:l∈ps.flatMap (·.outs)):∃a∈ps,∃b∈ps,l∈a.outs∧l∈b.ins:=by
 obtain⟨a,ha,hl⟩:=List.mem_flatMap.mp h
 obtain⟨b,hb,hl2⟩:=List.mem_flatMap.mp (pm.mem_iff.mp h)
 exact⟨a,ha,b,hb,hl,hl2⟩
theorem all_in {ps:List PD} (no:(ps.flatMap (·.outs)).Nodup) (ni:(ps.flatMap (·.ins)).Nodup) (pm:(ps.flatMap (·.outs)).Perm (ps.flatMap (·.ins))) {jk:List (Key×V)} (hang:∃y,∀q∈ps,∃x∈q.ins ++ q.outs,Drawn.Conn ps x y)
  (cl:∀a∈ps,∀b∈ps,∀l,l∈a.outs→l∈b.ins→gG jk a.name=gG jk b.name) {p0:PD} (hp0:p0∈ps) (h0:gG jk p0.name=true):∀q∈ps,gG jk q.name=true:=by
 obtain⟨y,hy⟩:=hang
 refine Drawn.all_joined (J:=fun p=>gG jk p.name=true) (fun l p q hp hq hlp hlq hJ=>?_) hy hp0 h0
 have same:∀{f:PD→List Str},(ps.flatMap f).Nodup→∀{a b:PD},a∈ps→b∈ps→l∈f a→l∈f b→a.name=b.name:=fun {f} nd {a b} ha hb h1 h2=>by
  obtain⟨i,hi,ei⟩:=List.mem_iff_getElem.mp ha
  obtain⟨j,hj,ej⟩:=List.mem_iff_getElem.mp hb
  have:=Drawn.one_giver f nd (i:=i) (j:=j) (p:=a) (q:=b) (l:=l) (by rw [List.getElem?_eq_getElem hi,ei]) (by rw [List.getElem?_eq_getElem hj,ej]) h1 h2
  subst this
  rw [←ei,←ej]
 have hl:l∈ps.flatMap (·.outs):=by
  rcases List.mem_append.mp hlp with h | h
  ·exact pm.mem_iff.mpr (List.mem_flatMap.mpr ⟨p,hp,h⟩)
  ·exact List.mem_flatMap.mpr ⟨p,hp,h⟩
 obtain⟨a,ha,b,hb,la,lb⟩:=lane_ends pm hl
 have e:=cl a ha b hb l la lb
 have np:p.name=a.name∨p.name=b.name:=(List.mem_append.mp hlp).elim (fun h=>.inr (same ni hp hb h lb)) fun h=>.inl (same no hp ha h la)
 have nq:q.name=a.name∨q.name=b.name:=(List.mem_append.mp hlq).elim (fun h=>.inr (same ni hq hb h lb)) fun h=>.inl (same no hq ha h la)
 show gG jk q.name=true
 change gG jk p.name=true at hJ
 rcases np with np | np <;> rcases nq with nq | nq <;> rw [np] at hJ <;> rw [nq]
 ·exact hJ
 ·rw [←e];exact hJ
 ·rw [e];exact hJ
 ·exact hJ
theorem vM {z:Str} (h:nameB z=true):z.length≤100:=by
 unfold nameB at h
 rw [←iJ]
 split at h
 ·simp_all
 ·rename_i e
  rw [e]
  simp only [Bool.and_eq_true,decide_eq_true_eq] at h
  rw [List.length_cons]
  omega
structure Fit (ls:List LaneD) (ps:List PD):Prop where
 lok:∀l∈ls,1≤l.room∧l.room≤199∧(l.first.length:Int)≤l.room∧∀v∈l.first,0≤v∧v <1000000000
 pok:∀p∈ps,PartOk p
 lnm:∀l∈ls,nameB l.name=true
 pnm:∀p∈ps,nameB p.name=true
 pnd:(ps.map (·.name)).Nodup
 whole:Whole (ls.map (·.name)) ps
 l1:1≤ls.length
 l24:ls.length≤24
 p1:1≤ps.length
 p16:ps.length≤16
theorem word_of {c:Int} {n:Nat} (hn:n≤26) {x:Str} (h:x∈(List.range n).map (aG c)):∃k,k <n∧x=aG c k:=by
 obtain⟨k,hk,rfl⟩:=List.mem_map.mp h
 exact⟨k,List.mem_range.mp hk,rfl⟩
theorem NetD.fit {c3 c4:Int} {ls:List LaneD} {ps:List PD} (h:NetD c3 c4 ls ps):Fit ls ps:=by
 have a:=h.l17
 have b:=h.p16
 refine⟨fun l hl=>?_,h.pok,fun l hl=>?_,fun p hp=>?_,?_,h.whole,h.l1,by omega,h.p1,h.p16⟩
 ·obtain⟨x1,x2,x3,x4⟩:=h.lok l hl
  exact⟨x1,by omega,x3,x4⟩
 ·obtain⟨k,hk,e⟩:=word_of (c:=c3) (n:=ls.length) (by omega) (by rw [←h.ln];exact List.mem_map.mpr ⟨l,hl,rfl⟩)
  rw [e]
  exact sO _ (by omega)
 ·obtain⟨k,hk,e⟩:=word_of (c:=c4) (n:=ps.length) (by omega) (h.pn.mem_iff.mpr (List.mem_map.mpr ⟨p,hp,rfl⟩))
  rw [e]
  exact sO _ (by omega)
 ·exact h.pn.nodup_iff.mp (qi _ (by omega))
theorem NetD.lane20 {c3 c4:Int} {ls:List LaneD} {ps:List PD} (h:NetD c3 c4 ls ps):aG c3 20∉ls.map (·.name):=fun z=>by
 have a:=h.l17
 rw [h.ln] at z
 obtain⟨k,hk,e⟩:=word_of (by omega) z
 have:=word_inj _ (by omega) (by omega) e
 omega
def dq (ls:List LaneD):List (Key×V):=ls.map fun l=>((Sum.inr l.name:Key),V.int l.room)
def fU (FL:List (LaneD×Addr)):List (Key×V):=FL.map fun q=>((Sum.inr q.1.name:Key),V.ref q.2)
def dU (PL:List (PD×Addr)):List (Key×V):=PL.map fun q=>((Sum.inr q.1.name:Key),V.ref q.2)
theorem uZ (ls:List LaneD):(dq ls).map (·.1)=(ls.map (·.name)).map (fun x=>(Sum.inr x:Key)):=by unfold dq;rw [List.map_map,List.map_map];rfl
theorem xO (FL:List (LaneD×Addr)):(fU FL).map (·.1)=((FL.map (·.1)).map (·.name)).map (fun x=>(Sum.inr x:Key)):=by unfold fU;rw [List.map_map,List.map_map,List.map_map];rfl
theorem yO (PL:List (PD×Addr)):(dU PL).map (·.1)=((PL.map (·.1)).map (·.name)).map (fun x=>(Sum.inr x:Key)):=by unfold dU;rw [List.map_map,List.map_map,List.map_map];rfl
structure NetW (K:PySem.W.Frag) (t:Adr) (H:Hp) (n:Addr) (ls:List LaneD) (ps:List PD) (dx:Addr) (fs:List (Str×V)) (R F Pd G Tk:Addr) (FL:List (LaneD×Addr)) (PL:List (PD×Addr)):Prop where
 obj:H n=some (.ins t.bO dx fs)
 fl:Flds ["lane_names", "part_names", "need_lane_name", "room_of", "first_of", "told", "__init__"] [("rooms",.ref R),("firsts",.ref F),("parts",.ref Pd),("givers",.ref G),("takers",.ref Tk)] fs
 rooms:H R=some (.dK (dq ls))
 firsts:H F=some (.dK (fU FL))
 parts:H Pd=some (.dK (dU PL))
 givers:H G=some (.dK (dg (·.outs) ps))
 takers:H Tk=some (.dK (dg (·.ins) ps))
 fls:FL.map (·.1)=ls
 pls:PL.map (·.1)=ps
 tups:∀q∈FL,SqT K H q.2 (q.1.first.map V.int)
 pats:∀q∈PL,PartAt K t H q.2 q.1.kind (.str q.1.name) (q.1.nums.map V.int) (q.1.ins.map V.str) (q.1.outs.map V.str)
 fit:Fit ls ps
 neRF:R≠F
def vg (K:PySem.W.Frag) (t:Adr) (H:Hp) (n:Addr) (ls:List LaneD) (ps:List PD):Prop:=∃dx fs R F Pd G Tk FL PL,NetW K t H n ls ps dx fs R F Pd G Tk FL PL
section
variable {H H':Hp} {n dx R F Pd G Tk:Addr} {ls:List LaneD} {ps:List PD} {fs:List (Str×V)} {FL:List (LaneD×Addr)} {PL:List (PD×Addr)}
theorem NetW.same (N:NetW K t H n ls ps dx fs R F Pd G Tk FL PL) (s:aO H H'):NetW K t H' n ls ps dx fs R F Pd G Tk FL PL:=
 ⟨s _ _ N.obj,N.fl,s _ _ N.rooms,s _ _ N.firsts,s _ _ N.parts,s _ _ N.givers,s _ _ N.takers,N.fls,N.pls,fun q hq=>s.seqT (N.tups q hq),fun q hq=>(N.pats q hq).same s,N.fit,N.neRF⟩
theorem vg.same (N:vg K t H n ls ps) (s:aO H H'):vg K t H' n ls ps:=by
 obtain⟨dx,fs,R,F,Pd,G,Tk,FL,PL,N⟩:=N
 exact⟨dx,fs,R,F,Pd,G,Tk,FL,PL,N.same s⟩
theorem NetW.s (N:NetW K t H n ls ps dx fs R F Pd G Tk FL PL):vg K t H n ls ps:=⟨dx,fs,R,F,Pd,G,Tk,FL,PL,N⟩
theorem NetW.room (N:NetW K t H n ls ps dx fs R F Pd G Tk FL PL) {l:LaneD} (hl:l∈ls):fJ (dq ls) (Sum.inr l.name)=some (.int l.room):=
 vD (by rw [uZ];exact qZ N.fit.whole.nod) (List.mem_map.mpr ⟨l,hl,rfl⟩)
theorem NetW.firstV (N:NetW K t H n ls ps dx fs R F Pd G Tk FL PL) {q:LaneD×Addr} (hq:q∈FL):fJ (fU FL) (Sum.inr q.1.name)=some (.ref q.2):=
 vD (by rw [xO,N.fls];exact qZ N.fit.whole.nod) (List.mem_map.mpr ⟨q,hq,rfl⟩)
theorem NetW.partV (N:NetW K t H n ls ps dx fs R F Pd G Tk FL PL) {q:PD×Addr} (hq:q∈PL):fJ (dU PL) (Sum.inr q.1.name)=some (.ref q.2):=
 vD (by rw [yO,N.pls];exact qZ N.fit.pnd) (List.mem_map.mpr ⟨q,hq,rfl⟩)
theorem NetW.ono (N:NetW K t H n ls ps dx fs R F Pd G Tk FL PL):(ps.flatMap (·.outs)).Nodup:=N.fit.whole.outs.nodup_iff.mpr N.fit.whole.nod
theorem NetW.ini (N:NetW K t H n ls ps dx fs R F Pd G Tk FL PL):(ps.flatMap (·.ins)).Nodup:=N.fit.whole.ins.nodup_iff.mpr N.fit.whole.nod
end
theorem in_names {α:Type} {f:α→Str} {xs:List α} {x:Str}:inV (.str x) (xs.map fun p=>V.str (f p))=decide (x∈xs.map f):=by
 rw [Bool.eq_iff_iff]
 unfold inV
 rw [List.any_eq_true,decide_eq_true_eq]
 constructor
 ·rintro⟨v,hv,e⟩
  obtain⟨p,hp,rfl⟩:=List.mem_map.mp hv
  exact List.mem_map.mpr ⟨p,hp,by simpa [eqV] using e⟩
 ·intro h
  obtain⟨p,hp,rfl⟩:=List.mem_map.mp h
  exact⟨.str (f p),List.mem_map.mpr ⟨p,hp,rfl⟩,by simp [eqV]⟩
theorem raised {H:Hp} {x C dx:Addr} {fs:List (Str×V)} (nx:H x=none) (nd:(upd H x (uB x C)) dx=none) (ne:dx≠x):
  aO H (del (upd (upd (upd H x (uB x C)) x (yo x C dx)) dx (.xd fs)) x)∧(del (upd (upd (upd H x (uB x C)) x (yo x C dx)) dx (.xd fs)) x) dx=some (.xd fs):=by
 constructor
 ·intro b o e
  have b1:b≠x:=aD e nx
  have b2:b≠dx:=aD e (by rw [aK ne] at nd;exact nd)
  rw [Aj b1,aK b2,aK b1,aK b1]
  exact e
 ·rw [Aj ne];exact aq
def ofKd (ps:List PD) (x:Str):List V:=(ps.filter fun p=>decide (dZ p.kind=x)).map fun p=>V.str p.name
def oddB (p:PD):Bool:=decide (dZ p.kind= "choose") || decide (dZ p.kind= "split")
def oddN (ps:List PD):V:=match ps.find? oddB with
 | some p=>.str p.name
 | none=>.non
def xZ (K:PySem.W.Frag) (H:Hp) (v:V) (l:LaneD):Prop:=∃q f,v=.ref q∧H q=some (.tup [.str l.name,.int l.room,.ref f])∧SqT K H f (l.first.map V.int)
def RowT (K:PySem.W.Frag) (H:Hp) (v:V) (p:PD):Prop:=∃q a1 a2 a3,v=.ref q∧H q=some (.tup [.str (dZ p.kind),.str p.name,.ref a1,.ref a2,.ref a3])∧SqT K H a1 (p.nums.map V.int)∧SqT K H a2 (p.ins.map V.str)∧SqT K H a3 (p.outs.map V.str)
theorem xZ.same {H H':Hp} {v:V} {l:LaneD} (h:xZ K H v l) (s:aO H H'):xZ K H' v l:=by
 obtain⟨q,f,e,h1,h2⟩:=h
 exact⟨q,f,e,s _ _ h1,s.seqT h2⟩
theorem RowT.same {H H':Hp} {v:V} {p:PD} (h:RowT K H v p) (s:aO H H'):RowT K H' v p:=by
 obtain⟨q,a1,a2,a3,e,h1,h2,h3,h4⟩:=h
 exact⟨q,a1,a2,a3,e,s _ _ h1,s.seqT h2,s.seqT h3,s.seqT h4⟩
structure ToldAt (K:PySem.W.Frag) (H:Hp) (T a b:Addr) (ls:List LaneD) (ps:List PD):Prop where
 tup:H T=some (.tup [.ref a,.ref b])
 lanes:∃xs,H a=some (.lst xs)∧All2 (xZ K H) xs ls
 parts:∃xs,H b=some (.lst xs)∧All2 (RowT K H) xs ps
theorem ToldAt.same {H H':Hp} {T a b:Addr} {ls:List LaneD} {ps:List PD} (h:ToldAt K H T a b ls ps) (s:aO H H'):ToldAt K H' T a b ls ps:=by
 obtain⟨h1,⟨xs,e1,a1⟩,⟨ys,e2,a2⟩⟩:=h
 exact⟨s _ _ h1,⟨xs,s _ _ e1,a1.imp fun _ _ h=>h.same s⟩,⟨ys,s _ _ e2,a2.imp fun _ _ h=>h.same s⟩⟩
theorem yz {H H':Hp} {d:Addr} {kvs:List (Key×V)} {o:Obj} (e:H d=some (.dK kvs)) (s:aO (upd H d (.frz o (.dK kvs))) H'):aO H (upd H' d (.dK kvs)):=fun b u q=>by
 by_cases h:b=d
 ·subst h;rw [aq];rw [e] at q;exact q
 ·rw [aK h];exact s b u (by rw [aK h];exact q)
theorem xR {H H':Hp} {d:Addr} {x:HO} (s:aO H H'):aO (upd H d x) (upd H' d x):=fun b u q=>by
 by_cases h:b=d
 ·subst h;rw [aq] at q ⊢;exact q
 ·rw [aK h] at q ⊢;exact s b u q
structure Tr (H:Hp) (f:Addr) (L:List (Addr×HO)) (Hk:Hp):Prop where
 but:But f H Hk
 all:∀p∈L,Hk p.1=some p.2
 fre:∀p∈L,p.1=f∨H p.1=none
 nod:(L.map Prod.fst).Nodup
 obj:∃o,(f,o)∈L
theorem Tr.free {H Hk:Hp} {f x:Addr} {L:List (Addr×HO)} (T:Tr H f L Hk) (nx:Hk x=none):H x=none:=by
 cases e:H x with
 | none=>rfl
 | some o=>
  by_cases h:x=f
  ·obtain⟨u,hu⟩:=T.obj
   have:=T.all _ hu
   rw [h] at nx
   rw [nx] at this
   cases this
  ·rw [T.but x o h e] at nx
   cases nx
theorem Tr.new {H Hk:Hp} {f x:Addr} {L:List (Addr×HO)} {o:HO} (T:Tr H f L Hk) (nx:Hk x=none):Tr H f (L ++ [(x,o)]) (upd Hk x o):=by
 have hne:∀p∈L,p.1≠x:=fun p hp z=>by have:=T.all p hp;rw [z,nx] at this;cases this
 have hx:=T.free nx
 refine⟨fun b u n e=>by rw [aK (aD e hx)];exact T.but b u n e,fun p hp=>?_,fun p hp=>?_,?_,?_⟩
 ·rcases List.mem_append.mp hp with h | h
  ·rw [aK (hne p h)];exact T.all p h
  ·rw [List.mem_singleton] at h;subst h;exact aq
 ·rcases List.mem_append.mp hp with h | h
  ·exact T.fre p h
  ·rw [List.mem_singleton] at h;subst h;exact .inr hx
 ·rw [List.map_append,List.nodup_append]
  refine⟨T.nod,by simp,fun a ha b hb=>?_⟩
  obtain⟨p,hp,rfl⟩:=List.mem_map.mp ha
  simp at hb
  subst hb
  exact hne p hp
 ·obtain⟨u,hu⟩:=T.obj
  exact⟨u,List.mem_append.mpr (.inl hu)⟩
theorem Tr.same {H Hk Hk':Hp} {f:Addr} {L:List (Addr×HO)} (T:Tr H f L Hk) (s:aO Hk Hk'):Tr H f L Hk':=
 ⟨fun b u n e=>s _ _ (T.but b u n e),fun p hp=>s _ _ (T.all p hp),T.fre,T.nod,T.obj⟩
theorem Tr.put {H Hk:Hp} {f x:Addr} {o o':HO} {L1 L2:List (Addr×HO)} (T:Tr H f (L1 ++ (x,o):: L2) Hk):Tr H f (L1 ++ (x,o'):: L2) (upd Hk x o'):=by
 have hx:x=f∨H x=none:=T.fre (x,o) (by simp)
 have nd:=T.nod
 rw [List.map_append,List.map_cons,List.nodup_append] at nd
 obtain⟨n1,n2,n3⟩:=nd
 rw [List.nodup_cons] at n2
 refine⟨fun b u n e=>?_,fun p hp=>?_,fun p hp=>?_,?_,?_⟩
 ·have:b≠x:=by
   rcases hx with rfl | hx
   ·exact n
   ·exact aD e hx
  rw [aK this];exact T.but b u n e
 ·rcases List.mem_append.mp hp with h | h
  ·have:p.1≠x:=n3 p.1 (List.mem_map.mpr ⟨p,h,rfl⟩) x (by simp)
   rw [aK this];exact T.all p (by simp [h])
  ·rcases List.mem_cons.mp h with rfl | h
   ·exact aq
   ·have:p.1≠x:=fun z=>n2.1 (by rw [←z];exact List.mem_map.mpr ⟨p,h,rfl⟩)
    rw [aK this];exact T.all p (by simp [h])
 ·rcases List.mem_append.mp hp with h | h
  ·exact T.fre p (by simp [h])
  ·rcases List.mem_cons.mp h with rfl | h
   ·exact hx
   ·exact T.fre p (by simp [h])
 ·have:=T.nod
  rw [List.map_append,List.map_cons] at this ⊢
  exact this
 ·obtain⟨u,hu⟩:=T.obj
  rcases List.mem_append.mp hu with h | h
  ·exact⟨u,by simp [h]⟩
  ·rcases List.mem_cons.mp h with h | h
   ·cases h;exact⟨o',by simp⟩
   ·exact⟨u,by simp [h]⟩
theorem Tr.start {H:Hp} {f:Addr} {o:HO} (e:H f=some o):Tr H f [(f,o)] H:=⟨But.refl _,fun p hp=>by rw [List.mem_singleton] at hp;subst hp;exact e,fun p hp=>by rw [List.mem_singleton] at hp;subst hp;exact .inl rfl,by simp,o,by simp⟩
def LaneH (K:PySem.W.Frag) (H:Hp) (v:V) (l:LaneD):Prop:=∃q f,v=.ref q∧H q=some (.tup [.str l.name,.int l.room,.ref f])∧SqA K H f (l.first.map V.int)
def RowH (K:PySem.W.Frag) (H:Hp) (v:V) (p:PD):Prop:=∃q a1 a2 a3,v=.ref q∧H q=some (.tup [.str (dZ p.kind),.str p.name,.ref a1,.ref a2,.ref a3])∧SqA K H a1 (p.nums.map V.int)∧SqA K H a2 (p.ins.map V.str)∧SqA K H a3 (p.outs.map V.str)
structure Hand (K:PySem.W.Frag) (H:Hp) (Ll Lp:Addr) (ls:List LaneD) (ps:List PD):Prop where
 ll:∃xs,SqL K H Ll xs∧All2 (LaneH K H) xs ls
 lp:∃xs,SqL K H Lp xs∧All2 (RowH K H) xs ps
theorem nodup_at {α:Type} {f:α→Str} {xs:List α} (nd:(xs.map f).Nodup) {j:Nat} {x:α} (h:xs[j]?=some x):f x∉(xs.take j).map f:=fun hm=>by
 have hj:=(List.getElem?_eq_some_iff.mp h).1
 have e:xs[j]=x:=(List.getElem?_eq_some_iff.mp h).2
 rw [List.map_take] at hm
 obtain⟨i,hi,ei⟩:=List.mem_iff_getElem.mp hm
 rw [List.length_take,lM] at hi
 rw [List.getElem_take] at ei
 have e2:(xs.map f)[j]'(by rw [lM];exact hj)=f x:=by rw [List.getElem_map,e]
 have:=(List.getElem_inj nd).mp (ei.trans e2.symm)
 omega
theorem flat_at {f:PD→List Str} {ps:List PD} (nd:(ps.flatMap f).Nodup) {j:Nat} {p:PD} (h:ps[j]?=some p):(f p).Nodup∧∀z∈f p,z∉(ps.take j).flatMap f:=by
 have hj:=(List.getElem?_eq_some_iff.mp h).1
 have e:ps[j]=p:=(List.getElem?_eq_some_iff.mp h).2
 have e2:ps=ps.take j ++ p:: ps.drop (j+1):=by rw [←e,←List.drop_eq_getElem_cons hj,List.take_append_drop]
 rw [e2,List.flatMap_append,List.flatMap_cons,List.nodup_append] at nd
 obtain⟨n1,n2,n3⟩:=nd
 rw [List.nodup_append] at n2
 exact⟨n2.1,fun z hz hm=>n3 z hm z (List.mem_append.mpr (.inl hz)) rfl⟩
theorem in_strs (x:Str) (xs:List Str):inV (.str x) (xs.map V.str)=decide (x∈xs):=by
 have:=in_names (f:=fun y:Str=>y) (xs:=xs) (x:=x)
 simpa using this
theorem yr (xs:List Str):(xs.map V.str).all ud=true:=by simp [ud]
structure Gd (n:Nat) (d:PyData):Prop where
 eq:PyData.eqv d d=true
 lay:PyData.canLay0 d=true
 dep:PyData.depth d≤n
theorem Gd.all {n:Nat}:∀{ds:List PyData},(∀d∈ds,Gd n d)→PyData.eqvAll ds ds=true∧PyData.canLayAll0 ds=true∧PyData.depthAll ds≤n
 | [],_=>⟨by simp [PyData.eqvAll],by simp [PyData.canLayAll0],by simp [PyData.depthAll]⟩
 | d:: r,h=>by
  obtain⟨h1,h2,h3⟩:=Gd.all (ds:=r) fun x hx=>h x (List.mem_cons_of_mem _ hx)
  have g:=h d List.mem_cons_self
  have g3:=g.dep
  refine⟨by simp [PyData.eqvAll,g.eq,h1],by simp [PyData.canLayAll0,g.lay,h2],?_⟩
  simp only [PyData.depthAll]
  omega
theorem Gd.list {n:Nat} {ds:List PyData} (h:∀d∈ds,Gd n d):Gd (n+1) (.list ds):=by
 obtain⟨h1,h2,h3⟩:=Gd.all h
 exact⟨by simp [PyData.eqv,h1],by simp [PyData.canLay0,h2],by simp only [PyData.depth];omega⟩
theorem Gd.tuple {n:Nat} {ds:List PyData} (h:∀d∈ds,Gd n d):Gd (n+1) (.tuple ds):=by
 obtain⟨h1,h2,h3⟩:=Gd.all h
 exact⟨by simp [PyData.eqv,h1],by simp [PyData.canLay0,h2],by simp only [PyData.depth];omega⟩
theorem Gd.int (n:Nat) (i:Int):Gd n (.int i):=⟨by simp [PyData.eqv],by simp [PyData.canLay0],by simp [PyData.depth]⟩
theorem Gd.str (n:Nat) {x:Str} (h:PyData.strOk x=true):Gd n (.str x):=⟨by simp [PyData.eqv],by simp [PyData.canLay0,h],by simp [PyData.depth]⟩
theorem Gd.ints (n:Nat) (ws:List Int):∀d∈ws.map PyData.int,Gd n d:=fun d hd=>by
 obtain⟨i,_,rfl⟩:=List.mem_map.mp hd
 exact .int n i
theorem Gd.strs (n:Nat) {xs:List Str} (h:∀x∈xs,PyData.strOk x=true):∀d∈xs.map PyData.str,Gd n d:=fun d hd=>by
 obtain⟨x,hx,rfl⟩:=List.mem_map.mp hd
 exact .str n (h x hx)
theorem Gd.shaped {n:Nat} {d:PyData} (h:Gd n d) (hn:n≤64):SeqAt.shaped d=true:=by
 have:=h.dep
 unfold SeqAt.shaped
 rw [h.lay,decide_eq_true (show d.depth≤64 by omega)]
 rfl
theorem vI {z:Str} (h:nameB z=true):PyData.strOk z=true:=by
 have e:∀c∈z.cps.toList,c <0x110000:=fun c hc=>by
  unfold nameB at h
  split at h
  ·cases h
  ·rename_i c0 r e
   rw [e] at hc
   simp only [Bool.and_eq_true,List.all_eq_true,Bool.or_eq_true] at h
   have:=h.2.2 c hc
   unfold low fig at this
   simp only [Bool.and_eq_true,decide_eq_true_eq] at this
   omega
 unfold PyData.strOk
 rw [Array.all_eq_true']
 intro c hc
 exact decide_eq_true (e c (by simpa using hc))
theorem kname_ok:∀i,i <11→PyData.strOk (dZ i)=true:=by decide +kernel
theorem dts_int {H:Hp}:∀ws:List Int,Dts K H (ws.map V.int) (ws.map PyData.int)
 | []=>.nil
 | i:: r=>.cons (.int i) (dts_int r)
theorem zx {H:Hp}:∀xs:List Str,Dts K H (xs.map V.str) (xs.map PyData.str)
 | []=>.nil
 | x:: r=>.cons (.str x) (zx r)
def laneP (l:LaneD):PyData:=.tuple [.str l.name,.int l.room,.tuple (l.first.map PyData.int)]
def rowP (p:PD):PyData:=.tuple [.str (dZ p.kind),.str p.name,.tuple (p.nums.map PyData.int),.tuple (p.ins.map PyData.str),.tuple (p.outs.map PyData.str)]
def toldP (ls:List LaneD) (ps:List PD):PyData:=.tuple [.list (ls.map laneP),.list (ps.map rowP)]
theorem Fit.inN {ls:List LaneD} {ps:List PD} (h:Fit ls ps) {p:PD} (hp:p∈ps):(∀x∈p.ins,PyData.strOk x=true)∧∀x∈p.outs,PyData.strOk x=true:=by
 have nm:∀x∈ls.map (·.name),PyData.strOk x=true:=fun x hx=>by
  obtain⟨l,hl,rfl⟩:=List.mem_map.mp hx
  exact vI (h.lnm l hl)
 exact⟨fun x hx=>nm x (h.whole.ins.mem_iff.mp (List.mem_flatMap.mpr ⟨p,hp,hx⟩)),fun x hx=>nm x (h.whole.outs.mem_iff.mp (List.mem_flatMap.mpr ⟨p,hp,hx⟩))⟩
theorem Fit.told {ls:List LaneD} {ps:List PD} (h:Fit ls ps):Gd 5 (toldP ls ps):=by
 unfold toldP
 refine .tuple fun d hd=>?_
 simp only [List.mem_cons,List.not_mem_nil,or_false] at hd
 rcases hd with rfl | rfl
 ·refine .list fun d hd=>?_
  obtain⟨l,hl,rfl⟩:=List.mem_map.mp hd
  unfold laneP
  refine .tuple fun d hd=>?_
  simp only [List.mem_cons,List.not_mem_nil,or_false] at hd
  rcases hd with rfl | rfl | rfl
  ·exact .str _ (vI (h.lnm l hl))
  ·exact .int _ _
  ·exact .tuple (.ints _ _)
 ·refine .list fun d hd=>?_
  obtain⟨p,hp,rfl⟩:=List.mem_map.mp hd
  unfold rowP
  refine .tuple fun d hd=>?_
  simp only [List.mem_cons,List.not_mem_nil,or_false] at hd
  rcases hd with rfl | rfl | rfl | rfl | rfl
  ·exact .str _ (kname_ok _ (h.pok p hp).1)
  ·exact .str _ (vI (h.pnm p hp))
  ·exact .tuple (.ints _ _)
  ·exact .tuple (.strs _ (h.inN hp).1)
  ·exact .tuple (.strs _ (h.inN hp).2)
theorem dts_of {α:Type} {H:Hp} {R:V→α→Prop} {f:α→PyData} (h:∀v a,R v a→Dt K H v (f a)):∀{xs:List V} {ys:List α},All2 R xs ys→Dts K H xs (ys.map f)
 | _,_,.nil=>.nil
 | _,_,.cons r t=>.cons (h _ _ r) (dts_of h t)
theorem ToldAt.dt {H:Hp} {T a b:Addr} {ls:List LaneD} {ps:List PD} (h:ToldAt K H T a b ls ps):Dt K H (.ref T) (toldP ls ps):=by
 obtain⟨h1,⟨xs,e1,a1⟩,⟨ys,e2,a2⟩⟩:=h
 refine .tuple (SqT.of h1) (.cons (.list (SqL.of e1) (dts_of (fun v l h=>?_) a1)) (.cons (.list (SqL.of e2) (dts_of (fun v p h=>?_) a2)) .nil))
 ·obtain⟨q,f,rfl,h2,h3⟩:=h
  exact .tuple (SqT.of h2) (.cons (.str _) (.cons (.int _) (.cons (.tuple h3 (dts_int _)) .nil)))
 ·obtain⟨q,b1,b2,b3,rfl,h2,h3,h4,h5⟩:=h
  exact .tuple (SqT.of h2) (.cons (.str _) (.cons (.str _) (.cons (.tuple h3 (dts_int _)) (.cons (.tuple h4 (zx _)) (.cons (.tuple h5 (zx _)) .nil)))))
theorem off_new {H H':Hp} {d:Addr} (s:aO H H') (n:H d=none):aO H (bR [d] H'):=fun b o e=>dM (s _ _ e) (by
 rw [List.mem_singleton]
 exact aD e n)
theorem pW {H H':Hp} {d:Addr} {o:HO} (s:aO H H') (h:H d=some o):aO (bR [d] H) (bR [d] H'):=zP s (fun a ha=>by rw [List.mem_singleton] at ha;subst ha;exact⟨o,h⟩)
theorem zc (a b:Nat):(!decide ([b] < [a]))=decide (a≤b):=by
 rw [Bool.eq_iff_iff]
 simp [List.cons_lt_cons_iff]
theorem code_a:("a" :Str).cps.toList=[97]:=by decide +kernel
theorem code_z:("z" :Str).cps.toList=[122]:=by decide +kernel
theorem code_0:("0" :Str).cps.toList=[48]:=by decide +kernel
theorem code_9:("9" :Str).cps.toList=[57]:=by decide +kernel
def sp_NoSuch___init__ (C:Addr):Sp:=fun vs H Q _=>∃(a:Addr) (v:V),vs=[.ref a,v]∧H a=some (uB a C)∧∀dx,H dx=none→dx≠a→Q .non (upd (upd H a (yo a C dx)) dx (.xd [("name",v)]))
theorem sc_NoSuch___init__:FnScope ["self", "name"] ["self", "name"] (aA d9):=⟨rfl,rfl,rfl,by decide +kernel,rfl,by decide +kernel,by decide +kernel⟩
theorem ok_NoSuch___init__ (T:Txt w K mg t):FnOk P w K mg base CX0 1 t.mJ t.lA ["self", "name"] (sp_NoSuch___init__ t.bV):=by
 have sc:=sc_NoSuch___init__
 refine T.F_NoSuch___init__.ok sc (fun vs H Q E h=>?_) (fun cdv A outer s H vs Q E hr h=>?_)
 ·obtain⟨a,v,rfl,_⟩:=h
  rfl
 ·obtain⟨a,v,rfl,ea,k⟩:=h
  refine⟨_,(az (bz (pe_base (by rfl) T.ph T.tO (aa (pv 0) (aa (pv 1) ak aj) aj)))
   (aF (ps_fldX (pv 0) (pv 1) rfl))),?_⟩
  refine⟨_,rfl,_,rfl,a,_,_,[v],rfl,ea,T.X_NoSuch.ini,by show 1≤1000;decide,?_⟩
  exact⟨_,rfl,_,rfl,a,_,rfl,ea,T.xf_NoSuch,T.na_NoSuch,k⟩
def sp_BadName___init__ (C:Addr):Sp:=fun vs H Q _=>∃(a:Addr) (v:V),vs=[.ref a,v]∧H a=some (uB a C)∧∀dx,H dx=none→dx≠a→Q .non (upd (upd H a (yo a C dx)) dx (.xd [("name",v)]))
theorem sc_BadName___init__:FnScope ["self", "name"] ["self", "name"] (aA dX):=⟨rfl,rfl,rfl,by decide +kernel,rfl,by decide +kernel,by decide +kernel⟩
theorem ok_BadName___init__ (T:Txt w K mg t):FnOk P w K mg base CX0 1 t.lE t.kJ ["self", "name"] (sp_BadName___init__ t.bM):=by
 have sc:=sc_BadName___init__
 refine T.F_BadName___init__.ok sc (fun vs H Q E h=>?_) (fun cdv A outer s H vs Q E hr h=>?_)
 ·obtain⟨a,v,rfl,_⟩:=h
  rfl
 ·obtain⟨a,v,rfl,ea,k⟩:=h
  refine⟨_,(az (bz (pe_base (by rfl) T.ph T.tO (aa (pv 0) (aa (pv 1) ak aj) aj)))
   (aF (ps_fldX (pv 0) (pv 1) rfl))),?_⟩
  refine⟨_,rfl,_,rfl,a,_,_,[v],rfl,ea,T.X_BadName.ini,by show 1≤1000;decide,?_⟩
  exact⟨_,rfl,_,rfl,a,_,rfl,ea,T.xj,T.wz,k⟩
def sp_Doubled___init__ (C:Addr):Sp:=fun vs H Q _=>∃(a:Addr) (v:V),vs=[.ref a,v]∧H a=some (uB a C)∧∀dx,H dx=none→dx≠a→Q .non (upd (upd H a (yo a C dx)) dx (.xd [("name",v)]))
theorem sc_Doubled___init__:FnScope ["self", "name"] ["self", "name"] (aA dY):=⟨rfl,rfl,rfl,by decide +kernel,rfl,by decide +kernel,by decide +kernel⟩
theorem ok_Doubled___init__ (T:Txt w K mg t):FnOk P w K mg base CX0 1 t.lu t.kO ["self", "name"] (sp_Doubled___init__ t.bQ):=by
 have sc:=sc_Doubled___init__
 refine T.F_Doubled___init__.ok sc (fun vs H Q E h=>?_) (fun cdv A outer s H vs Q E hr h=>?_)
 ·obtain⟨a,v,rfl,_⟩:=h
  rfl
 ·obtain⟨a,v,rfl,ea,k⟩:=h
  refine⟨_,(az (bz (pe_base (by rfl) T.ph T.tO (aa (pv 0) (aa (pv 1) ak aj) aj)))
   (aF (ps_fldX (pv 0) (pv 1) rfl))),?_⟩
  refine⟨_,rfl,_,rfl,a,_,_,[v],rfl,ea,T.X_Doubled.ini,by show 1≤1000;decide,?_⟩
  exact⟨_,rfl,_,rfl,a,_,rfl,ea,T.xq,T.wA,k⟩
def sp_is_whole (K:PySem.W.Frag):Sp:=fun vs H Q _=>∃x Tx b,vs=[x]∧tyN K H x Tx∧Tx∈o8∧decide (Tx= "int")=b∧Q (.bl b) H
theorem sc_is_whole:FnScope ["thing"] ["thing"] (aA m8):=⟨rfl,rfl,rfl,by decide +kernel,rfl,by decide +kernel,by decide +kernel⟩
theorem yX (T:Txt w K mg t):FnOk P w K mg base CX0 1 t.wJ t.uy ["thing"] (sp_is_whole K):=by
 have sc:=sc_is_whole
 refine T.wy.ok sc (fun vs H Q E h=>?_) (fun cdv A outer s H vs Q E hr h=>?_)
 ·obtain⟨x,Tx,b,rfl,_⟩:=h
  rfl
 ·obtain⟨x,Tx,b,rfl,ty,hm,rfl,k⟩:=h
  refine⟨_,(aF (bA (pe_and (bI xY (by rfl) T.my kY (aa (pv 0) (aa (zy (by rfl) T.n_int bt_int) ak aj) aj)) (pe_one (pe_not (bI xY (by rfl) T.my kY (aa (pv 0) (aa (zy (by rfl) T.n_bool bt_bool) ak aj) aj))))))),?_⟩
  have hm':Tx= "int" ∨Tx= "bool" ∨(subT Tx "int" =false∧Tx≠ "int"):=by
   simp only [o8,List.mem_cons,List.not_mem_nil,or_false] at hm
   rcases hm with rfl | rfl | rfl | rfl | rfl | rfl | rfl
   ·exact .inr (.inr (by decide))
   ·exact .inr (.inl rfl)
   ·exact .inl rfl
   ·exact .inr (.inr (by decide))
   ·exact .inr (.inr (by decide))
   ·exact .inr (.inr (by decide))
   ·exact .inr (.inr (by decide))
  rcases hm' with rfl | rfl | ⟨h1,h2⟩
  ·exact⟨_,rfl,x, "int", "int",true,rfl,ty,by decide,by decide,true,rfl,kW ⟨_,rfl,x, "int", "bool",false,rfl,ty,by decide,by decide,_,rfl,k⟩⟩
  ·exact⟨_,rfl,x, "bool", "int",true,rfl,ty,by decide,by decide,true,rfl,kW ⟨_,rfl,x, "bool", "bool",true,rfl,ty,by decide,by decide,_,rfl,k⟩⟩
  ·rw [decide_eq_false h2] at k
   exact⟨_,rfl,x,Tx, "int",false,rfl,ty,by decide,h1,false,rfl,fP k⟩
def sp_is_value (K:PySem.W.Frag):Sp:=fun vs H Q _=>∃x,vs=[x]∧((∃i:Int,x=.int i∧Q (.bl (decide (0≤i) && decide (i <1000000000))) H)∨∃Tx,tyN K H x Tx∧Tx∈o8∧Tx≠ "int" ∧Q (.bl false) H)
theorem sc_is_value:FnScope ["thing"] ["thing"] (aA m6):=⟨rfl,rfl,rfl,by decide +kernel,rfl,by decide +kernel,by decide +kernel⟩
theorem yU (T:Txt w K mg t):FnOk P w K mg base CX0 2 t.wH t.uP ["thing"] (sp_is_value K):=by
 have sc:=sc_is_value
 refine T.wX.ok sc (fun vs H Q E h=>?_) (fun cdv A outer s H vs Q E hr h=>?_)
 ·obtain⟨x,rfl,_⟩:=h
  rfl
 ·obtain⟨x,rfl,h⟩:=h
  refine⟨_,(aF (bA (pe_and (aH (yX T) (hr.mono (by decide)) (by rfl) T.zR T.wy.kp T.Ac .nil aN (aa (pv 0) ak aj)) (pe_one (pe_chain xP xU au (pv 0) (oE (by rfl) T.g_VALUES)))))),?_⟩
  rcases h with ⟨i,rfl,k⟩ | ⟨Tx,ty,hm,hne,k⟩
  ·refine⟨_,rfl,.int i, "int",true,rfl,rfl,by decide,by decide,true,rfl,kW ⟨_,rfl,_,_,rfl,rfl,_,rfl,iy (fun h=>?_) (fun h=>?_)⟩⟩
   ·have h':0≤i:=of_decide_eq_true h
    rw [decide_eq_true h',Bool.true_and] at k
    exact⟨_,_,rfl,rfl,k⟩
   ·have h':¬0≤i:=fun z=>h (decide_eq_true z)
    rw [decide_eq_false h',Bool.false_and] at k
    exact k
  ·exact⟨_,rfl,x,Tx,false,rfl,ty,hm,decide_eq_false hne,false,rfl,fP k⟩
def sp_Part___init__ (K:PySem.W.Frag) (t:Adr):Sp:=fun vs H Q _=>∃(i:Nat) (p dx a1 a2 a3:Addr) (nm:V) (ns is os:List V),vs=[.ref p,nm,.ref a1,.ref a2,.ref a3]∧H p=some (.ins (cls t i) dx [])∧SqA K H a1 ns∧SqA K H a2 is∧SqA K H a3 os∧
 ∀H',But p H H'→PartAt K t H' p i nm ns is os→Q .non H'
theorem sc_Part___init__:FnScope ["self", "name", "numbers", "ins", "outs"] ["self", "name", "numbers", "ins", "outs"] (aA fK):=⟨rfl,rfl,rfl,by decide +kernel,rfl,by decide +kernel,by decide +kernel⟩
theorem cB (T:Txt w K mg t):FnOk P w K mg base CX0 1 t.bY t.mZ ["self", "name", "numbers", "ins", "outs"] (sp_Part___init__ K t):=by
 have sc:=sc_Part___init__
 refine T.F_Part___init__.ok sc (fun vs H Q E h=>?_) (fun cdv A outer s H vs Q E hr h=>?_)
 ·obtain⟨i,p,dx,a1,a2,a3,nm,ns,is,os,rfl,_⟩:=h
  rfl
 ·obtain⟨i,p,dx,a1,a2,a3,nm,ns,is,os,rfl,hp,q1,q2,q3,k⟩:=h
  refine⟨_,(az (sZ (pv 0) (pv 1) rfl)
   (az (sZ (pv 0) (fC rG (by rfl) T.qe ou (aa (pv 2) ak aj)) rfl)
   (az (sZ (pv 0) (fC rG (by rfl) T.qe ou (aa (pv 3) ak aj)) rfl)
   (aF (sZ (pv 0) (fC rG (by rfl) T.qe ou (aa (pv 4) ak aj)) rfl))))),?_⟩
  refine⟨_,rfl,_,rfl,p,cls t i,dx,[],rfl,hp,mR T i,xK T i,by show 0 <1000;decide,?_⟩
  have b1:But p H (upd H p (.ins (cls t i) dx (bu "name" nm []))):=But.write
  have e1:(upd H p (.ins (cls t i) dx (bu "name" nm []))) p=some (.ins (cls t i) dx (bu "name" nm [])):=aq
  generalize upd H p (.ins (cls t i) dx (bu "name" nm []))=H1 at b1 e1 ⊢
  have r2:=b1.seqA hp q2
  have r3:=b1.seqA hp q3
  refine⟨_,rfl,a1,ns,rfl,b1.seqA hp q1,fun H2 u2 s2 t2=>⟨_,rfl,p,cls t i,dx,_,rfl,s2 _ _ e1,mR T i,zW T i,Nat.lt_of_le_of_lt (vQ (Nat.zero_le 0)) (by decide),?_⟩⟩
  have e2:=s2 _ _ e1
  have b2:But p H2 (upd H2 p (.ins (cls t i) dx (bu "numbers" (.ref u2) (bu "name" nm [])))):=But.write
  have e3:(upd H2 p (.ins (cls t i) dx (bu "numbers" (.ref u2) (bu "name" nm [])))) p=some (.ins (cls t i) dx (bu "numbers" (.ref u2) (bu "name" nm []))):=aq
  generalize upd H2 p (.ins (cls t i) dx (bu "numbers" (.ref u2) (bu "name" nm [])))=H3 at b2 e3 ⊢
  have r2':=b2.seqA e2 (s2.seqA r2)
  have r3':=b2.seqA e2 (s2.seqA r3)
  have t2':=b2.seqT e2 t2
  refine⟨_,rfl,a2,is,rfl,r2',fun H4 u4 s4 t4=>⟨_,rfl,p,cls t i,dx,_,rfl,s4 _ _ e3,mR T i,na_ins T i,Nat.lt_of_le_of_lt (vQ (vQ (Nat.zero_le 0))) (by decide),?_⟩⟩
  have e4:=s4 _ _ e3
  have b4:But p H4 (upd H4 p (.ins (cls t i) dx (bu "ins" (.ref u4) (bu "numbers" (.ref u2) (bu "name" nm []))))):=But.write
  have e5:(upd H4 p (.ins (cls t i) dx (bu "ins" (.ref u4) (bu "numbers" (.ref u2) (bu "name" nm []))))) p=some (.ins (cls t i) dx (bu "ins" (.ref u4) (bu "numbers" (.ref u2) (bu "name" nm [])))):=aq
  generalize upd H4 p (.ins (cls t i) dx (bu "ins" (.ref u4) (bu "numbers" (.ref u2) (bu "name" nm []))))=H5 at b4 e5 ⊢
  have r3'':=b4.seqA e4 (s4.seqA r3')
  have t2'':=b4.seqT e4 (s4.seqT t2')
  have t4':=b4.seqT e4 t4
  refine⟨_,rfl,a3,os,rfl,r3'',fun H6 u6 s6 t6=>⟨_,rfl,p,cls t i,dx,_,rfl,s6 _ _ e5,mR T i,na_outs T i,Nat.lt_of_le_of_lt (vQ (vQ (vQ (Nat.zero_le 0)))) (by decide),?_⟩⟩
  have e6:=s6 _ _ e5
  refine k _ (b1.trans ((But.of_same s2).trans (b2.trans ((But.of_same s4).trans (b4.trans ((But.of_same s6).trans But.write)))))) ⟨dx,u2,u4,u6,aq,?_,?_,?_⟩
  ·exact But.write.seqT e6 (s6.seqT t2'')
  ·exact But.write.seqT e6 (s6.seqT t4')
  ·exact But.write.seqT e6 t6
theorem sc_Give_kind:FnScope ["self"] ["self"] (aA lK):=⟨rfl,rfl,rfl,by decide +kernel,rfl,by decide +kernel,by decide +kernel⟩
theorem ok_Give_kind (T:Txt w K mg t):FnOk P w K mg base CX0 1 t.vq t.tV ["self"] (iY 0):=by
 have sc:=sc_Give_kind
 refine T.F_Give_kind.ok sc (fun vs H Q E h=>?_) (fun cdv A outer s H vs Q E hr h=>?_)
 ·obtain⟨x,rfl,_⟩:=h
  rfl
 ·obtain⟨x,rfl,k⟩:=h
  refine⟨_,(aF (bA bx)),?_⟩
  exact k
theorem sc_Take_kind:FnScope ["self"] ["self"] (aA lO):=⟨rfl,rfl,rfl,by decide +kernel,rfl,by decide +kernel,by decide +kernel⟩
theorem ok_Take_kind (T:Txt w K mg t):FnOk P w K mg base CX0 1 t.vm t.rN ["self"] (iY 1):=by
 have sc:=sc_Take_kind
 refine T.F_Take_kind.ok sc (fun vs H Q E h=>?_) (fun cdv A outer s H vs Q E hr h=>?_)
 ·obtain⟨x,rfl,_⟩:=h
  rfl
 ·obtain⟨x,rfl,k⟩:=h
  refine⟨_,(aF (bA bx)),?_⟩
  exact k
theorem sc_Pass_kind:FnScope ["self"] ["self"] (aA mj):=⟨rfl,rfl,rfl,by decide +kernel,rfl,by decide +kernel,by decide +kernel⟩
theorem ok_Pass_kind (T:Txt w K mg t):FnOk P w K mg base CX0 1 t.u9 t.rJ ["self"] (iY 2):=by
 have sc:=sc_Pass_kind
 refine T.F_Pass_kind.ok sc (fun vs H Q E h=>?_) (fun cdv A outer s H vs Q E hr h=>?_)
 ·obtain⟨x,rfl,_⟩:=h
  rfl
 ·obtain⟨x,rfl,k⟩:=h
  refine⟨_,(aF (bA bx)),?_⟩
  exact k
theorem sc_Copy_kind:FnScope ["self"] ["self"] (aA lQ):=⟨rfl,rfl,rfl,by decide +kernel,rfl,by decide +kernel,by decide +kernel⟩
theorem ok_Copy_kind (T:Txt w K mg t):FnOk P w K mg base CX0 1 t.uJ t.rR ["self"] (iY 3):=by
 have sc:=sc_Copy_kind
 refine T.F_Copy_kind.ok sc (fun vs H Q E h=>?_) (fun cdv A outer s H vs Q E hr h=>?_)
 ·obtain⟨x,rfl,_⟩:=h
  rfl
 ·obtain⟨x,rfl,k⟩:=h
  refine⟨_,(aF (bA bx)),?_⟩
  exact k
theorem sc_Turn_kind:FnScope ["self"] ["self"] (aA lU):=⟨rfl,rfl,rfl,by decide +kernel,rfl,by decide +kernel,by decide +kernel⟩
theorem ok_Turn_kind (T:Txt w K mg t):FnOk P w K mg base CX0 1 t.uD t.sX ["self"] (iY 4):=by
 have sc:=sc_Turn_kind
 refine T.F_Turn_kind.ok sc (fun vs H Q E h=>?_) (fun cdv A outer s H vs Q E hr h=>?_)
 ·obtain⟨x,rfl,_⟩:=h
  rfl
 ·obtain⟨x,rfl,k⟩:=h
  refine⟨_,(aF (bA bx)),?_⟩
  exact k
theorem sc_Heap_kind:FnScope ["self"] ["self"] (aA lG):=⟨rfl,rfl,rfl,by decide +kernel,rfl,by decide +kernel,by decide +kernel⟩
theorem ok_Heap_kind (T:Txt w K mg t):FnOk P w K mg base CX0 1 t.uF t.tR ["self"] (iY 5):=by
 have sc:=sc_Heap_kind
 refine T.F_Heap_kind.ok sc (fun vs H Q E h=>?_) (fun cdv A outer s H vs Q E hr h=>?_)
 ·obtain⟨x,rfl,_⟩:=h
  rfl
 ·obtain⟨x,rfl,k⟩:=h
  refine⟨_,(aF (bA bx)),?_⟩
  exact k
theorem sc_Add_kind:FnScope ["self"] ["self"] (aA mO):=⟨rfl,rfl,rfl,by decide +kernel,rfl,by decide +kernel,by decide +kernel⟩
theorem ok_Add_kind (T:Txt w K mg t):FnOk P w K mg base CX0 1 t.wN t.uh ["self"] (iY 6):=by
 have sc:=sc_Add_kind
 refine T.F_Add_kind.ok sc (fun vs H Q E h=>?_) (fun cdv A outer s H vs Q E hr h=>?_)
 ·obtain⟨x,rfl,_⟩:=h
  rfl
 ·obtain⟨x,rfl,k⟩:=h
  refine⟨_,(aF (bA bx)),?_⟩
  exact k
theorem sc_Less_kind:FnScope ["self"] ["self"] (aA lX):=⟨rfl,rfl,rfl,by decide +kernel,rfl,by decide +kernel,by decide +kernel⟩
theorem ok_Less_kind (T:Txt w K mg t):FnOk P w K mg base CX0 1 t.uc t.sG ["self"] (iY 7):=by
 have sc:=sc_Less_kind
 refine T.F_Less_kind.ok sc (fun vs H Q E h=>?_) (fun cdv A outer s H vs Q E hr h=>?_)
 ·obtain⟨x,rfl,_⟩:=h
  rfl
 ·obtain⟨x,rfl,k⟩:=h
  refine⟨_,(aF (bA bx)),?_⟩
  exact k
theorem sc_Order_kind:FnScope ["self"] ["self"] (aA iW):=⟨rfl,rfl,rfl,by decide +kernel,rfl,by decide +kernel,by decide +kernel⟩
theorem ok_Order_kind (T:Txt w K mg t):FnOk P w K mg base CX0 1 t.rO t.qU ["self"] (iY 8):=by
 have sc:=sc_Order_kind
 refine T.F_Order_kind.ok sc (fun vs H Q E h=>?_) (fun cdv A outer s H vs Q E hr h=>?_)
 ·obtain⟨x,rfl,_⟩:=h
  rfl
 ·obtain⟨x,rfl,k⟩:=h
  refine⟨_,(aF (bA bx)),?_⟩
  exact k
theorem sc_Choose_kind:FnScope ["self"] ["self"] (aA gQ):=⟨rfl,rfl,rfl,by decide +kernel,rfl,by decide +kernel,by decide +kernel⟩
theorem ok_Choose_kind (T:Txt w K mg t):FnOk P w K mg base CX0 1 t.qI t.pY ["self"] (iY 9):=by
 have sc:=sc_Choose_kind
 refine T.F_Choose_kind.ok sc (fun vs H Q E h=>?_) (fun cdv A outer s H vs Q E hr h=>?_)
 ·obtain⟨x,rfl,_⟩:=h
  rfl
 ·obtain⟨x,rfl,k⟩:=h
  refine⟨_,(aF (bA bx)),?_⟩
  exact k
theorem sc_Split_kind:FnScope ["self"] ["self"] (aA iK):=⟨rfl,rfl,rfl,by decide +kernel,rfl,by decide +kernel,by decide +kernel⟩
theorem ok_Split_kind (T:Txt w K mg t):FnOk P w K mg base CX0 1 t.sI t.qX ["self"] (iY 10):=by
 have sc:=sc_Split_kind
 refine T.F_Split_kind.ok sc (fun vs H Q E h=>?_) (fun cdv A outer s H vs Q E hr h=>?_)
 ·obtain⟨x,rfl,_⟩:=h
  rfl
 ·obtain⟨x,rfl,k⟩:=h
  refine⟨_,(aF (bA bx)),?_⟩
  exact k
def sp_is_kind:Sp:=fun vs H Q _=>∃z:Str,vs=[.str z]∧Q (.bl (rowOf ROWS z).isSome) H
theorem sc_is_kind:FnScope ["word"] ["word"] (aA pA):=⟨rfl,rfl,rfl,by decide +kernel,rfl,by decide +kernel,by decide +kernel⟩
theorem zO (T:Txt w K mg t):FnOk P w K mg base CX0 1 t.ye t.wV ["word"] (sp_is_kind):=by
 have sc:=sc_is_kind
 refine T.yt.ok sc (fun vs H Q E h=>?_) (fun cdv A outer s H vs Q E hr h=>?_)
 ·obtain⟨z,rfl,_⟩:=h
  rfl
 ·obtain⟨z,rfl,k⟩:=h
  refine⟨_,(aF (bA (pe_cmp (pc_inK (pv 0) (zg (v:=.ref _) (by rfl) T.mt_COUNTS rfl)) (by with_unfolding_all rfl)))),?_⟩
  exact⟨_,rfl,t.oJ,ROWS,z,rfl,T.t_COUNTS,rfl,k⟩
def sp_need_fit (K:PySem.W.Frag):Sp:=fun vs H Q _=>∃(i:Nat) (nm:V) (a1 a2 a3:Addr) (ns is os:List V),vs=[.str (dZ i),nm,.ref a1,.ref a2,.ref a3]∧SqA K H a1 ns∧SqA K H a2 is∧SqA K H a3 os∧
 ns.length=cN i∧is.length=cI i∧os.length=cO i∧(∀v∈ns,Val v)∧∀H',aO H H'→Q .non H'
theorem sc_need_fit:FnScope ["kind", "name", "numbers", "ins", "outs", "counts"] ["kind", "name", "numbers", "ins", "outs"] (aA lC):=⟨rfl,rfl,rfl,by decide +kernel,rfl,by decide +kernel,by decide +kernel⟩
theorem ok_need_fit (T:Txt w K mg t):FnOk P w K mg base CX0 3 t.wK t.vh ["kind", "name", "numbers", "ins", "outs"] (sp_need_fit K):=by
 have sc:=sc_need_fit
 refine T.Ag.ok sc (fun vs H Q E h=>?_) (fun cdv A outer s H vs Q E hr h=>?_)
 ·obtain⟨i,nm,a1,a2,a3,ns,is,os,rfl,_⟩:=h
  rfl
 ·obtain⟨i,nm,a1,a2,a3,ns,is,os,rfl,h1,h2,h3,l1,l2,l3,hv,k⟩:=h
  refine⟨_,(az (cz (km (mK (aH (zO T) (hr.mono (by decide)) (by rfl) T.m_is_kind T.yt.kp T.b_is_kind .nil aN (aa (pv 0) ak aj))))
    (aF mC)
    bJ)
   (az (bD (i:=5) sc.nd rfl (Or.inl rfl) (pe_getK (zg (v:=.ref _) (by rfl) T.mt_COUNTS rfl) (pv 0) (fun _ _=>rfl)))
   (az (cz (PW.pt (tY (bC op_ne (bI cj (by rfl) T.gh dR (aa (pv 2) ak aj)) (bG dW (pv 5) au (fun _ _=>rfl)) (bW _)) (qR (km (mK (bI (Ab rfl) (by rfl) T.n_all bt_all (aa (rQ [] ["kind", "name", "numbers", "ins", "outs", "counts"] (aA lC) rfl (pi_or (fG (pv 2)) (pi_tup (pv 2))) (fun _ _ _ _ _=>fW) (fun _ _ _ _ _=>(aH (yU T) (hr.mono (by decide)) (by rfl) T.zQ T.wX.kp T.Ae .nil aN (aa (pv 0) ak aj)))) ak gU)))))))
    (aF mC)
    bJ)
   (aF (cz (PW.pt (tY (bC op_ne (bI cj (by rfl) T.gh dR (aa (pv 3) ak aj)) (bG dW (pv 5) au (fun _ _=>rfl)) (bW _)) (qR (bC op_ne (bI cj (by rfl) T.gh dR (aa (pv 4) ak aj)) (bG dW (pv 5) au (fun _ _=>rfl)) (bW _)))))
    (aF mC)
    bJ))))),?_⟩
  have hl:sizeLine=16777216:=sizeLine_eq
  have hN:=cN_le i
  have hI:=cI_le i
  have hO:=cO_le i
  refine⟨_,rfl,dZ i,rfl,true,by rw [row_of];rfl,fP ?_⟩
  refine⟨_,rfl,t.oJ,ROWS,dZ i,_,rfl,T.t_COUNTS,rfl,row_of i,fun ad had=>?_⟩
  refine⟨_,rfl,.ref a1,ns.length,rfl,h1.len,_,rfl,ad,_,0,_,rfl,rfl,had,aQ (j:=0) rfl,rfl,_,rfl,?_⟩
  rw [show(!decide (V.int ((ns.length:Nat):Int)=V.int ((cN i:Nat):Int)))=false by rw [l1];simp]
  refine fP ?_
  refine comp_A (a:=a1) (xs:=ns) ?_ h1 (fun j ys=>ys=(List.replicate j true).map V.bl) (by omega) rfl (fun j ys e=>by rw [e];simp) (fun j x ys hx e=>?_) (fun ys e D hD=>?_)
  ·exact fun R r=>⟨_,rfl,r⟩
  ·subst e
   obtain⟨n,rfl,n0,n1⟩:=hv x (List.mem_of_getElem? hx)
   refine yes ⟨_,rfl,.int n,rfl,.inl ⟨n,rfl,rfl,?_⟩⟩
   rw [decide_eq_true n0,decide_eq_true n1,List.replicate_succ']
   simp
  ·subst e
   refine⟨D,_,rfl,SqL.of aq,_,rfl,?_⟩
   rw [show((List.replicate ns.length true).all id)=true by simp]
   refine fP ?_
   have s1:aO H (upd H D (.lst ((List.replicate ns.length true).map V.bl))):=aC hD
   refine⟨_,rfl,.ref a2,is.length,rfl,(s1.seqA h2).len,_,rfl,ad,_,1,_,rfl,rfl,s1.seqT had,aQ (j:=1) rfl,rfl,_,rfl,?_⟩
   rw [show(!decide (V.int ((is.length:Nat):Int)=V.int ((cI i:Nat):Int)))=false by rw [l2];simp]
   refine fP ?_
   refine⟨_,rfl,.ref a3,os.length,rfl,(s1.seqA h3).len,_,rfl,ad,_,2,_,rfl,rfl,s1.seqT had,aQ (j:=2) rfl,rfl,_,rfl,?_⟩
   rw [show(!decide (V.int ((os.length:Nat):Int)=V.int ((cO i:Nat):Int)))=false by rw [l3];simp]
   exact fP (k _ s1)
def sp_made_of (K:PySem.W.Frag) (t:Adr):Sp:=fun vs H Q _=>∃(i:Nat) (nm:V) (a1 a2 a3:Addr) (ns is os:List V),vs=[.str (dZ i),nm,.ref a1,.ref a2,.ref a3]∧i≤10∧SqA K H a1 ns∧SqA K H a2 is∧SqA K H a3 os∧
 ∀H' p,aO H H'→H p=none→PartAt K t H' p i nm ns is os→Q (.ref p) H'
theorem sc_made_of:FnScope ["kind", "name", "numbers", "ins", "outs"] ["kind", "name", "numbers", "ins", "outs"] (aA pF):=⟨rfl,rfl,rfl,by decide +kernel,rfl,by decide +kernel,by decide +kernel⟩
theorem ok_made_of (T:Txt w K mg t):FnOk P w K mg base CX0 3 t.yx t.wW ["kind", "name", "numbers", "ins", "outs"] (sp_made_of K t):=by
 have sc:=sc_made_of
 refine T.F_made_of.ok sc (fun vs H Q E h=>?_) (fun cdv A outer s H vs Q E hr h=>?_)
 ·obtain⟨i,nm,a1,a2,a3,ns,is,os,rfl,_⟩:=h
  rfl
 ·obtain⟨i,nm,a1,a2,a3,ns,is,os,rfl,hi,h1,h2,h3,k⟩:=h
  refine⟨_,(az (cz (bC gJ (pv 0) bx (bW _))
    (aF (bA (iZ T.M_Give (cB T) (hr.mono (by decide)) (by rfl) T.mc_Give T.cC .nil aN (aa (pv 1) (aa (pv 2) (aa (pv 3) (aa (pv 4) ak aj) aj) aj) aj))))
    bJ)
   (az (cz (bC gJ (pv 0) bx (bW _))
    (aF (bA (iZ T.M_Take (cB T) (hr.mono (by decide)) (by rfl) T.mc_Take T.cC .nil aN (aa (pv 1) (aa (pv 2) (aa (pv 3) (aa (pv 4) ak aj) aj) aj) aj))))
    bJ)
   (az (cz (bC gJ (pv 0) bx (bW _))
    (aF (bA (iZ T.M_Pass (cB T) (hr.mono (by decide)) (by rfl) T.mc_Pass T.cC .nil aN (aa (pv 1) (aa (pv 2) (aa (pv 3) (aa (pv 4) ak aj) aj) aj) aj))))
    bJ)
   (az (cz (bC gJ (pv 0) bx (bW _))
    (aF (bA (iZ T.M_Copy (cB T) (hr.mono (by decide)) (by rfl) T.mc_Copy T.cC .nil aN (aa (pv 1) (aa (pv 2) (aa (pv 3) (aa (pv 4) ak aj) aj) aj) aj))))
    bJ)
   (az (cz (bC gJ (pv 0) bx (bW _))
    (aF (bA (iZ T.M_Turn (cB T) (hr.mono (by decide)) (by rfl) T.mc_Turn T.cC .nil aN (aa (pv 1) (aa (pv 2) (aa (pv 3) (aa (pv 4) ak aj) aj) aj) aj))))
    bJ)
   (az (cz (bC gJ (pv 0) bx (bW _))
    (aF (bA (iZ T.M_Heap (cB T) (hr.mono (by decide)) (by rfl) T.mc_Heap T.cC .nil aN (aa (pv 1) (aa (pv 2) (aa (pv 3) (aa (pv 4) ak aj) aj) aj) aj))))
    bJ)
   (az (cz (bC gJ (pv 0) bx (bW _))
    (aF (bA (iZ T.M_Add (cB T) (hr.mono (by decide)) (by rfl) T.mc_Add T.cC .nil aN (aa (pv 1) (aa (pv 2) (aa (pv 3) (aa (pv 4) ak aj) aj) aj) aj))))
    bJ)
   (az (cz (bC gJ (pv 0) bx (bW _))
    (aF (bA (iZ T.M_Less (cB T) (hr.mono (by decide)) (by rfl) T.mc_Less T.cC .nil aN (aa (pv 1) (aa (pv 2) (aa (pv 3) (aa (pv 4) ak aj) aj) aj) aj))))
    bJ)
   (az (cz (bC gJ (pv 0) bx (bW _))
    (aF (bA (iZ T.M_Order (cB T) (hr.mono (by decide)) (by rfl) T.mc_Order T.cC .nil aN (aa (pv 1) (aa (pv 2) (aa (pv 3) (aa (pv 4) ak aj) aj) aj) aj))))
    bJ)
   (az (cz (bC gJ (pv 0) bx (bW _))
    (aF (bA (iZ T.M_Choose (cB T) (hr.mono (by decide)) (by rfl) T.mc_Choose T.cC .nil aN (aa (pv 1) (aa (pv 2) (aa (pv 3) (aa (pv 4) ak aj) aj) aj) aj))))
    bJ)
   (aF (bA (iZ T.M_Split (cB T) (hr.mono (by decide)) (by rfl) T.mc_Split T.cC .nil aN (aa (pv 1) (aa (pv 2) (aa (pv 3) (aa (pv 4) ak aj) aj) aj) aj)))))))))))))),?_⟩
  match i,hi with
  | 0,_=>
   refine⟨_,rfl,rfl,_,rfl,tG rfl ?_⟩
   refine⟨_,rfl,_,rfl,_,rfl,_,rfl,fun x dx nx ndx nex=>?_⟩
   have s0:aO H (upd (upd H dx (.own x)) x (.ins t.eO dx [])):=fun b o e=>by rw [aK (aD e nx),aK (aD e ndx)];exact e
   exact⟨0,x,dx,a1,a2,a3,nm,ns,is,os,rfl,aq,s0.seqA h1,s0.seqA h2,s0.seqA h3,fun H' b P=>⟨rfl,k H' x (fun c o e=>b c o (aD e nx) (s0 c o e)) nx P⟩⟩
  | 1,_=>
   refine⟨_,rfl,rfl,_,rfl,dJ (by decide +kernel) ?_⟩
   refine⟨_,rfl,rfl,_,rfl,tG rfl ?_⟩
   refine⟨_,rfl,_,rfl,_,rfl,_,rfl,fun x dx nx ndx nex=>?_⟩
   have s0:aO H (upd (upd H dx (.own x)) x (.ins t.eG dx [])):=fun b o e=>by rw [aK (aD e nx),aK (aD e ndx)];exact e
   exact⟨1,x,dx,a1,a2,a3,nm,ns,is,os,rfl,aq,s0.seqA h1,s0.seqA h2,s0.seqA h3,fun H' b P=>⟨rfl,k H' x (fun c o e=>b c o (aD e nx) (s0 c o e)) nx P⟩⟩
  | 2,_=>
   refine⟨_,rfl,rfl,_,rfl,dJ (by decide +kernel) ?_⟩
   refine⟨_,rfl,rfl,_,rfl,dJ (by decide +kernel) ?_⟩
   refine⟨_,rfl,rfl,_,rfl,tG rfl ?_⟩
   refine⟨_,rfl,_,rfl,_,rfl,_,rfl,fun x dx nx ndx nex=>?_⟩
   have s0:aO H (upd (upd H dx (.own x)) x (.ins t.eY dx [])):=fun b o e=>by rw [aK (aD e nx),aK (aD e ndx)];exact e
   exact⟨2,x,dx,a1,a2,a3,nm,ns,is,os,rfl,aq,s0.seqA h1,s0.seqA h2,s0.seqA h3,fun H' b P=>⟨rfl,k H' x (fun c o e=>b c o (aD e nx) (s0 c o e)) nx P⟩⟩
  | 3,_=>
   refine⟨_,rfl,rfl,_,rfl,dJ (by decide +kernel) ?_⟩
   refine⟨_,rfl,rfl,_,rfl,dJ (by decide +kernel) ?_⟩
   refine⟨_,rfl,rfl,_,rfl,dJ (by decide +kernel) ?_⟩
   refine⟨_,rfl,rfl,_,rfl,tG rfl ?_⟩
   refine⟨_,rfl,_,rfl,_,rfl,_,rfl,fun x dx nx ndx nex=>?_⟩
   have s0:aO H (upd (upd H dx (.own x)) x (.ins t.eQ dx [])):=fun b o e=>by rw [aK (aD e nx),aK (aD e ndx)];exact e
   exact⟨3,x,dx,a1,a2,a3,nm,ns,is,os,rfl,aq,s0.seqA h1,s0.seqA h2,s0.seqA h3,fun H' b P=>⟨rfl,k H' x (fun c o e=>b c o (aD e nx) (s0 c o e)) nx P⟩⟩
  | 4,_=>
   refine⟨_,rfl,rfl,_,rfl,dJ (by decide +kernel) ?_⟩
   refine⟨_,rfl,rfl,_,rfl,dJ (by decide +kernel) ?_⟩
   refine⟨_,rfl,rfl,_,rfl,dJ (by decide +kernel) ?_⟩
   refine⟨_,rfl,rfl,_,rfl,dJ (by decide +kernel) ?_⟩
   refine⟨_,rfl,rfl,_,rfl,tG rfl ?_⟩
   refine⟨_,rfl,_,rfl,_,rfl,_,rfl,fun x dx nx ndx nex=>?_⟩
   have s0:aO H (upd (upd H dx (.own x)) x (.ins t.eX dx [])):=fun b o e=>by rw [aK (aD e nx),aK (aD e ndx)];exact e
   exact⟨4,x,dx,a1,a2,a3,nm,ns,is,os,rfl,aq,s0.seqA h1,s0.seqA h2,s0.seqA h3,fun H' b P=>⟨rfl,k H' x (fun c o e=>b c o (aD e nx) (s0 c o e)) nx P⟩⟩
  | 5,_=>
   refine⟨_,rfl,rfl,_,rfl,dJ (by decide +kernel) ?_⟩
   refine⟨_,rfl,rfl,_,rfl,dJ (by decide +kernel) ?_⟩
   refine⟨_,rfl,rfl,_,rfl,dJ (by decide +kernel) ?_⟩
   refine⟨_,rfl,rfl,_,rfl,dJ (by decide +kernel) ?_⟩
   refine⟨_,rfl,rfl,_,rfl,dJ (by decide +kernel) ?_⟩
   refine⟨_,rfl,rfl,_,rfl,tG rfl ?_⟩
   refine⟨_,rfl,_,rfl,_,rfl,_,rfl,fun x dx nx ndx nex=>?_⟩
   have s0:aO H (upd (upd H dx (.own x)) x (.ins t.eU dx [])):=fun b o e=>by rw [aK (aD e nx),aK (aD e ndx)];exact e
   exact⟨5,x,dx,a1,a2,a3,nm,ns,is,os,rfl,aq,s0.seqA h1,s0.seqA h2,s0.seqA h3,fun H' b P=>⟨rfl,k H' x (fun c o e=>b c o (aD e nx) (s0 c o e)) nx P⟩⟩
  | 6,_=>
   refine⟨_,rfl,rfl,_,rfl,dJ (by decide +kernel) ?_⟩
   refine⟨_,rfl,rfl,_,rfl,dJ (by decide +kernel) ?_⟩
   refine⟨_,rfl,rfl,_,rfl,dJ (by decide +kernel) ?_⟩
   refine⟨_,rfl,rfl,_,rfl,dJ (by decide +kernel) ?_⟩
   refine⟨_,rfl,rfl,_,rfl,dJ (by decide +kernel) ?_⟩
   refine⟨_,rfl,rfl,_,rfl,dJ (by decide +kernel) ?_⟩
   refine⟨_,rfl,rfl,_,rfl,tG rfl ?_⟩
   refine⟨_,rfl,_,rfl,_,rfl,_,rfl,fun x dx nx ndx nex=>?_⟩
   have s0:aO H (upd (upd H dx (.own x)) x (.ins t.gM dx [])):=fun b o e=>by rw [aK (aD e nx),aK (aD e ndx)];exact e
   exact⟨6,x,dx,a1,a2,a3,nm,ns,is,os,rfl,aq,s0.seqA h1,s0.seqA h2,s0.seqA h3,fun H' b P=>⟨rfl,k H' x (fun c o e=>b c o (aD e nx) (s0 c o e)) nx P⟩⟩
  | 7,_=>
   refine⟨_,rfl,rfl,_,rfl,dJ (by decide +kernel) ?_⟩
   refine⟨_,rfl,rfl,_,rfl,dJ (by decide +kernel) ?_⟩
   refine⟨_,rfl,rfl,_,rfl,dJ (by decide +kernel) ?_⟩
   refine⟨_,rfl,rfl,_,rfl,dJ (by decide +kernel) ?_⟩
   refine⟨_,rfl,rfl,_,rfl,dJ (by decide +kernel) ?_⟩
   refine⟨_,rfl,rfl,_,rfl,dJ (by decide +kernel) ?_⟩
   refine⟨_,rfl,rfl,_,rfl,dJ (by decide +kernel) ?_⟩
   refine⟨_,rfl,rfl,_,rfl,tG rfl ?_⟩
   refine⟨_,rfl,_,rfl,_,rfl,_,rfl,fun x dx nx ndx nex=>?_⟩
   have s0:aO H (upd (upd H dx (.own x)) x (.ins t.eV dx [])):=fun b o e=>by rw [aK (aD e nx),aK (aD e ndx)];exact e
   exact⟨7,x,dx,a1,a2,a3,nm,ns,is,os,rfl,aq,s0.seqA h1,s0.seqA h2,s0.seqA h3,fun H' b P=>⟨rfl,k H' x (fun c o e=>b c o (aD e nx) (s0 c o e)) nx P⟩⟩
  | 8,_=>
   refine⟨_,rfl,rfl,_,rfl,dJ (by decide +kernel) ?_⟩
   refine⟨_,rfl,rfl,_,rfl,dJ (by decide +kernel) ?_⟩
   refine⟨_,rfl,rfl,_,rfl,dJ (by decide +kernel) ?_⟩
   refine⟨_,rfl,rfl,_,rfl,dJ (by decide +kernel) ?_⟩
   refine⟨_,rfl,rfl,_,rfl,dJ (by decide +kernel) ?_⟩
   refine⟨_,rfl,rfl,_,rfl,dJ (by decide +kernel) ?_⟩
   refine⟨_,rfl,rfl,_,rfl,dJ (by decide +kernel) ?_⟩
   refine⟨_,rfl,rfl,_,rfl,dJ (by decide +kernel) ?_⟩
   refine⟨_,rfl,rfl,_,rfl,tG rfl ?_⟩
   refine⟨_,rfl,_,rfl,_,rfl,_,rfl,fun x dx nx ndx nex=>?_⟩
   have s0:aO H (upd (upd H dx (.own x)) x (.ins t.dm dx [])):=fun b o e=>by rw [aK (aD e nx),aK (aD e ndx)];exact e
   exact⟨8,x,dx,a1,a2,a3,nm,ns,is,os,rfl,aq,s0.seqA h1,s0.seqA h2,s0.seqA h3,fun H' b P=>⟨rfl,k H' x (fun c o e=>b c o (aD e nx) (s0 c o e)) nx P⟩⟩
  | 9,_=>
   refine⟨_,rfl,rfl,_,rfl,dJ (by decide +kernel) ?_⟩
   refine⟨_,rfl,rfl,_,rfl,dJ (by decide +kernel) ?_⟩
   refine⟨_,rfl,rfl,_,rfl,dJ (by decide +kernel) ?_⟩
   refine⟨_,rfl,rfl,_,rfl,dJ (by decide +kernel) ?_⟩
   refine⟨_,rfl,rfl,_,rfl,dJ (by decide +kernel) ?_⟩
   refine⟨_,rfl,rfl,_,rfl,dJ (by decide +kernel) ?_⟩
   refine⟨_,rfl,rfl,_,rfl,dJ (by decide +kernel) ?_⟩
   refine⟨_,rfl,rfl,_,rfl,dJ (by decide +kernel) ?_⟩
   refine⟨_,rfl,rfl,_,rfl,dJ (by decide +kernel) ?_⟩
   refine⟨_,rfl,rfl,_,rfl,tG rfl ?_⟩
   refine⟨_,rfl,_,rfl,_,rfl,_,rfl,fun x dx nx ndx nex=>?_⟩
   have s0:aO H (upd (upd H dx (.own x)) x (.ins t.cG dx [])):=fun b o e=>by rw [aK (aD e nx),aK (aD e ndx)];exact e
   exact⟨9,x,dx,a1,a2,a3,nm,ns,is,os,rfl,aq,s0.seqA h1,s0.seqA h2,s0.seqA h3,fun H' b P=>⟨rfl,k H' x (fun c o e=>b c o (aD e nx) (s0 c o e)) nx P⟩⟩
  | 10,_=>
   refine⟨_,rfl,rfl,_,rfl,dJ (by decide +kernel) ?_⟩
   refine⟨_,rfl,rfl,_,rfl,dJ (by decide +kernel) ?_⟩
   refine⟨_,rfl,rfl,_,rfl,dJ (by decide +kernel) ?_⟩
   refine⟨_,rfl,rfl,_,rfl,dJ (by decide +kernel) ?_⟩
   refine⟨_,rfl,rfl,_,rfl,dJ (by decide +kernel) ?_⟩
   refine⟨_,rfl,rfl,_,rfl,dJ (by decide +kernel) ?_⟩
   refine⟨_,rfl,rfl,_,rfl,dJ (by decide +kernel) ?_⟩
   refine⟨_,rfl,rfl,_,rfl,dJ (by decide +kernel) ?_⟩
   refine⟨_,rfl,rfl,_,rfl,dJ (by decide +kernel) ?_⟩
   refine⟨_,rfl,rfl,_,rfl,dJ (by decide +kernel) ?_⟩
   refine⟨_,rfl,_,rfl,_,rfl,_,rfl,fun x dx nx ndx nex=>?_⟩
   have s0:aO H (upd (upd H dx (.own x)) x (.ins t.dj dx [])):=fun b o e=>by rw [aK (aD e nx),aK (aD e ndx)];exact e
   exact⟨10,x,dx,a1,a2,a3,nm,ns,is,os,rfl,aq,s0.seqA h1,s0.seqA h2,s0.seqA h3,fun H' b P=>⟨rfl,k H' x (fun c o e=>b c o (aD e nx) (s0 c o e)) nx P⟩⟩
  | (n+11),h=>exact absurd h (by omega)
def sp_part_made (K:PySem.W.Frag) (t:Adr):Sp:=fun vs H Q _=>∃(i:Nat) (nm:V) (a1 a2 a3:Addr) (ns is os:List V),vs=[.str (dZ i),nm,.ref a1,.ref a2,.ref a3]∧i≤10∧SqA K H a1 ns∧SqA K H a2 is∧SqA K H a3 os∧
 ns.length=cN i∧is.length=cI i∧os.length=cO i∧(∀v∈ns,Val v)∧∀H' p,aO H H'→H p=none→PartAt K t H' p i nm ns is os→Q (.ref p) H'
theorem sc_part_made:FnScope ["kind", "name", "numbers", "ins", "outs"] ["kind", "name", "numbers", "ins", "outs"] (aA lJ):=⟨rfl,rfl,rfl,by decide +kernel,rfl,by decide +kernel,by decide +kernel⟩
theorem ok_part_made (T:Txt w K mg t):FnOk P w K mg base CX0 4 t.uX t.sU ["kind", "name", "numbers", "ins", "outs"] (sp_part_made K t):=by
 have sc:=sc_part_made
 refine T.yP.ok sc (fun vs H Q E h=>?_) (fun cdv A outer s H vs Q E hr h=>?_)
 ·obtain⟨i,nm,a1,a2,a3,ns,is,os,rfl,_⟩:=h
  rfl
 ·obtain⟨i,nm,a1,a2,a3,ns,is,os,rfl,hi,h1,h2,h3,l1,l2,l3,hv,k⟩:=h
  refine⟨_,(az (bz (aH (ok_need_fit T) (hr.mono (by decide)) (by rfl) T.m_need_fit T.Ag.kp T.b_need_fit .nil aN (aa (pv 0) (aa (pv 1) (aa (pv 2) (aa (pv 3) (aa (pv 4) ak aj) aj) aj) aj) aj)))
   (aF (bA (aH (ok_made_of T) (hr.mono (by decide)) (by rfl) T.m_made_of T.F_made_of.kp T.b_made_of .nil aN (aa (pv 0) (aa (pv 1) (aa (pv 2) (aa (pv 3) (aa (pv 4) ak aj) aj) aj) aj) aj))))),?_⟩
  refine⟨_,rfl,_,rfl,_,rfl,_,rfl,_,rfl,i,nm,a1,a2,a3,ns,is,os,rfl,h1,h2,h3,l1,l2,l3,hv,fun H1 s1=>?_⟩
  exact⟨_,rfl,_,rfl,_,rfl,_,rfl,_,rfl,i,nm,a1,a2,a3,ns,is,os,rfl,hi,s1.seqA h1,s1.seqA h2,s1.seqA h3,fun H2 p s2 np P=>k H2 p (s1.trans s2) (s1.free np) P⟩
def sp__law_mix:Sp:=fun vs H Q _=>∃a b:Int,vs=[.int a,.int b]∧Q (.int (cu a b)) H
theorem sc__law_mix:FnScope ["_law_cell_here", "_law_k", "_law_number"] ["_law_cell_here", "_law_k"] (aA mU):=⟨rfl,rfl,rfl,by decide +kernel,rfl,by decide +kernel,by decide +kernel⟩
theorem aV (T:Txt w K mg t):FnOk P w K mg base CX0 1 t.wQ t.uK ["_law_cell_here", "_law_k"] (sp__law_mix):=by
 have sc:=sc__law_mix
 refine T.aZ.ok sc (fun vs H Q E h=>?_) (fun cdv A outer s H vs Q E hr h=>?_)
 ·obtain⟨a,b,rfl,_⟩:=h
  rfl
 ·obtain⟨a,b,rfl,k⟩:=h
  refine⟨_,(az (bD (i:=2) sc.nd rfl (Or.inl rfl) (bj cL (bj cQ (bj cQ (bj iQ (bj cL (pv 0) au) au) (bj iQ au (pv 1))) au) au))
   (az (bD (i:=2) sc.nd rfl (Or.inl rfl) (bj cL (bj iQ (pv 2) (pv 2)) au))
   (aF (bA (bj cL (bj iQ (bj cQ (pv 2) (bj iQ au (pv 1))) (pv 2)) au))))),?_⟩
  refine⟨_,rfl,_,_,rfl,rfl,by show(0:Int) <2147483647;decide,_,_,rfl,rfl,mulOk_smallR,_,rfl,_,_,rfl,rfl,eZ,_,_,rfl,rfl,_,_,rfl,rfl,_,_,rfl,rfl,by show(0:Int) <2147483647;decide,?_⟩
  unfold cu at k
  have y0:0≤(a % 2147483647 * 48271+7919 * b+11) % 2147483647:=Int.emod_nonneg _ (by decide)
  have y1:(a % 2147483647 * 48271+7919 * b+11) % 2147483647 <2147483647:=Int.emod_lt_of_pos _ (by decide)
  refine⟨_,rfl,_,rfl,_,_,rfl,rfl,.of_right (intBits_le_64 (Int.lt_of_lt_of_le (show -(2 ^ 64) <(0:Int) by decide) y0) (Int.lt_trans y1 (by decide))),_,_,rfl,rfl,by show(0:Int) <2147483629;decide,?_⟩
  have z0:0≤((a % 2147483647 * 48271+7919 * b+11) % 2147483647) * ((a % 2147483647 * 48271+7919 * b+11) % 2147483647) % 2147483629:=Int.emod_nonneg _ (by decide)
  have z1:((a % 2147483647 * 48271+7919 * b+11) % 2147483647) * ((a % 2147483647 * 48271+7919 * b+11) % 2147483647) % 2147483629 <2147483629:=Int.emod_lt_of_pos _ (by decide)
  exact⟨_,rfl,_,rfl,_,_,rfl,rfl,eZ,_,_,rfl,rfl,_,rfl,_,_,rfl,rfl,.of_right (intBits_le_64 (Int.lt_of_lt_of_le (show -(2 ^ 64) <(0:Int) by decide) z0) (Int.lt_trans z1 (by decide))),_,_,rfl,rfl,by show(0:Int) <2147483587;decide,k⟩
def sp__law_cell (K:PySem.W.Frag):Sp:=fun vs H Q _=>∃(a:Addr) (ns:List Int) (j:Nat),vs=[.ref a,.int (j:Nat)]∧SqL K H a (ns.map V.int)∧Q (.int (gj ns j)) H
theorem sc__law_cell:FnScope ["_law_script", "_law_k"] ["_law_script", "_law_k"] (aA lN):=⟨rfl,rfl,rfl,by decide +kernel,rfl,by decide +kernel,by decide +kernel⟩
theorem fO (T:Txt w K mg t):FnOk P w K mg base CX0 1 t.ut t.sH ["_law_script", "_law_k"] (sp__law_cell K):=by
 have sc:=sc__law_cell
 refine T.fM.ok sc (fun vs H Q E h=>?_) (fun cdv A outer s H vs Q E hr h=>?_)
 ·obtain⟨a,ns,j,rfl,_⟩:=h
  rfl
 ·obtain⟨a,ns,j,rfl,hS,k⟩:=h
  refine⟨_,(az (cz (bC xU (pv 1) (bI cj (by rfl) T.gh dR (aa (pv 0) ak aj)) (bW _))
    (aF (bA (bG bN (pv 0) (pv 1) (fun _ _=>rfl))))
    bJ)
   (aF (bA (bj cQ (bj iQ au (pv 1)) au)))),?_⟩
  unfold gj at k
  refine⟨_,rfl,_,rfl,.ref a,ns.length,rfl,.inl ⟨_,hS,by simp⟩,_,_,rfl,rfl,_,rfl,iy (fun h=>?_) (fun h=>?_)⟩
  ·have h':j <ns.length:=by have:=of_decide_eq_true h;omega
   rw [List.getElem?_eq_getElem h'] at k
   exact⟨_,rfl,_,rfl,a,_,j,_,rfl,rfl,hS,aQ (by rw [List.getElem?_map,List.getElem?_eq_getElem h'];rfl),k⟩
  ·have h':¬j <ns.length:=fun z=>h (decide_eq_true (by omega))
   rw [List.getElem?_eq_none (by omega)] at k
   exact⟨_,rfl,_,_,rfl,rfl,eZ,_,_,rfl,rfl,k⟩
def sp__law_value:Sp:=fun vs H Q _=>∃a b:Int,vs=[.int a,.int b]∧Q (.int (tW a b)) H
theorem sc__law_value:FnScope ["_law_cell_here", "_law_k", "_law_number", "_law_way"] ["_law_cell_here", "_law_k"] (aA iV):=⟨rfl,rfl,rfl,by decide +kernel,rfl,by decide +kernel,by decide +kernel⟩
theorem nH (T:Txt w K mg t):FnOk P w K mg base CX0 2 t.sS t.qJ ["_law_cell_here", "_law_k"] (sp__law_value):=by
 have sc:=sc__law_value
 refine T.mG.ok sc (fun vs H Q E h=>?_) (fun cdv A outer s H vs Q E hr h=>?_)
 ·obtain⟨a,b,rfl,_⟩:=h
  rfl
 ·obtain⟨a,b,rfl,k⟩:=h
  refine⟨_,(az (bD (i:=2) sc.nd rfl (Or.inl rfl) (aH (aV T) (hr.mono (by decide)) (by rfl) T.bf T.aZ.kp T.bc .nil aN (aa (pv 0) (aa (pv 1) ak aj) aj)))
   (az (bD (i:=3) sc.nd rfl (Or.inl rfl) (bj cL (bj op_fdivB (pv 2) au) au))
   (az (cz (bC gJ (pv 3) au (bW _))
    (aF (bA (bj cL (pv 2) au)))
    bJ)
   (az (cz (bC gJ (pv 3) au (bW _))
    (aF (bA (bj cL (pv 2) (bj op_pow au au))))
    bJ)
   (aF (bA (bj op_sub (bj op_sub (bj op_pow au au) au) (bj cL (pv 2) au)))))))),?_⟩
  refine⟨_,rfl,_,rfl,a,b,rfl,?_⟩
  unfold tW at k
  have n0:=yV a b
  generalize cu a b=n at n0 k ⊢
  refine⟨_,rfl,_,_,rfl,rfl,divOk (by decide) (by decide),_,_,rfl,rfl,by show(0:Int) <3;decide,?_⟩
  refine⟨_,rfl,rfl,_,rfl,iy (fun h=>?_) (fun h=>?_)⟩
  ·have h':n / 7 % 3=0:=by simpa using of_decide_eq_true h
   rw [if_pos h'] at k
   exact⟨_,rfl,_,_,rfl,rfl,by show(0:Int) <5;decide,k⟩
  have h':¬n / 7 % 3=0:=fun z=>h (decide_eq_true (by show V.int (n / 7 % 3)=V.int 0;rw [z]))
  rw [if_neg h'] at k
  refine⟨_,rfl,rfl,_,rfl,iy (fun h2=>?_) (fun h2=>?_)⟩
  ·have h2':n / 7 % 3=1:=by simpa using of_decide_eq_true h2
   rw [if_pos h2'] at k
   exact⟨_,rfl,_,_,rfl,rfl,⟨by decide,by decide,by decide⟩,_,_,rfl,rfl,by show(0:Int) <10 ^ 9;decide,k⟩
  have h2':¬n / 7 % 3=1:=fun z=>h2 (decide_eq_true (by show V.int (n / 7 % 3)=V.int 1;rw [z]))
  rw [if_neg h2'] at k
  exact⟨_,_,rfl,rfl,⟨by decide,by decide,by decide⟩,_,_,rfl,rfl,_,rfl,_,_,rfl,rfl,by show(0:Int) <3;decide,_,_,rfl,rfl,k⟩
theorem str_ext {x y:Str} (h:x.cps.toList=y.cps.toList):x=y:=PyProof.Rows.ext_toList h
theorem log_small {n:Int} (h0:0≤n) (h1:n <2000):n.natAbs.log2 <1920:=by
 by_cases z:n.natAbs=0
 ·rw [z]
  decide
 ·have:n.natAbs.log2 <11:=(Nat.log2_lt z).mpr (by omega)
  omega
theorem join_ones (cs:List Nat):(Txt.join Str.empty (cs.map fun c=>(⟨#[c]⟩:Str))).cps.toList=cs:=by
 unfold Txt.join
 rw [StrLaws.glued_eq_join,Ar]
 induction cs with
 | nil=>rfl
 | cons c r ih=>simpa using ih
theorem cut_to {x:Str} {n:Nat} (h:n≤x.length):(Txt.slice x none (some (n:Int))).cps.toList=x.cps.toList.take n:=by
 have e:=beq_iff_eq.mp (PyProof.Rows.slice_closes_toL (x:=x) (j:=(n:Int)) (by omega) (by omega))
 rw [e]
 simp
theorem cut_from {x:Str} {n:Nat} (h:n≤x.length):(Txt.slice x (some (n:Int)) none).cps.toList=x.cps.toList.drop n:=by
 have e:=PyProof.Rows.slice_from_eq (x:=x) (i:=(n:Int)) (b:=(x.length:Int)) (by omega) (by omega) rfl
 rw [e]
 show List.take ((x.length:Int) - n).toNat (List.drop ((n:Int)).toNat x.cps.toList)=_
 rw [Int.toNat_natCast,List.take_of_length_le (by rw [List.length_drop,iJ];omega)]
def sp__law_word:Sp:=fun vs H Q _=>∃(a:Int) (b:Nat),vs=[.int a,.int (b:Nat)]∧b≤25∧∀H':Hp,aO H H'→Q (.str (aG a b)) H'
theorem sc__law_word:FnScope ["_law_cell_here", "_law_k", "_law_letters", "_law_many", "_law_base", "_law_at"] ["_law_cell_here", "_law_k"] (aA iB):=⟨rfl,rfl,rfl,by decide +kernel,rfl,by decide +kernel,by decide +kernel⟩
theorem cT (T:Txt w K mg t):FnOk P w K mg base CX0 2 t.uN t.tK ["_law_cell_here", "_law_k"] (sp__law_word):=by
 have sc:=sc__law_word
 refine T.cZ.ok sc (fun vs H Q E h=>?_) (fun cdv A outer s H vs Q E hr h=>?_)
 ·obtain⟨a,b,rfl,_⟩:=h
  rfl
 ·obtain⟨a,b,rfl,b1,k⟩:=h
  refine⟨_,(az (bD (i:=2) sc.nd rfl (Or.inr rfl) bx)
   (az (cz (bC gJ (bj cL (aH (aV T) (hr.mono (by decide)) (by rfl) T.bf T.aZ.kp T.bc .nil aN (aa (pv 0) (aa au ak ao) aj)) au) au (bW _))
    (aF (bA (bj wB (bG Ak (pv 2) (bj cL (aH (aV T) (hr.mono (by decide)) (by rfl) T.bf T.aZ.kp T.bc .nil aN (aa (pv 0) (aa au ak ao) aj)) au) (fun _ _=>rfl)) (fC call_str_int (by rfl) T.n_str bt_str (aa (bj cQ (bj cL (aH (aV T) (hr.mono (by decide)) (by rfl) T.bf T.aZ.kp T.bc .nil aN (aa (pv 0) (aa au ak ao) aj)) au) (bj iQ au (pv 1))) ak bZ)))))
    bJ)
   (az (bD (i:=3) sc.nd rfl (Or.inl rfl) (bj cL (aH (aV T) (hr.mono (by decide)) (by rfl) T.bf T.aZ.kp T.bc .nil aN (aa (pv 0) (aa au ak ao) aj)) au))
   (az (bD (i:=4) sc.nd rfl (Or.inl rfl) (ir PySem.F.plainAttrs_str PySem.F.slot_str_join PySem.F.type_str_join mt_join bx (aa (rQ [0,2] ["_law_cell_here", "_law_k", "_law_letters", "_law_many", "_law_base", "_law_at"] (aA iB) rfl (lV rfl T.qg (aa (pv 3) ak aj)) (fun _ _ _ _ _=>fW) (fun _ _ _ _ _=>(bG Ak (pv 2) (bj cL (aH (aV T) (hr.mono (by decide)) (by rfl) T.bf T.aZ.kp T.bc .nil aN (aa (pv 1) (aa (bj cQ au (pv 0)) ak bZ) aj)) au) (fun _ _=>rfl)))) ak gU)))
   (az (bD (i:=5) sc.nd rfl (Or.inl rfl) (bj cL (aH (aV T) (hr.mono (by decide)) (by rfl) T.bf T.aZ.kp T.bc .nil aN (aa (pv 0) (aa au ak ao) aj)) (bj cQ (pv 3) au)))
   (aF (bA (bj wB (bj wB (fL sl_str (pv 4) rU (d8 (pv 5))) (bG Ak (pv 2) (bj cL (bj cQ (aH (aV T) (hr.mono (by decide)) (by rfl) T.bf T.aZ.kp T.bc .nil aN (aa (pv 0) (aa au ak ao) aj)) (pv 1)) au) (fun _ _=>rfl))) (fL sl_str (pv 4) (d8 (pv 5)) rU))))))))),?_⟩
  have hl:sizeLine=16777216:=sizeLine_eq
  have hF:(aG a b).cps.toList=yD a b:=zE a b
  unfold yD at hF
  refine⟨_,rfl,_,_,rfl,⟨_,_,rfl,rfl,by show(0:Int) <3;decide,rfl,_,rfl,iy (fun hw=>?_) (fun hw=>?_)⟩⟩
  ·have hw':cu a 52 % 3=0:=by simpa using of_decide_eq_true hw
   rw [if_pos hw'] at hF
   refine⟨_,rfl,_,rfl,_,_,rfl,?_⟩
   refine⟨_,_,rfl,rfl,by show(0:Int) <26;decide,LT,_,_,rfl,rfl,by rw [lt_len];omega,lt_at _,?_⟩
   refine⟨_,rfl,_,_,rfl,⟨_,_,rfl,rfl,by show(0:Int) <1000;decide,_,rfl,_,_,rfl,rfl,eZ,_,_,rfl,rfl,?_⟩⟩
   have q0:=Int.emod_nonneg (cu a 54) (show(1000:Int)≠0 by decide)
   have q1:=Int.emod_lt_of_pos (cu a 54) (show(0:Int) <1000 by decide)
   obtain⟨m,hm⟩:∃m:Nat,cu a 54 % 1000+37 * (b:Int)=(m:Int):=⟨(cu a 54 % 1000+37 * (b:Int)).toNat,by omega⟩
   obtain⟨_,g2,_⟩:=vO (n:=m) (by omega)
   have g3:(toString (m:Int):Str).length≤4:=by rw [←iJ];exact g2
   have e:(⟨#[ltc (cu a 53)]⟩:Str) ++ (toString (m:Int):Str)=aG a b:=str_ext (by
    rw [hF,Str.cps_append,hm,Int.toNat_natCast]
    simp only [Array.toList_append]
    rfl)
   have k':=k H (aO.refl _)
   rw [←e] at k'
   dsimp only
   rw [hm]
   exact⟨_,rfl,log_small (by omega) (by omega),_,_,rfl,rfl,by show 1+_≤sizeLine;omega,k'⟩
  have hw':¬cu a 52 % 3=0:=fun z=>hw (decide_eq_true (by show V.int (cu a 52 % 3)=V.int 0;rw [z]))
  rw [if_neg hw'] at hF
  refine⟨_,rfl,_,_,rfl,⟨_,_,rfl,rfl,by show(0:Int) <7;decide,?_⟩⟩
  have z0:=Int.emod_nonneg (cu a 50) (show(7:Int)≠0 by decide)
  have z1:=Int.emod_lt_of_pos (cu a 50) (show(0:Int) <7 by decide)
  refine⟨rfl,_,rfl,cu a 50 % 7,rfl,by omega,by omega,?_⟩
  refine pX (fun i ys H'=>H'=H∧ys=((List.range i).map fun j=>ltc (cu a (60+(j:Nat)))).map fun c=>V.str ⟨#[c]⟩) (by omega) ⟨rfl,rfl⟩ (fun i ys H' ⟨_,e⟩=>by rw [e,lM,lM,List.length_range];omega) ?_ ?_
  ·rintro i ys H' hi ⟨rfl,rfl⟩
   refine yes ?_
   refine⟨_,rfl,_,rfl,_,rfl,_,_,rfl,rfl,_,_,rfl,?_⟩
   refine⟨_,_,rfl,rfl,by show(0:Int) <26;decide,LT,_,_,rfl,rfl,by rw [lt_len];omega,lt_at _,rfl,?_⟩
   rw [List.range_succ,List.map_append,List.map_append]
   simp
  rintro ys H' ⟨rfl,rfl⟩ D hD
  have eb:((List.range (cu a 50 % 7).toNat).map fun j=>ltc (cu a (60+(j:Nat))))=gq a:=rfl
  rw [eb]
  have s1:aO H' (upd H' D (.lst ((gq a).map fun c=>V.str ⟨#[c]⟩))):=aC hD
  have bl:=(z7 a).1
  have es:((gq a).map fun c=>V.str ⟨#[c]⟩)=((gq a).map fun c=>(⟨#[c]⟩:Str)).map V.str:=by rw [List.map_map];rfl
  refine⟨Str.empty,D,(gq a).map fun c=>(⟨#[c]⟩:Str),rfl,rfl,SqL.of (by rw [←es];exact aq),?_,?_⟩
  ·have:=sum_le (n:=1) ((gq a).map fun c=>(⟨#[c]⟩:Str)) fun w h=>by
    obtain⟨c,_,rfl⟩:=List.mem_map.mp h
    exact Nat.le_refl 1
   have he:Str.empty.length=0:=rfl
   rw [he]
   rw [lM] at this
   omega
  have ej:=join_ones (gq a)
  generalize upd H' D (.lst ((gq a).map fun c=>V.str ⟨#[c]⟩))=H1 at s1 ⊢
  generalize Txt.join Str.empty ((gq a).map fun c=>(⟨#[c]⟩:Str))=x0 at ej ⊢
  have hx0:x0.length=(gq a).length:=by rw [←iJ,ej]
  refine⟨_,rfl,_,_,rfl,⟨_,rfl,_,_,rfl,rfl,_,_,rfl,rfl,by show(0:Int) <cu a 50 % 7+1;omega,?_⟩⟩
  have hsp:=spot_le a
  obtain⟨n,hn,hn2⟩:∃n:Nat,cu a 51 % (cu a 50 % 7+1)=(n:Int)∧n=qw a:=⟨qw a,(Int.toNat_of_nonneg (Int.emod_nonneg _ (by omega))).symm,rfl⟩
  rw [←hn2] at hsp hF
  dsimp only
  rw [hn]
  have s0:=Txt.slice_le x0 none (some (n:Int))
  have s2:=Txt.slice_le x0 (some (n:Int)) none
  refine⟨_,rfl,_,rfl,_,rfl,x0,rfl,by omega,_,rfl,_,rfl,_,_,rfl,⟨_,rfl,_,_,rfl,rfl,?_⟩⟩
  have h1:(⟨#[ltc (cu a 55+(b:Int))]⟩:Str).length=1:=rfl
  refine⟨_,_,rfl,rfl,by show(0:Int) <26;decide,LT,_,_,rfl,rfl,by rw [lt_len];omega,lt_at _,_,_,rfl,rfl,by rw [h1];omega,?_⟩
  refine⟨_,rfl,_,rfl,_,rfl,x0,rfl,by omega,_,_,rfl,rfl,by rw [Str.length_append,h1];omega,?_⟩
  have e:Txt.slice x0 none (some (n:Int)) ++ (⟨#[ltc (cu a 55+(b:Int))]⟩:Str) ++ Txt.slice x0 (some (n:Int)) none=aG a b:=str_ext (by
   rw [hF,Str.cps_append,Str.cps_append]
   simp only [Array.toList_append]
   rw [cut_to (by omega),cut_from (by omega),ej]
   simp)
  rw [e]
  exact k H1 s1
theorem pick5 (m:Int):∃c:Nat,atI [V.int 0,.int 0,.int 0,.int 1,.int 2] (m % 5)=some (.int (c:Nat))∧c≤2:=by
 have key:∀j,j <5→atI [V.int 0,.int 0,.int 0,.int 1,.int 2] ((j:Nat):Int)=some (.int (([0,0,0,1,2]:List Nat).getD j 0:Nat))∧([0,0,0,1,2]:List Nat).getD j 0≤2:=by decide +kernel
 obtain⟨j,e,hj⟩:=modNat m (n:=5) (k:=5) (by decide) rfl
 rw [e]
 exact⟨_,key j hj⟩
theorem pick6 (m:Int):∃c:Nat,atI [V.int 0,.int 0,.int 1,.int 1,.int 2,.int 7] (m % 6)=some (.int (c:Nat))∧c≤7:=by
 have key:∀j,j <6→atI [V.int 0,.int 0,.int 1,.int 1,.int 2,.int 7] ((j:Nat):Int)=some (.int (([0,0,1,1,2,7]:List Nat).getD j 0:Nat))∧([0,0,1,1,2,7]:List Nat).getD j 0≤7:=by decide +kernel
 obtain⟨j,e,hj⟩:=modNat m (n:=6) (k:=6) (by decide) rfl
 rw [e]
 exact⟨_,key j hj⟩
def sp__law_lane:Sp:=fun vs H Q _=>∃(d:Dw) (ls:List LaneD) (ps:List PD) (os:List Str) (c:Int) (b:Bool),vs=[.ref d.S,.int c,.bl b]∧DAt d H ls ps os∧ls.length≤24∧∀(l:LaneD) (H':Hp),l.name=aG d.c3 ls.length→aO (bR d.E H) (bR d.E H')→DAt d H' (ls ++ [l]) ps os→Q (.str l.name) H'
theorem sc__law_lane:FnScope ["_law_state", "_law_cell_here", "_law_back", "_law_many", "_law_first", "_law_room", "_law_name"] ["_law_state", "_law_cell_here", "_law_back"] (aA iD):=⟨rfl,rfl,rfl,by decide +kernel,rfl,by decide +kernel,by decide +kernel⟩
theorem mz (T:Txt w K mg t):FnOk P w K mg base CX0 3 t.vA t.rM ["_law_state", "_law_cell_here", "_law_back"] (sp__law_lane):=by
 have sc:=sc__law_lane
 refine T.lR.ok sc (fun vs H Q E h=>?_) (fun cdv A outer s H vs Q E hr h=>?_)
 ·obtain⟨d,ls,ps,os,c,b,rfl,_⟩:=h
  rfl
 ·obtain⟨d,ls,ps,os,c,b,rfl,D,hn,k⟩:=h
  refine⟨_,(az (bD (i:=3) sc.nd rfl (Or.inl rfl) (bG bN (bh (aa au (aa au (aa au (aa au (aa au ak ao) ao) ao) ao) ao)) (bj cL (aH (aV T) (hr.mono (by decide)) (by rfl) T.bf T.aZ.kp T.bc .nil aN (aa (pv 1) (aa au ak ao) aj)) au) (fun _ _=>rfl)))
   (az (fH (cz (mK (pv 2))
    (aF (bD (i:=3) sc.nd rfl (Or.inl rfl) (bj cL (aH (aV T) (hr.mono (by decide)) (by rfl) T.bf T.aZ.kp T.bc .nil aN (aa (pv 1) (aa au ak ao) aj)) au)))
    bJ))
   (az (nU (i:=4) [1] ["_law_state", "_law_cell_here", "_law_back", "_law_many", "_law_first", "_law_room", "_law_name"] (aA iD) rfl sc.nd rfl (lV rfl T.qg (aa (pv 3) ak aj)) (fun _ _ _ _ _=>fW) (fun _ _ _ _ _=>(aH (nH T) (hr.mono (by decide)) (by rfl) T.oZ T.mG.kp T.oX .nil aN (aa (pv 1) (aa (bj cQ au (pv 0)) ak bZ) aj))))
   (az (bD (i:=5) sc.nd rfl (Or.inl rfl) (bj cQ (bI (call_max2 rfl) (by rfl) T.n_max bt_max (aa au (aa (pv 3) ak aj) ao)) (bG bN (bh (aa au (aa au (aa au (aa au (aa au (aa au ak ao) ao) ao) ao) ao) ao)) (bj cL (aH (aV T) (hr.mono (by decide)) (by rfl) T.bf T.aZ.kp T.bc .nil aN (aa (pv 1) (aa au ak ao) aj)) au) (fun _ _=>rfl))))
   (az (bD (i:=6) sc.nd rfl (Or.inl rfl) (aH (cT T) (hr.mono (by decide)) (by rfl) T.dD T.cZ.kp T.dG .nil aN (aa (bG bN (pv 0) au (fun _ _=>rfl)) (aa (bI cj (by rfl) T.gh dR (aa (bG bN (pv 0) au (fun _ _=>rfl)) ak aJ)) ak aW) aJ)))
   (az (bz (ir PySem.F.plainAttrs_list PySem.F.slot_list_append PySem.F.type_list_append dh (bG bN (pv 0) au (fun _ _=>rfl)) (aa (cM (aa (pv 6) (aa (pv 5) (aa (pv 4) ak aj) aj) aj)) ak cg)))
   (aF (bA (pv 6))))))))),?_⟩
  have hl:sizeLine=16777216:=sizeLine_eq
  refine⟨by show 5≤sizeLine;exact szl,fun l0 n0=>?_⟩
  have s0:=aC (o:=.lst [.int 0,.int 0,.int 0,.int 1,.int 2]) n0
  obtain⟨c0,e0,h0⟩:=pick5 (cu c 1)
  refine⟨_,rfl,_,_,rfl,_,_,rfl,rfl,by show(0:Int) <5;decide,l0,_,_,_,rfl,rfl,SqL.of aq,e0,?_⟩
  generalize upd H l0 (.lst [.int 0,.int 0,.int 0,.int 1,.int 2])=H0 at s0 ⊢
  refine⟨fun σ H1=>∃m:Nat,m≤3∧H1=H0∧σ=[some (.ref d.S),some (.int c),some (.bl b),some (.int (m:Nat)),none,none,none],?_,?_⟩
  ·cases b
   ·exact⟨_,rfl,false,rfl,fP ⟨c0,by omega,rfl,rfl⟩⟩
   ·refine⟨_,rfl,true,rfl,kW ⟨_,rfl,_,_,rfl,_,_,rfl,rfl,by show(0:Int) <4;decide,?_⟩⟩
    have h1:=Int.emod_nonneg (cu c 1) (show(4:Int)≠0 by decide)
    have h2:=Int.emod_lt_of_pos (cu c 1) (show(0:Int) <4 by decide)
    refine⟨(cu c 1 % 4).toNat,by omega,rfl,?_⟩
    rw [Int.toNat_of_nonneg h1]
    rfl
  rintro σ H1 ⟨m,hm,rfl,rfl⟩
  refine⟨_,rfl,(m:Int),rfl,by omega,by omega,?_⟩
  rw [Int.toNat_natCast]
  refine pX (fun i ys H'=>H'=H1∧∃ws:List Int,ys=ws.map V.int∧ws.length=i∧∀v∈ws,0≤v∧v <1000000000) (by omega) ⟨rfl,[],rfl,rfl,by simp⟩ (fun i ys H' ⟨_,ws,e,e2,_⟩=>by rw [e,lM];omega) ?_ ?_
  ·rintro i ys H' hi ⟨rfl,ws,rfl,hw,hB⟩
   refine yes ⟨_,rfl,_,rfl,_,_,rfl,rfl,c,10+(0+(i:Int)),rfl,rfl,ws ++ [tW c (10+(0+(i:Int)))],by simp,by simp [hw],fun v hv=>?_⟩
   rcases List.mem_append.mp hv with hv | hv
   ·exact hB v hv
   ·rw [List.mem_singleton] at hv
    subst hv
    exact vK _ _
  rintro ys H' ⟨rfl,ws,rfl,hw,hB⟩ F nF
  have t1:=aC (o:=.lst (ws.map V.int)) nF
  have sF:=s0.trans t1
  have eF:upd H' F (.lst (ws.map V.int)) F=some (.lst (ws.map V.int)):=aq
  have oF:F∉d.E:=D.out (s0.free nF)
  generalize upd H' F (.lst (ws.map V.int))=H2 at t1 sF eF ⊢
  refine⟨_,rfl,_,_,rfl,by show 6≤sizeLine;exact szl,fun l1 n1=>?_⟩
  have t2:=aC (o:=.lst [.int 0,.int 0,.int 1,.int 1,.int 2,.int 7]) n1
  obtain⟨c1,e1,h1⟩:=pick6 (cu c 2)
  refine⟨_,rfl,_,_,rfl,_,_,rfl,rfl,by show(0:Int) <6;decide,l1,_,_,_,rfl,rfl,SqL.of aq,e1,_,_,rfl,rfl,?_⟩
  have s2:=sF.trans t2
  have eF2:=t2 _ _ eF
  generalize upd H2 l1 (.lst [.int 0,.int 0,.int 1,.int 1,.int 2,.int 7])=H3 at t2 s2 eF2 ⊢
  have D3:=D.keep s2
  obtain⟨xs,eL,aL⟩:=D3.lanes
  have xl:=aL.length
  refine⟨_,rfl,d.S,_,3,_,rfl,rfl,D3.seqS,aQ (j:=3) rfl,?_⟩
  refine⟨_,rfl,d.S,_,0,_,rfl,rfl,D3.seqS,aQ (j:=0) rfl,.ref d.L,ls.length,rfl,.inl ⟨_,SqL.of eL,xl.symm⟩,?_⟩
  refine⟨d.c3,ls.length,rfl,by omega,fun H4 s4=>?_⟩
  have D4:=D3.keep s4
  have eL4:=s4 _ _ eL
  have eF4:=s4 _ _ eF2
  have s04:=s2.trans s4
  refine⟨_,rfl,d.S,_,0,_,rfl,rfl,D4.seqS,aQ (j:=0) rfl,?_⟩
  refine⟨.inl ⟨rfl,_,SqL.of eL4⟩,_,rfl,_,rfl,_,rfl,by show 3≤sizeLine;exact szl,fun q nq=>?_⟩
  have t5:=aC (o:=.tup [.str (aG d.c3 ls.length),.int ((if (m:Int) >1 then(m:Int) else 1)+(c1:Int)),.ref F]) nq
  have s5:=s04.trans t5
  have D5:=D4.keep t5
  have oq:q∉d.E:=D4.out nq
  have eq:upd H4 q (.tup [.str (aG d.c3 ls.length),.int ((if (m:Int) >1 then(m:Int) else 1)+(c1:Int)),.ref F]) q=some (.tup [.str (aG d.c3 ls.length),.int ((if (m:Int) >1 then(m:Int) else 1)+(c1:Int)),.ref F]):=aq
  have eL5:=t5 _ _ eL4
  have eF5:=t5 _ _ eF4
  refine⟨d.L,xs,_,rfl,rfl,eL5,by omega,_,rfl,?_⟩
  refine k ⟨aG d.c3 ls.length,(if (m:Int) >1 then(m:Int) else 1)+(c1:Int),ws⟩ _ rfl ?_ (D5.lane ⟨q,F,rfl,dM eq oq,dM eF5 oF⟩ ⟨by dsimp only;split <;> omega,by dsimp only;split <;> omega,by dsimp only;split <;> omega,hB⟩ rfl eL5)
  rw [dN (by simp)]
  exact D.cut s5
theorem pop_at:∀{os:List Str} {j:Nat} (h:j <os.length),os.Perm (os[j]:: os.eraseIdx j)
 | [],_,h=>absurd h (by simp)
 | a:: l,0,_=>.refl _
 | a:: l,j+1,h=>by
  have h':j <l.length:=by simpa using h
  show(a:: l).Perm (l[j]:: a:: l.eraseIdx j)
  exact((pop_at (os:=l) (j:=j) (by simpa using h)).cons a).trans (.swap _ _ _)
theorem erase_map {α β:Type} {f:α→β}:∀(l:List α) (j:Nat),(l.map f).eraseIdx j=(l.eraseIdx j).map f
 | [],_=>rfl
 | a:: l,0=>rfl
 | a:: l,j+1=>by
  show f a:: (l.map f).eraseIdx j=f a:: (l.eraseIdx j).map f
  rw [erase_map l j]
theorem ix_nat {j n:Nat} (h:j <n):seqIndex? (j:Int) n=some j:=by
 unfold seqIndex?
 have z:¬(j:Int) <0:=by omega
 simp [h,z]
def sp__law_pick:Sp:=fun vs H Q _=>∃(d:Dw) (ls:List LaneD) (ps:List PD) (os:List Str) (n:Int),vs=[.ref d.S,.int n]∧DAt d H ls ps os∧os≠[]∧os.length≤100∧∀(x:Str) (os':List Str) (H':Hp),os.Perm (x:: os')→aO (bR d.E H) (bR d.E H')→DAt d H' ls ps os'→Q (.str x) H'
theorem sc__law_pick:FnScope ["_law_state", "_law_number"] ["_law_state", "_law_number"] (aA lY):=⟨rfl,rfl,rfl,by decide +kernel,rfl,by decide +kernel,by decide +kernel⟩
theorem sV (T:Txt w K mg t):FnOk P w K mg base CX0 1 t.uM t.rP ["_law_state", "_law_number"] (sp__law_pick):=by
 have sc:=sc__law_pick
 refine T.qt.ok sc (fun vs H Q E h=>?_) (fun cdv A outer s H vs Q E hr h=>?_)
 ·obtain⟨d,ls,ps,os,n,rfl,_⟩:=h
  rfl
 ·obtain⟨d,ls,ps,os,n,rfl,D,hne,hs,k⟩:=h
  refine⟨_,(aF (bA (ir PySem.F.plainAttrs_list PySem.F.slot_list_pop PySem.F.type_list_pop Am (bG bN (pv 0) au (fun _ _=>rfl)) (aa (bj cL (pv 1) (bI cj (by rfl) T.gh dR (aa (bG bN (pv 0) au (fun _ _=>rfl)) ak aJ))) ak bZ)))),?_⟩
  have hpos:0 <os.length:=List.length_pos_iff.mpr hne
  refine⟨_,rfl,d.S,_,2,_,rfl,rfl,D.seqS,aQ (j:=2) rfl,.inl ⟨rfl,_,SqL.of D.opens⟩,?_⟩
  refine⟨_,rfl,_,rfl,d.S,_,2,_,rfl,rfl,D.seqS,aQ (j:=2) rfl,.ref d.O,os.length,rfl,.inl ⟨_,SqL.of D.opens,by simp⟩,n,(os.length:Int),rfl,rfl,by omega,?_⟩
  have h0:=Int.emod_nonneg n (show(os.length:Int)≠0 by omega)
  have h1:=Int.emod_lt_of_pos n (show(0:Int) <(os.length:Int) by omega)
  obtain⟨j,hj⟩:∃j:Nat,n % (os.length:Int)=(j:Int):=⟨(n % (os.length:Int)).toNat,by omega⟩
  have hj':j <os.length:=by omega
  refine⟨d.O,_,(j:Int),j,.str os[j],rfl,by show [V.int (n % (os.length:Int))]=_;rw [hj],D.opens,by omega,by omega,by rw [lM];exact ix_nat hj',by rw [List.getElem?_map,List.getElem?_eq_getElem hj'];rfl,?_⟩
  rw [erase_map]
  exact k os[j] (os.eraseIdx j) _ (pop_at hj') (by rw [dN (by simp)];exact aO.refl _) D.open
def sp__law_part:Sp:=fun vs H Q _=>∃(d:Dw) (ls:List LaneD) (ps:List PD) (os:List Str) (c:Int) (i:Nat) (a1 a2:Addr) (nums:List Int) (ins:List Str) (many:Nat),vs=[.ref d.S,.int c,.str (dZ i),.ref a1,.ref a2,.int (many:Nat)]∧DAt d H ls ps os∧bR d.E H a1=some (.lst (nums.map V.int))∧bR d.E H a2=some (.lst (ins.map V.str))∧i <11∧nums.length=cN i∧(∀v∈nums,0≤v∧v <1000000000)∧ins.length=cI i∧many=cO i∧ls.length≤22∧ps.length≤25∧os.length≤100∧∀(newl:List LaneD) (H':Hp),newl.length=many→aO (bR d.E H) (bR d.E H')→DAt d H' (ls ++ newl) (ps ++ [⟨i,aG d.c4 ps.length,nums,ins,newl.map (·.name)⟩]) (os ++ newl.map (·.name))→Q .non H'
theorem sc__law_part:FnScope ["_law_state", "_law_cell_here", "_law_kind", "_law_numbers", "_law_ins", "_law_many", "_law_outs"] ["_law_state", "_law_cell_here", "_law_kind", "_law_numbers", "_law_ins", "_law_many"] (aA iu):=⟨rfl,rfl,rfl,by decide +kernel,rfl,by decide +kernel,by decide +kernel⟩
theorem cU (T:Txt w K mg t):FnOk P w K mg base CX0 4 t.ul t.tE ["_law_state", "_law_cell_here", "_law_kind", "_law_numbers", "_law_ins", "_law_many"] (sp__law_part):=by
 have sc:=sc__law_part
 refine T.cX.ok sc (fun vs H Q E h=>?_) (fun cdv A outer s H vs Q E hr h=>?_)
 ·obtain⟨d,ls,ps,os,c,i,a1,a2,nums,ins,many,rfl,_⟩:=h
  rfl
 ·obtain⟨d,ls,ps,os,c,i,a1,a2,nums,ins,many,rfl,D,e1,e2,hi,hN,hB,hI,hO,hls,hps,hos,k⟩:=h
  refine⟨_,(az (nU (i:=6) [0,1] ["_law_state", "_law_cell_here", "_law_kind", "_law_numbers", "_law_ins", "_law_many", "_law_outs"] (aA iu) rfl sc.nd rfl (lV rfl T.qg (aa (pv 5) ak aj)) (fun _ _ _ _ _=>fW) (fun _ _ _ _ _=>(aH (mz T) (hr.mono (by decide)) (by rfl) T.nZ T.lR.kp T.n8 .nil aN (aa (pv 1) (aa (aH (aV T) (hr.mono (by decide)) (by rfl) T.bf T.aZ.kp T.bc .nil aN (aa (pv 2) (aa (bj cQ au (pv 0)) ak bZ) aj)) (aa oG ak ao) aW) aj))))
   (az (bz (ir PySem.F.plainAttrs_list PySem.F.slot_list_append PySem.F.type_list_append dh (bG bN (pv 0) au (fun _ _=>rfl)) (aa (cM (aa (pv 2) (aa (aH (cT T) (hr.mono (by decide)) (by rfl) T.dD T.cZ.kp T.dG .nil aN (aa (bG bN (pv 0) au (fun _ _=>rfl)) (aa (bI cj (by rfl) T.gh dR (aa (bG bN (pv 0) au (fun _ _=>rfl)) ak aJ)) ak aW) aJ)) (aa (pv 3) (aa (pv 4) (aa (pv 6) ak aj) aj) aj) aW) aj)) ak cg)))
   (aF (bz (ir PySem.F.plainAttrs_list PySem.F.slot_list_extend PySem.F.type_list_extend mt_extend (bG bN (pv 0) au (fun _ _=>rfl)) (aa (pv 6) ak aj)))))),?_⟩
  have hl:sizeLine=16777216:=sizeLine_eq
  have hm2:many≤2:=by rw [hO];exact cO_le i
  refine⟨_,rfl,(many:Int),rfl,by omega,by omega,?_⟩
  rw [Int.toNat_natCast]
  refine pX (fun i ys H'=>∃newl:List LaneD,newl.length=i∧ys=newl.map (fun l=>V.str l.name)∧aO (bR d.E H) (bR d.E H')∧DAt d H' (ls ++ newl) ps os) (by omega) ⟨[],rfl,rfl,aO.refl _,by rw [List.append_nil];exact D⟩ (fun i ys H' ⟨newl,e,e2,_⟩=>by rw [e2,lM];omega) ?_ ?_
  ·rintro j ys H' hj ⟨newl,hn,rfl,s,D'⟩
   refine yes ⟨_,rfl,_,rfl,_,rfl,_,_,rfl,rfl,c,20+(0+(j:Int)),rfl,?_⟩
   refine⟨d,ls ++ newl,ps,os,_,false,rfl,D',by rw [lP];omega,fun l H1 _ s1 D1=>?_⟩
   exact⟨newl ++ [l],by simp [hn],by simp,s.trans s1,by rw [←List.append_assoc];exact D1⟩
  rintro ys H1 ⟨newl,hn,rfl,s1,D1⟩ F nF
  have t1:=aC (o:=.lst (newl.map fun l=>V.str l.name)) nF
  have eF:upd H1 F (.lst (newl.map fun l=>V.str l.name)) F=some (.lst ((newl.map (·.name)).map V.str)):=by rw [List.map_map];exact aq
  have oF:=D1.out nF
  have D2:=D1.keep t1
  have s2:=s1.trans (D1.cut t1)
  generalize upd H1 F (.lst (newl.map fun l=>V.str l.name))=H2 at t1 eF D2 s2 ⊢
  obtain⟨xs,eP,aP⟩:=D2.parts
  have xl:=aP.length
  refine⟨_,rfl,d.S,_,1,_,rfl,rfl,D2.seqS,aQ (j:=1) rfl,.inl ⟨rfl,_,SqL.of eP⟩,?_⟩
  refine⟨_,rfl,_,rfl,d.S,_,4,_,rfl,rfl,D2.seqS,aQ (j:=4) rfl,?_⟩
  refine⟨_,rfl,d.S,_,1,_,rfl,rfl,D2.seqS,aQ (j:=1) rfl,.ref d.P,ps.length,rfl,.inl ⟨_,SqL.of eP,xl.symm⟩,?_⟩
  refine⟨d.c4,ps.length,rfl,by omega,fun H3 s3=>?_⟩
  have D3:=D2.keep s3
  have t3:=s2.trans (D2.cut s3)
  have eP3:=s3 _ _ eP
  have eF3:=s3 _ _ eF
  refine⟨_,rfl,_,rfl,_,rfl,by show 5≤sizeLine;exact szl,fun q nq=>?_⟩
  have s4:=aC (o:=.tup [.str (dZ i),.str (aG d.c4 ps.length),.ref a1,.ref a2,.ref F]) nq
  have D4:=D3.keep s4
  have t4:=t3.trans (D3.cut s4)
  have eP4:=s4 _ _ eP3
  have eF4:=s4 _ _ eF3
  have oq:=D3.out nq
  have eq:upd H3 q (.tup [.str (dZ i),.str (aG d.c4 ps.length),.ref a1,.ref a2,.ref F]) q=some (.tup [.str (dZ i),.str (aG d.c4 ps.length),.ref a1,.ref a2,.ref F]):=aq
  refine⟨d.P,xs,_,rfl,rfl,eP4,by omega,?_⟩
  generalize upd H3 q (.tup [.str (dZ i),.str (aG d.c4 ps.length),.ref a1,.ref a2,.ref F])=H4 at s4 D4 t4 eP4 eF4 eq ⊢
  have D5:=D4.part (p:=⟨i,aG d.c4 ps.length,nums,ins,newl.map (·.name)⟩) ⟨q,a1,a2,F,rfl,dM eq oq,t4 _ _ e1,t4 _ _ e2,dM eF4 oF⟩ ⟨hi,hN,hI,by show(newl.map _).length=_;rw [lM,hn];exact hO,hB⟩ rfl eP4
  have hcu:bR d.E (upd H4 d.P (.lst (xs ++ [.ref q])))=bR d.E H4:=dN (by simp)
  have eF5:upd H4 d.P (.lst (xs ++ [.ref q])) F=some (.lst ((newl.map (·.name)).map V.str)):=by rw [aK (fun z=>oF (by rw [z];simp))];exact eF4
  generalize upd H4 d.P (.lst (xs ++ [.ref q]))=H5 at D5 hcu eF5 ⊢
  refine⟨_,rfl,d.S,_,2,_,rfl,rfl,D5.seqS,aQ (j:=2) rfl,.inl ⟨rfl,_,SqL.of D5.opens⟩,?_⟩
  refine⟨_,rfl,d.O,F,_,_,rfl,rfl,D5.opens,eF5,by rw [lM,lM,lM];omega,?_⟩
  rw [←List.map_append]
  exact k newl _ hn (by rw [dN (by simp),hcu];exact t4) D5.open
theorem pick2 (m:Int):∃i:Nat,atI [V.str "add",V.str "less"] (m % 2)=some (.str (dZ i))∧(i=6∨i=7):=by
 have h0:=Int.emod_nonneg m (show(2:Int)≠0 by decide)
 have h1:=Int.emod_lt_of_pos m (show(0:Int) <2 by decide)
 have:m % 2=0∨m % 2=1:=by omega
 rcases this with e | e <;> rw [e]
 ·exact⟨6,rfl,.inl rfl⟩
 ·exact⟨7,rfl,.inr rfl⟩
theorem perm2 {one other:Str} {os os1:List Str} (h:os.Perm (other:: os1)):(one:: os).Perm ([one,other] ++ os1):=h.cons one
theorem perm3 {one other third:Str} {os os1 os2:List Str} (h:os.Perm (other:: os1)) (h2:os1.Perm (third:: os2)):(one:: os).Perm ([one,other,third] ++ os2):=(h.trans (h2.cons other)).cons one
def sp__law_two:Sp:=fun vs H Q _=>∃(d:Dw) (ls:List LaneD) (ps:List PD) (os:List Str) (c:Int) (one:Str) (back:List Str) (odd:Bool),vs=[.ref d.S,.int c,.str one,.bl odd]∧DAt d H ls ps os∧Drawn.WF (uG ls ps (one:: os) back)∧os≠[]∧os.length≤3∧ls.length≤20∧ps.length≤22∧∀ls' ps' os' H',Nxt d H H' ls ps back ls' ps' os'→Q .non H'
theorem sc__law_two:FnScope ["_law_state", "_law_cell_here", "_law_one", "_law_odd", "_law_other", "_law_way", "_law_third"] ["_law_state", "_law_cell_here", "_law_one", "_law_odd"] (aA m5):=⟨rfl,rfl,rfl,by decide +kernel,rfl,by decide +kernel,by decide +kernel⟩
theorem ok__law_two (T:Txt w K mg t):FnOk P w K mg base CX0 5 t.wU t.uO ["_law_state", "_law_cell_here", "_law_one", "_law_odd"] (sp__law_two):=by
 have sc:=sc__law_two
 refine T.zG.ok sc (fun vs H Q E h=>?_) (fun cdv A outer s H vs Q E hr h=>?_)
 ·obtain⟨d,ls,ps,os,c,one,back,odd,rfl,_⟩:=h
  rfl
 ·obtain⟨d,ls,ps,os,c,one,back,odd,rfl,D,w,hne,ho,hls,hps,k⟩:=h
  refine⟨_,(az (bD (i:=4) sc.nd rfl (Or.inl rfl) (aH (sV T) (hr.mono (by decide)) (by rfl) T.uH T.qt.kp T.uA .nil aN (aa (pv 0) (aa (aH (aV T) (hr.mono (by decide)) (by rfl) T.bf T.aZ.kp T.bc .nil aN (aa (pv 1) (aa au ak ao) aj)) ak aW) aj)))
   (az (bD (i:=5) sc.nd rfl (Or.inl rfl) (bj cL (aH (aV T) (hr.mono (by decide)) (by rfl) T.bf T.aZ.kp T.bc .nil aN (aa (pv 1) (aa au ak ao) aj)) au))
   (aF (fH (cz (PW.pt (zF (mK (pv 3)) (zF (bC xU (pv 5) au (bW _)) (zm (bC op_gt (bI cj (by rfl) T.gh dR (aa (bG bN (pv 0) au (fun _ _=>rfl)) ak aJ)) au (bW _))))))
    (az (bD (i:=6) sc.nd rfl (Or.inl rfl) (aH (sV T) (hr.mono (by decide)) (by rfl) T.uH T.qt.kp T.uA .nil aN (aa (pv 0) (aa (aH (aV T) (hr.mono (by decide)) (by rfl) T.bf T.aZ.kp T.bc .nil aN (aa (pv 1) (aa au ak ao) aj)) ak aW) aj)))
    (aF (bz (aH (cU T) (hr.mono (by decide)) (by rfl) T.dF T.cX.kp T.dz .nil aN (aa (pv 0) (aa (pv 1) (aa bx (aa (bh ak) (aa (bh (aa (pv 2) (aa (pv 4) (aa (pv 6) ak aj) aj) aj)) (aa au ak ao) aR) aR) ao) aj) aj)))))
    (aF (fH (cz (PW.pt (zF (mK (pv 3)) (zm (bC xU (pv 5) au (bW _)))))
     (aF (bz (aH (cU T) (hr.mono (by decide)) (by rfl) T.dF T.cX.kp T.dz .nil aN (aa (pv 0) (aa (pv 1) (aa bx (aa (bh ak) (aa (bh (aa (pv 2) (aa (pv 4) ak aj) aj)) (aa au ak ao) aR) aR) ao) aj) aj))))
     (aF (fH (cz (bC gJ (bj cL (pv 5) au) au (bW _))
      (aF (bz (aH (cU T) (hr.mono (by decide)) (by rfl) T.dF T.cX.kp T.dz .nil aN (aa (pv 0) (aa (pv 1) (aa bx (aa (bh ak) (aa (bh (aa (pv 2) (aa (pv 4) ak aj) aj)) (aa au ak ao) aR) aR) ao) aj) aj))))
      (aF (bz (aH (cU T) (hr.mono (by decide)) (by rfl) T.dF T.cX.kp T.dz .nil aN (aa (pv 0) (aa (pv 1) (aa (bG bN (bh (aa bx (aa bx ak ao) ao)) (bj cL (pv 5) au) (fun _ _=>rfl)) (aa (bh ak) (aa (bh (aa (pv 2) (aa (pv 4) ak aj) aj)) (aa au ak ao) aR) aR) aJ) aj) aj))))))))))))))),?_⟩
  have hl:sizeLine=16777216:=sizeLine_eq
  refine⟨_,rfl,_,rfl,_,_,rfl,d,ls,ps,os,_,rfl,D,hne,by omega,fun other os1 H1 p1 s1 D1=>?_⟩
  have l1:=p1.length_eq
  rw [List.length_cons] at l1
  refine⟨_,rfl,_,_,rfl,_,_,rfl,rfl,by show(0:Int) <6;decide,?_⟩
  refine⟨fun _ H'=>Q .non H',?_,fun _ _ h=>h⟩
  have fin:∀{i:Nat} {nm:Str} {newl:List LaneD} {ins os2:List Str} {H':Hp},aO (bR d.E H) (bR d.E H')→DAt d H' (ls ++ newl) (ps ++ [⟨i,nm,[],ins,newl.map (·.name)⟩]) (os2 ++ newl.map (·.name))→(one:: os).Perm (ins ++ os2)→newl.length≠0→newl.length≤2→os2.length+newl.length≤4→Q .non H':=fun s DD hp h1 h2 h4=>
   k _ _ _ _ ⟨s,DD,rC w rfl DD hp h1 (by rw [lP];omega),by rw [lP,lM];omega,by rw [lP,lM];omega,by rw [lP];omega,by rw [lP,List.length_singleton];omega⟩
  cases odd
  ·refine⟨_,rfl,false,rfl,fP (fP ?_)⟩
   refine⟨fun _ H'=>Q .non H',?_,fun _ _ h=>h⟩
   refine⟨_,rfl,false,rfl,fP (fP ?_)⟩
   refine⟨fun _ H'=>Q .non H',?_,fun _ _ h=>h⟩
   refine⟨_,rfl,_,_,rfl,rfl,by show(0:Int) <3;decide,rfl,_,rfl,iy (fun _=>?_) (fun _=>?_)⟩
   ·refine⟨_,rfl,_,rfl,by show 0≤sizeLine;exact szl,fun a1 n1=>⟨_,rfl,_,rfl,by show 2≤sizeLine;exact szl,fun a2 n2=>?_⟩⟩
    obtain⟨D9,z1,z2,z3⟩:=D1.two n1 n2 (y:=.lst [.str one,.str other])
    refine⟨d,_,_,os1,_,8,a1,a2,[],[one,other],2,rfl,D9,z1,z2,by omega,rfl,by simp,rfl,rfl,by omega,by omega,by omega,fun newl H8 hn s8 D8=>?_⟩
    exact fin (s1.trans (z3.trans s8)) D8 (perm2 p1) (by omega) (by omega) (by omega)
   ·refine⟨_,rfl,_,rfl,by show 2≤sizeLine;exact szl,fun a0 n0=>?_⟩
    have s0:=aC (o:=.lst [.str "add",.str "less"]) n0
    have D0:=D1.keep s0
    have c0:=D1.cut s0
    refine⟨_,rfl,_,_,rfl,rfl,by show(0:Int) <2;decide,?_⟩
    obtain⟨i,ei,hi⟩:=pick2 (cu c 6 % 6)
    refine⟨a0,_,_,_,rfl,rfl,SqL.of aq,ei,?_⟩
    generalize upd H1 a0 (.lst [.str "add",.str "less"])=H0 at s0 D0 c0 ⊢
    have hN:([]:List Int).length=cN i:=by rcases hi with rfl | rfl <;> rfl
    have hI:[one,other].length=cI i:=by rcases hi with rfl | rfl <;> rfl
    have hO:1=cO i:=by rcases hi with rfl | rfl <;> rfl
    refine⟨by show 0≤sizeLine;exact szl,fun a1 n1=>⟨_,rfl,_,rfl,by show 2≤sizeLine;exact szl,fun a2 n2=>?_⟩⟩
    obtain⟨D9,z1,z2,z3⟩:=D0.two n1 n2 (y:=.lst [.str one,.str other])
    refine⟨d,_,_,os1,_,i,a1,a2,[],[one,other],1,rfl,D9,z1,z2,by omega,hN,by simp,hI,hO,by omega,by omega,by omega,fun newl H8 hn s8 D8=>?_⟩
    exact fin (s1.trans (c0.trans (z3.trans s8))) D8 (perm2 p1) (by omega) (by omega) (by omega)
  ·refine⟨_,rfl,true,rfl,kW ⟨_,rfl,_,_,rfl,rfl,_,rfl,Av ?_ (fun h2 b=>?_) (fun b=>b)⟩⟩
   ·refine⟨fun _ H'=>Q .non H',?_,fun _ _ h=>h⟩
    refine⟨_,rfl,true,rfl,kW ?_⟩
    refine⟨_,rfl,_,_,rfl,rfl,_,rfl,iy (fun h5=>?_) (fun h5=>?_)⟩
    ·refine⟨_,rfl,_,rfl,by show 0≤sizeLine;exact szl,fun a1 n1=>⟨_,rfl,_,rfl,by show 2≤sizeLine;exact szl,fun a2 n2=>?_⟩⟩
     obtain⟨D9,z1,z2,z3⟩:=D1.two n1 n2 (y:=.lst [.str one,.str other])
     refine⟨d,_,_,os1,_,10,a1,a2,[],[one,other],2,rfl,D9,z1,z2,by omega,rfl,by simp,rfl,rfl,by omega,by omega,by omega,fun newl H8 hn s8 D8=>?_⟩
     exact fin (s1.trans (z3.trans s8)) D8 (perm2 p1) (by omega) (by omega) (by omega)
    ·refine⟨fun _ H'=>Q .non H',?_,fun _ _ h=>h⟩
     refine⟨_,rfl,_,_,rfl,rfl,by show(0:Int) <3;decide,rfl,_,rfl,iy (fun _=>?_) (fun _=>?_)⟩
     ·refine⟨_,rfl,_,rfl,by show 0≤sizeLine;exact szl,fun a1 n1=>⟨_,rfl,_,rfl,by show 2≤sizeLine;exact szl,fun a2 n2=>?_⟩⟩
      obtain⟨D9,z1,z2,z3⟩:=D1.two n1 n2 (y:=.lst [.str one,.str other])
      refine⟨d,_,_,os1,_,8,a1,a2,[],[one,other],2,rfl,D9,z1,z2,by omega,rfl,by simp,rfl,rfl,by omega,by omega,by omega,fun newl H8 hn s8 D8=>?_⟩
      exact fin (s1.trans (z3.trans s8)) D8 (perm2 p1) (by omega) (by omega) (by omega)
     ·refine⟨_,rfl,_,rfl,by show 2≤sizeLine;exact szl,fun a0 n0=>?_⟩
      have s0:=aC (o:=.lst [.str "add",.str "less"]) n0
      have D0:=D1.keep s0
      have c0:=D1.cut s0
      refine⟨_,rfl,_,_,rfl,rfl,by show(0:Int) <2;decide,?_⟩
      obtain⟨i,ei,hi⟩:=pick2 (cu c 6 % 6)
      refine⟨a0,_,_,_,rfl,rfl,SqL.of aq,ei,?_⟩
      generalize upd H1 a0 (.lst [.str "add",.str "less"])=H0 at s0 D0 c0 ⊢
      have hN:([]:List Int).length=cN i:=by rcases hi with rfl | rfl <;> rfl
      have hI:[one,other].length=cI i:=by rcases hi with rfl | rfl <;> rfl
      have hO:1=cO i:=by rcases hi with rfl | rfl <;> rfl
      refine⟨by show 0≤sizeLine;exact szl,fun a1 n1=>⟨_,rfl,_,rfl,by show 2≤sizeLine;exact szl,fun a2 n2=>?_⟩⟩
      obtain⟨D9,z1,z2,z3⟩:=D0.two n1 n2 (y:=.lst [.str one,.str other])
      refine⟨d,_,_,os1,_,i,a1,a2,[],[one,other],1,rfl,D9,z1,z2,by omega,hN,by simp,hI,hO,by omega,by omega,by omega,fun newl H8 hn s8 D8=>?_⟩
      exact fin (s1.trans (c0.trans (z3.trans s8))) D8 (perm2 p1) (by omega) (by omega) (by omega)
   ·refine⟨_,rfl,d.S,_,2,_,rfl,rfl,D1.seqS,aQ (j:=2) rfl,.ref d.O,os1.length,rfl,.inl ⟨_,SqL.of D1.opens,by simp⟩,_,_,rfl,rfl,_,rfl,iy (fun h3=>?_) (fun _=>b)⟩
    have hne1:os1≠[]:=fun z=>by rw [z] at h3;exact absurd (of_decide_eq_true h3) (by decide)
    refine⟨_,rfl,_,rfl,_,_,rfl,d,ls,ps,os1,_,rfl,D1,hne1,by omega,fun third os2 H2 p2 s2 D2=>?_⟩
    have l2:=p2.length_eq
    rw [List.length_cons] at l2
    refine⟨_,rfl,_,rfl,by show 0≤sizeLine;exact szl,fun a1 n1=>⟨_,rfl,_,rfl,_,rfl,by show 3≤sizeLine;exact szl,fun a2 n2=>?_⟩⟩
    obtain⟨D9,z1,z2,z3⟩:=D2.two n1 n2 (y:=.lst [.str one,.str other,.str third])
    refine⟨d,_,_,os2,_,9,a1,a2,[],[one,other,third],1,rfl,D9,z1,z2,by omega,rfl,by simp,rfl,rfl,by omega,by omega,by omega,fun newl H8 hn s8 D8=>?_⟩
    exact fin (s1.trans (s2.trans (z3.trans s8))) D8 (perm3 p1 p2) (by omega) (by omega) (by omega)
def sp__law_loop:Sp:=fun vs H Q _=>∃(d:Dw) (ls:List LaneD) (ps:List PD) (os:List Str) (c:Int) (one:Str) (back:List Str),vs=[.ref d.S,.int c,.str one]∧DAt d H ls ps os∧Drawn.WF (uG ls ps (one:: os) back)∧os.length≤3∧ls.length≤20∧ps.length≤22∧∀ls' ps' os' H',Nxt d H H' ls ps back ls' ps' os'→Q .non H'
theorem sc__law_loop:FnScope ["_law_state", "_law_cell_here", "_law_one", "_law_own", "_law_fresh"] ["_law_state", "_law_cell_here", "_law_one"] (aA lL):=⟨rfl,rfl,rfl,by decide +kernel,rfl,by decide +kernel,by decide +kernel⟩
theorem ok__law_loop (T:Txt w K mg t):FnOk P w K mg base CX0 4 t.uW t.tX ["_law_state", "_law_cell_here", "_law_one"] (sp__law_loop):=by
 have sc:=sc__law_loop
 refine T.yZ.ok sc (fun vs H Q E h=>?_) (fun cdv A outer s H vs Q E hr h=>?_)
 ·obtain⟨d,ls,ps,os,c,one,back,rfl,_⟩:=h
  rfl
 ·obtain⟨d,ls,ps,os,c,one,back,rfl,D,w,ho,hls,hps,k⟩:=h
  refine⟨_,(az (bD (i:=3) sc.nd rfl (Or.inl rfl) (aH (mz T) (hr.mono (by decide)) (by rfl) T.nZ T.lR.kp T.n8 .nil aN (aa (pv 0) (aa (aH (aV T) (hr.mono (by decide)) (by rfl) T.bf T.aZ.kp T.bc .nil aN (aa (pv 1) (aa au ak ao) aj)) (aa oG ak ao) aW) aj)))
   (az (bD (i:=4) sc.nd rfl (Or.inl rfl) (aH (mz T) (hr.mono (by decide)) (by rfl) T.nZ T.lR.kp T.n8 .nil aN (aa (pv 0) (aa (aH (aV T) (hr.mono (by decide)) (by rfl) T.bf T.aZ.kp T.bc .nil aN (aa (pv 1) (aa au ak ao) aj)) (aa oG ak ao) aW) aj)))
   (az (bz (ir PySem.F.plainAttrs_list PySem.F.slot_list_append PySem.F.type_list_append dh (bG bN (pv 0) au (fun _ _=>rfl)) (aa (cM (aa bx (aa (aH (cT T) (hr.mono (by decide)) (by rfl) T.dD T.cZ.kp T.dG .nil aN (aa (bG bN (pv 0) au (fun _ _=>rfl)) (aa (bI cj (by rfl) T.gh dR (aa (bG bN (pv 0) au (fun _ _=>rfl)) ak aJ)) ak aW) aJ)) (aa (bh ak) (aa (bh (aa (pv 2) (aa (pv 3) ak aj) aj)) (aa (bh (aa (pv 3) (aa (pv 4) ak aj) aj)) ak aR) aR) aR) aW) ao)) ak cg)))
   (aF (bz (ir PySem.F.plainAttrs_list PySem.F.slot_list_append PySem.F.type_list_append dh (bG bN (pv 0) au (fun _ _=>rfl)) (aa (pv 4) ak aj))))))),?_⟩
  have hl:sizeLine=16777216:=sizeLine_eq
  refine⟨_,rfl,_,rfl,_,_,rfl,d,ls,ps,os,_,true,rfl,D,by omega,fun l1 H1 e1 s1 D1=>?_⟩
  refine⟨_,rfl,_,rfl,_,_,rfl,d,ls ++ [l1],ps,os,_,false,rfl,D1,by rw [lP,List.length_singleton];omega,fun l2 H2 e2 s2 D2=>?_⟩
  have s12:=s1.trans s2
  obtain⟨xs,eP,aP⟩:=D2.parts
  have xl:=aP.length
  refine⟨_,rfl,d.S,_,1,_,rfl,rfl,D2.seqS,aQ (j:=1) rfl,.inl ⟨rfl,_,SqL.of eP⟩,?_⟩
  refine⟨_,rfl,d.S,_,4,_,rfl,rfl,D2.seqS,aQ (j:=4) rfl,?_⟩
  refine⟨_,rfl,d.S,_,1,_,rfl,rfl,D2.seqS,aQ (j:=1) rfl,.ref d.P,ps.length,rfl,.inl ⟨_,SqL.of eP,xl.symm⟩,?_⟩
  refine⟨d.c4,ps.length,rfl,by omega,fun H3 s3=>?_⟩
  have D3:=D2.keep s3
  have c3:=s12.trans (D2.cut s3)
  have eP3:=s3 _ _ eP
  refine⟨by show 0≤sizeLine;exact szl,fun a1 n1=>⟨_,rfl,_,rfl,by show 2≤sizeLine;exact szl,fun a2 n2=>⟨_,rfl,_,rfl,by show 2≤sizeLine;exact szl,fun a3 n3=>⟨by show 5≤sizeLine;exact szl,fun q nq=>?_⟩⟩⟩⟩
  obtain⟨D4,z1,z2,z3⟩:=D3.two n1 n2 (y:=.lst [.str one,.str l1.name])
  have t4:aO H3 (upd (upd H3 a1 (.lst [])) a2 (.lst [.str one,.str l1.name])):=(aC n1).trans (aC n2)
  have eP4:=t4 _ _ eP3
  generalize upd (upd H3 a1 (.lst [])) a2 (.lst [.str one,.str l1.name])=H4 at D4 z1 z2 z3 t4 eP4 n3 nq ⊢
  obtain⟨D5,y1,y2,y3⟩:=D4.two n3 nq (y:=.tup [.str "order",.str (aG d.c4 ps.length),.ref a1,.ref a2,.ref a3])
  have t5:aO H4 (upd (upd H4 a3 (.lst [.str l1.name,.str l2.name])) q (.tup [.str "order",.str (aG d.c4 ps.length),.ref a1,.ref a2,.ref a3])):=(aC n3).trans (aC nq)
  have eP5:=t5 _ _ eP4
  generalize upd (upd H4 a3 (.lst [.str l1.name,.str l2.name])) q (.tup [.str "order",.str (aG d.c4 ps.length),.ref a1,.ref a2,.ref a3])=H5 at D5 y1 y2 y3 t5 eP5 ⊢
  have c5:=c3.trans (z3.trans y3)
  refine⟨d.P,xs,_,rfl,rfl,eP5,by omega,?_⟩
  have D6:=D5.part (p:=⟨8,aG d.c4 ps.length,[],[one,l1.name],[l1.name,l2.name]⟩) ⟨q,a1,a2,a3,rfl,y2,y3 _ _ z1,y3 _ _ z2,y1⟩ ⟨by show 8 <11;omega,rfl,rfl,rfl,by simp⟩ rfl eP5
  have c6:bR d.E (upd H5 d.P (.lst (xs ++ [.ref q])))=bR d.E H5:=dN (by simp)
  generalize upd H5 d.P (.lst (xs ++ [.ref q]))=H6 at D6 c6 ⊢
  refine⟨_,rfl,d.S,_,2,_,rfl,rfl,D6.seqS,aQ (j:=2) rfl,.inl ⟨rfl,_,SqL.of D6.opens⟩,_,rfl,d.O,_,_,rfl,rfl,D6.opens,by rw [lM];omega,?_⟩
  have D7:=D6.open (os':=os ++ [l2.name])
  rw [List.map_append] at D7
  have nd:=D7.nod (by rw [lP,lP,List.length_singleton,List.length_singleton];omega)
  have wl:=w.loop (p:=⟨8,aG d.c4 ps.length,[],[one,l1.name],[l1.name,l2.name]⟩) (rest:=os) (one:=one) (own:=l1.name) (fresh:=l2.name) rfl rfl (.refl _) (by simpa using nd)
  refine k _ _ _ _ ⟨by rw [dN (by simp),c6];exact c5,D7,by simpa [uG] using wl,by rw [lP,List.length_singleton];omega,by rw [lP,List.length_singleton];omega,by simp,by simp⟩
def sp__law_step:Sp:=fun vs H Q _=>∃(d:Dw) (ls:List LaneD) (ps:List PD) (os:List Str) (c:Int) (back:List Str) (odd:Bool),vs=[.ref d.S,.int c,.bl odd]∧DAt d H ls ps os∧Drawn.WF (uG ls ps os back)∧os≠[]∧os.length≤4∧ls.length≤20∧ps.length≤22∧∀ls' ps' os' H',Nxt d H H' ls ps back ls' ps' os'→Q .non H'
theorem sc__law_step:FnScope ["_law_state", "_law_cell_here", "_law_odd", "_law_way", "_law_one"] ["_law_state", "_law_cell_here", "_law_odd"] (aA lZ):=⟨rfl,rfl,rfl,by decide +kernel,rfl,by decide +kernel,by decide +kernel⟩
theorem ok__law_step (T:Txt w K mg t):FnOk P w K mg base CX0 6 t.uz t.sy ["_law_state", "_law_cell_here", "_law_odd"] (sp__law_step):=by
 have sc:=sc__law_step
 refine T.yQ.ok sc (fun vs H Q E h=>?_) (fun cdv A outer s H vs Q E hr h=>?_)
 ·obtain⟨d,ls,ps,os,c,back,odd,rfl,_⟩:=h
  rfl
 ·obtain⟨d,ls,ps,os,c,back,odd,rfl,D,w,hne,ho,hls,hps,k⟩:=h
  refine⟨_,(az (bD (i:=3) sc.nd rfl (Or.inl rfl) (bj cL (aH (aV T) (hr.mono (by decide)) (by rfl) T.bf T.aZ.kp T.bc .nil aN (aa (pv 1) (aa au ak ao) aj)) au))
   (az (bD (i:=4) sc.nd rfl (Or.inl rfl) (aH (sV T) (hr.mono (by decide)) (by rfl) T.uH T.qt.kp T.uA .nil aN (aa (pv 0) (aa (aH (aV T) (hr.mono (by decide)) (by rfl) T.bf T.aZ.kp T.bc .nil aN (aa (pv 1) (aa au ak ao) aj)) ak aW) aj)))
   (aF (fH (cz (PW.pt (zF (bC xU (pv 3) au (bW _)) (zm (bC xU (bI cj (by rfl) T.gh dR (aa (bG bN (pv 0) au (fun _ _=>rfl)) ak aJ)) au (bW _)))))
    (aF (bz (aH (cU T) (hr.mono (by decide)) (by rfl) T.dF T.cX.kp T.dz .nil aN (aa (pv 0) (aa (pv 1) (aa bx (aa (bh ak) (aa (bh (aa (pv 4) ak aj)) (aa au ak ao) aR) aR) ao) aj) aj))))
    (aF (fH (cz (bC gJ (pv 3) au (bW _))
     (az (bz (aH (cU T) (hr.mono (by decide)) (by rfl) T.dF T.cX.kp T.dz .nil aN (aa (pv 0) (aa (pv 1) (aa bx (aa (bh ak) (aa (bh (aa (pv 4) ak aj)) (aa au ak ao) aR) aR) ao) aj) aj)))
     (aF (bz (aH (cU T) (hr.mono (by decide)) (by rfl) T.dF T.cX.kp T.dz .nil aN (aa (pv 0) (aa (pv 1) (aa bx (aa (bh ak) (aa (bh (aa (pe_bm0 PySem.F.plainAttrs_list PySem.F.slot_list_pop PySem.F.type_list_pop mt_pop (bG bN (pv 0) au (fun _ _=>rfl))) ak aW)) (aa au ak ao) aR) aR) ao) aj) aj)))))
     (aF (fH (cz (PW.pt (zF (bC xU (pv 3) au (bW _)) (zm (bC op_gt (bI cj (by rfl) T.gh dR (aa (bG bN (pv 0) au (fun _ _=>rfl)) ak aJ)) au (bW _)))))
      (aF (bz (aH (ok__law_two T) (hr.mono (by decide)) (by rfl) T.m__law_two T.zG.kp T.b__law_two .nil aN (aa (pv 0) (aa (pv 1) (aa (pv 4) (aa (pv 2) ak aj) aj) aj) aj))))
      (aF (fH (cz (bC xU (pv 3) au (bW _))
       (aF (bz (aH (cU T) (hr.mono (by decide)) (by rfl) T.dF T.cX.kp T.dz .nil aN (aa (pv 0) (aa (pv 1) (aa bx (aa (bh (aa (aH (nH T) (hr.mono (by decide)) (by rfl) T.oZ T.mG.kp T.oX .nil aN (aa (pv 1) (aa au ak ao) aj)) (aa (aH (nH T) (hr.mono (by decide)) (by rfl) T.oZ T.mG.kp T.oX .nil aN (aa (pv 1) (aa au ak ao) aj)) ak aW) aW)) (aa (bh (aa (pv 4) ak aj)) (aa au ak ao) aR) aR) ao) aj) aj))))
       (aF (fH (cz (bC gJ (pv 3) au (bW _))
        (aF (bz (aH (cU T) (hr.mono (by decide)) (by rfl) T.dF T.cX.kp T.dz .nil aN (aa (pv 0) (aa (pv 1) (aa bx (aa (bh (aa (aH (nH T) (hr.mono (by decide)) (by rfl) T.oZ T.mG.kp T.oX .nil aN (aa (pv 1) (aa au ak ao) aj)) ak aW)) (aa (bh (aa (pv 4) ak aj)) (aa au ak ao) aR) aR) ao) aj) aj))))
        (aF (fH (cz (bC gJ (bj cL (aH (aV T) (hr.mono (by decide)) (by rfl) T.bf T.aZ.kp T.bc .nil aN (aa (pv 1) (aa au ak ao) aj)) au) au (bW _))
         (aF (bz (aH (ok__law_loop T) (hr.mono (by decide)) (by rfl) T.m__law_loop T.yZ.kp T.b__law_loop .nil aN (aa (pv 0) (aa (pv 1) (aa (pv 4) ak aj) aj) aj))))
         (aF (bz (aH (cU T) (hr.mono (by decide)) (by rfl) T.dF T.cX.kp T.dz .nil aN (aa (pv 0) (aa (pv 1) (aa bx (aa (bh ak) (aa (bh (aa (pv 4) ak aj)) (aa au ak ao) aR) aR) ao) aj) aj)))))))))))))))))))))))),?_⟩
  have hl:sizeLine=16777216:=sizeLine_eq
  refine⟨_,rfl,_,_,rfl,_,_,rfl,rfl,by show(0:Int) <9;decide,?_⟩
  refine⟨_,rfl,_,rfl,_,_,rfl,d,ls,ps,os,_,rfl,D,hne,by omega,fun one os1 H1 p1 s1 D1=>?_⟩
  have w1:Drawn.WF (uG ls ps (one:: os1) back):=WFperm w p1
  have lo:=p1.length_eq
  rw [List.length_cons] at lo
  have fin:∀{i:Nat} {nm:Str} {nums:List Int} {newl:List LaneD} {ins os2:List Str} {H':Hp},aO (bR d.E H) (bR d.E H')→DAt d H' (ls ++ newl) (ps ++ [⟨i,nm,nums,ins,newl.map (·.name)⟩]) (os2 ++ newl.map (·.name))→(one:: os1).Perm (ins ++ os2)→newl.length≠0→newl.length≤2→os2.length+newl.length≤4→Q .non H':=fun s DD hp h1 h2 h4=>
   k _ _ _ _ ⟨s,DD,rC w1 rfl DD hp h1 (by rw [lP];omega),by rw [lP,lM];omega,by rw [lP,lM];omega,by rw [lP];omega,by rw [lP,List.length_singleton];omega⟩
  refine⟨fun _ H'=>Q .non H',?_,fun _ _ h=>h⟩
  refine⟨_,rfl,_,_,rfl,rfl,_,rfl,Av ?_ (fun h2 b=>?_) (fun b=>b)⟩
  ·refine⟨fun _ H'=>Q .non H',?_,fun _ _ h=>h⟩
   refine⟨_,rfl,rfl,_,rfl,iy (fun _=>?_) (fun _=>?_)⟩
   ·refine⟨_,rfl,_,rfl,by show 0≤sizeLine;exact szl,fun a1 n1=>⟨_,rfl,by show 1≤sizeLine;exact szl,fun a2 n2=>?_⟩⟩
    obtain⟨D9,z1,z2,z3⟩:=D1.two n1 n2 (y:=.lst [.str one])
    refine⟨d,_,_,os1,_,3,a1,a2,[],[one],2,rfl,D9,z1,z2,by omega,rfl,by simp,rfl,rfl,by omega,by omega,by omega,fun newl H8 hn s8 D8=>?_⟩
    obtain⟨l1,l2,rfl⟩:∃l1 l2,newl=[l1,l2]:=by
     match newl,hn with
     | [x,y],_=>exact⟨x,y,rfl⟩
    have w8:=rC w1 rfl D8 (.refl _) (by simp) (by simp;omega)
    have s18:=s1.trans (z3.trans s8)
    clear D9 z1 z2 z3 n1 n2 s8
    refine⟨_,rfl,_,rfl,by show 0≤sizeLine;exact szl,fun a3 n3=>?_⟩
    have s3:=aC (o:=.lst []) n3
    have D3:=D8.keep s3
    have c3:=s18.trans (D8.cut s3)
    have o3:=D8.out n3
    have e3:upd H8 a3 (.lst []) a3=some (.lst ([]:List V)):=aq
    generalize upd H8 a3 (.lst [])=H3 at s3 D3 c3 e3 ⊢
    have eo:((os1 ++ [l1,l2].map (·.name)).map V.str)=((os1 ++ [l1.name]).map V.str) ++ [.str l2.name]:=by simp
    have hop:=D3.opens
    rw [eo] at hop
    refine⟨_,rfl,d.S,_,2,_,rfl,rfl,D3.seqS,aQ (j:=2) rfl,.inl ⟨rfl,_,SqL.of D3.opens⟩,d.O,_,.str l2.name,rfl,rfl,hop,by rw [lP,List.length_singleton,Nat.add_sub_cancel];exact List.getElem?_concat_length,?_⟩
    rw [List.dropLast_concat]
    have D4:=D3.open (os':=os1 ++ [l1.name])
    have c4:bR d.E (upd H3 d.O (.lst ((os1 ++ [l1.name]).map V.str)))=bR d.E H3:=dN (by simp)
    have e4:=dM e3 o3
    generalize upd H3 d.O (.lst ((os1 ++ [l1.name]).map V.str))=H4 at D4 c4 ⊢
    refine⟨by show 1≤sizeLine;exact szl,fun a4 n4=>?_⟩
    have s5:=aC (o:=.lst [.str l2.name]) n4
    have D5:=D4.keep s5
    have c5:=D4.cut s5
    rw [c4] at c5
    have e5:=dM (E:=d.E) (H:=upd H4 a4 (.lst [.str l2.name])) aq (D4.out n4)
    refine⟨d,ls ++ [l1,l2],_,os1 ++ [l1.name],_,1,a3,a4,[],[l2.name],0,rfl,D5,c5 _ _ e4,e5,by omega,rfl,by simp,rfl,rfl,by simp;omega,by simp;omega,by simp;omega,fun newl2 H9 hn2 s9 D9=>?_⟩
    have hz:newl2=[]:=List.length_eq_zero_iff.mp hn2
    subst hz
    have wt:=w8.take (p:=⟨1,aG d.c4 (ps ++ [(⟨3,aG d.c4 ps.length,[],[one],[l1,l2].map (·.name)⟩:PD)]).length,[],[l2.name],[]⟩) (rest:=os1 ++ [l1.name]) (y:=l2.name) (x:=l1.name) rfl rfl (by
      show(os1 ++ [l1.name,l2.name]).Perm (l2.name:: (os1 ++ [l1.name]))
      rw [show os1 ++ [l1.name,l2.name]=(os1 ++ [l1.name]) ++ [l2.name] by simp]
      exact List.perm_append_comm) (by simp) (Drawn.Conn.part (p:=⟨3,aG d.c4 ps.length,[],[one],[l1,l2].map (·.name)⟩) (by simp) (by simp) (by simp))
    rw [List.map_nil,List.append_nil,List.append_nil] at D9
    exact k _ _ _ _ ⟨c3.trans (c5.trans s9),D9,wt,by simp,by simp;omega,by simp,by simp⟩
   ·refine⟨fun _ H'=>Q .non H',?_,fun _ _ h=>h⟩
    refine⟨_,rfl,_,_,rfl,rfl,_,rfl,Av ?_ (fun h2 b=>?_) (fun b=>b)⟩
    ·refine⟨fun _ H'=>Q .non H',?_,fun _ _ h=>h⟩
     refine⟨_,rfl,_,_,rfl,rfl,_,rfl,iy (fun _=>?_) (fun _=>?_)⟩
     ·refine⟨_,rfl,_,rfl,_,rfl,c,8,rfl,_,rfl,c,9,rfl,by show 2≤sizeLine;exact szl,fun a1 n1=>⟨_,rfl,by show 1≤sizeLine;exact szl,fun a2 n2=>?_⟩⟩
      obtain⟨D9,z1,z2,z3⟩:=D1.two n1 n2 (y:=.lst [.str one])
      refine⟨d,_,_,os1,_,4,a1,a2,[tW c 8,tW c 9],[one],1,rfl,D9,z1,z2,by omega,rfl,?_,rfl,rfl,by omega,by omega,by omega,fun newl H8 hn s8 D8=>?_⟩
      ·intro v hv
       rcases List.mem_cons.mp hv with rfl | hv
       ·exact vK _ _
       ·rw [List.mem_singleton] at hv
        subst hv
        exact vK _ _
      exact fin (s1.trans (z3.trans s8)) D8 (.refl _) (by omega) (by omega) (by omega)
     ·refine⟨fun _ H'=>Q .non H',?_,fun _ _ h=>h⟩
      refine⟨_,rfl,rfl,_,rfl,iy (fun _=>?_) (fun _=>?_)⟩
      ·refine⟨_,rfl,_,rfl,_,rfl,c,8,rfl,by show 1≤sizeLine;exact szl,fun a1 n1=>⟨_,rfl,by show 1≤sizeLine;exact szl,fun a2 n2=>?_⟩⟩
       obtain⟨D9,z1,z2,z3⟩:=D1.two n1 n2 (y:=.lst [.str one])
       refine⟨d,_,_,os1,_,5,a1,a2,[tW c 8],[one],1,rfl,D9,z1,z2,by omega,rfl,?_,rfl,rfl,by omega,by omega,by omega,fun newl H8 hn s8 D8=>?_⟩
       ·intro v hv
        rw [List.mem_singleton] at hv
        subst hv
        exact vK _ _
       exact fin (s1.trans (z3.trans s8)) D8 (.refl _) (by omega) (by omega) (by omega)
      ·refine⟨fun _ H'=>Q .non H',?_,fun _ _ h=>h⟩
       refine⟨_,rfl,_,_,rfl,_,_,rfl,rfl,by show(0:Int) <2;decide,rfl,_,rfl,iy (fun _=>?_) (fun _=>?_)⟩
       ·exact⟨_,rfl,_,rfl,_,rfl,d,ls,ps,os1,c,one,back,rfl,D1,w1,by omega,hls,hps,fun ls' ps' os' H' X=>k ls' ps' os' H' ⟨s1.trans X.cut,X.at',X.wf,X.o1,X.o4,X.l2,X.p2⟩⟩
       ·refine⟨_,rfl,_,rfl,by show 0≤sizeLine;exact szl,fun a1 n1=>⟨_,rfl,by show 1≤sizeLine;exact szl,fun a2 n2=>?_⟩⟩
        obtain⟨D9,z1,z2,z3⟩:=D1.two n1 n2 (y:=.lst [.str one])
        refine⟨d,_,_,os1,_,2,a1,a2,[],[one],1,rfl,D9,z1,z2,by omega,rfl,by simp,rfl,rfl,by omega,by omega,by omega,fun newl H8 hn s8 D8=>?_⟩
        exact fin (s1.trans (z3.trans s8)) D8 (.refl _) (by omega) (by omega) (by omega)
    ·refine⟨_,rfl,d.S,_,2,_,rfl,rfl,D1.seqS,aQ (j:=2) rfl,.ref d.O,os1.length,rfl,.inl ⟨_,SqL.of D1.opens,by simp⟩,_,_,rfl,rfl,_,rfl,iy (fun h3=>?_) (fun _=>b)⟩
     have hne1:os1≠[]:=fun z=>by rw [z] at h3;exact absurd (of_decide_eq_true h3) (by decide)
     exact⟨_,rfl,_,rfl,_,rfl,_,rfl,d,ls,ps,os1,c,one,back,odd,rfl,D1,w1,hne1,by omega,hls,hps,fun ls' ps' os' H' X=>k ls' ps' os' H' ⟨s1.trans X.cut,X.at',X.wf,X.o1,X.o4,X.l2,X.p2⟩⟩
  ·refine⟨_,rfl,d.S,_,2,_,rfl,rfl,D1.seqS,aQ (j:=2) rfl,.ref d.O,os1.length,rfl,.inl ⟨_,SqL.of D1.opens,by simp⟩,_,_,rfl,rfl,_,rfl,iy (fun h3=>?_) (fun _=>b)⟩
   have h3:os1.length <3:=by have:=of_decide_eq_true h3;omega
   refine⟨_,rfl,_,rfl,by show 0≤sizeLine;exact szl,fun a1 n1=>⟨_,rfl,by show 1≤sizeLine;exact szl,fun a2 n2=>?_⟩⟩
   obtain⟨D9,z1,z2,z3⟩:=D1.two n1 n2 (y:=.lst [.str one])
   refine⟨d,_,_,os1,_,3,a1,a2,[],[one],2,rfl,D9,z1,z2,by omega,rfl,by simp,rfl,rfl,by omega,by omega,by omega,fun newl H8 hn s8 D8=>?_⟩
   exact fin (s1.trans (z3.trans s8)) D8 (.refl _) (by omega) (by omega) (by omega)
def sp__law_closed:Sp:=fun vs H Q _=>∃(d:Dw) (ls:List LaneD) (ps:List PD) (os:List Str) (c:Int) (B:Addr) (back:List Str),vs=[.ref d.S,.int c,.ref B]∧DAt d H ls ps os∧Drawn.WF (uG ls ps os back)∧bR d.E H B=some (.lst (back.map V.str))∧os≠[]∧os.length≤4∧back.length≤2∧ls.length≤12∧ps.length≤10∧∀ls' ps' H',aO (bR d.E H) (bR d.E H')→DAt d H' ls' ps' []→Whole (ls'.map (·.name)) ps'→ls'.length≤17→ls.length≤ls'.length→ps'.length≤16→1≤ps'.length→Q .non H'
theorem sc__law_closed:FnScope ["_law_state", "_law_cell_here", "_law_back", "_law_one", "_law_other", "_law_kind", "_law_lane_here", "_law_fresh"] ["_law_state", "_law_cell_here", "_law_back"] (aA gP):=⟨rfl,rfl,rfl,by decide +kernel,rfl,by decide +kernel,by decide +kernel⟩
theorem ok__law_closed (T:Txt w K mg t):FnOk P w K mg base CX0 5 t.qP t.pK ["_law_state", "_law_cell_here", "_law_back"] (sp__law_closed):=by
 have sc:=sc__law_closed
 refine T.vY.ok sc (fun vs H Q E h=>?_) (fun cdv A outer s H vs Q E hr h=>?_)
 ·obtain⟨d,ls,ps,os,c,B,back,rfl,_⟩:=h
  rfl
 ·obtain⟨d,ls,ps,os,c,B,back,rfl,D,w,eB,hne,ho,hb,hls,hps,k⟩:=h
  refine⟨_,(az (ps_while PassesOwn.never (bC op_gt (bI cj (by rfl) T.gh dR (aa (bG bN (pv 0) au (fun _ _=>rfl)) ak aJ)) au (bW _))
    (az (bD (i:=3) sc.nd rfl (Or.inl rfl) (ir PySem.F.plainAttrs_list PySem.F.slot_list_pop PySem.F.type_list_pop Am (bG bN (pv 0) au (fun _ _=>rfl)) (aa au ak ao)))
    (az (bD (i:=4) sc.nd rfl (Or.inl rfl) (ir PySem.F.plainAttrs_list PySem.F.slot_list_pop PySem.F.type_list_pop Am (bG bN (pv 0) au (fun _ _=>rfl)) (aa au ak ao)))
    (az (bD (i:=5) sc.nd rfl (Or.inl rfl) (bG bN (bh (aa bx (aa bx (aa bx ak ao) ao) ao)) (bj cL (aH (aV T) (hr.mono (by decide)) (by rfl) T.bf T.aZ.kp T.bc .nil aN (aa (pv 1) (aa (bI cj (by rfl) T.gh dR (aa (bG bN (pv 0) au (fun _ _=>rfl)) ak aJ)) ak aW) aj)) au) (fun _ _=>rfl)))
    (aF (bz (aH (cU T) (hr.mono (by decide)) (by rfl) T.dF T.cX.kp T.dz .nil aN (aa (pv 0) (aa (aH (aV T) (hr.mono (by decide)) (by rfl) T.bf T.aZ.kp T.bc .nil aN (aa (pv 1) (aa (bj cQ au (bI cj (by rfl) T.gh dR (aa (bG bN (pv 0) au (fun _ _=>rfl)) ak aJ))) ak bZ) aj)) (aa (pv 5) (aa (bh ak) (aa (bh (aa (pv 3) (aa (pv 4) ak aj) aj)) (aa au ak ao) aR) aR) aj) aW) aj))))))))
   (az (lB PassesOwn.never rfl (fG (pv 2)) (bL (i:=6) sc.nd rfl (Or.inl rfl))
    (az (bD (i:=3) sc.nd rfl (Or.inl rfl) (pe_bm0 PySem.F.plainAttrs_list PySem.F.slot_list_pop PySem.F.type_list_pop mt_pop (bG bN (pv 0) au (fun _ _=>rfl))))
    (az (bD (i:=7) sc.nd rfl (Or.inl rfl) (aH (mz T) (hr.mono (by decide)) (by rfl) T.nZ T.lR.kp T.n8 .nil aN (aa (pv 0) (aa (aH (aV T) (hr.mono (by decide)) (by rfl) T.bf T.aZ.kp T.bc .nil aN (aa (pv 1) (aa (bj cQ au (bI cj (by rfl) T.gh dR (aa (bG bN (pv 0) au (fun _ _=>rfl)) ak aJ))) ak bZ) aj)) (aa oG ak ao) aW) aj)))
    (az (bz (ir PySem.F.plainAttrs_list PySem.F.slot_list_append PySem.F.type_list_append dh (bG bN (pv 0) au (fun _ _=>rfl)) (aa (cM (aa bx (aa (aH (cT T) (hr.mono (by decide)) (by rfl) T.dD T.cZ.kp T.dG .nil aN (aa (bG bN (pv 0) au (fun _ _=>rfl)) (aa (bI cj (by rfl) T.gh dR (aa (bG bN (pv 0) au (fun _ _=>rfl)) ak aJ)) ak aW) aJ)) (aa (bh ak) (aa (bh (aa (pv 3) ak aj)) (aa (bh (aa (pv 6) (aa (pv 7) ak aj) aj)) ak aR) aR) aR) aW) ao)) ak cg)))
    (aF (bz (ir PySem.F.plainAttrs_list PySem.F.slot_list_append PySem.F.type_list_append dh (bG bN (pv 0) au (fun _ _=>rfl)) (aa (pv 7) ak aj))))))))
   (aF (bz (aH (cU T) (hr.mono (by decide)) (by rfl) T.dF T.cX.kp T.dz .nil aN (aa (pv 0) (aa (pv 1) (aa bx (aa (bh ak) (aa (bh (aa (pe_bm0 PySem.F.plainAttrs_list PySem.F.slot_list_pop PySem.F.type_list_pop mt_pop (bG bN (pv 0) au (fun _ _=>rfl))) ak aW)) (aa au ak ao) aR) aR) ao) aj) aj)))))),?_⟩
  have hl:sizeLine=16777216:=sizeLine_eq
  have hpos:0 <os.length:=List.length_pos_iff.mpr hne
  refine hide fun u hu=>?_
  refine while_by (fun σ H1=>∃(ls1:List LaneD) (ps1:List PD) (os1:List Str) (v3 v4 v5:Option V),σ=[some (.ref d.S),some (.int c),some (.ref B),v3,v4,v5,none,none]∧aO (bR d.E H) (bR d.E H1)∧DAt d H1 ls1 ps1 os1∧Drawn.WF (uG ls1 ps1 os1 back)∧1≤os1.length∧os1.length≤4∧ls.length≤ls1.length∧ls1.length+os1.length≤16∧ps1.length+os1.length≤14)
   (fun _ H1=>lenAt H1 d.O) ⟨ls,ps,os,none,none,none,rfl,aO.refl _,D,w,by omega,ho,Nat.le_refl _,by omega,by omega⟩ ?_ ?_
  ·rintro σ H1 ⟨ls1,ps1,os1,v3,v4,v5,rfl,s1,D1,w1,o1,o4,hl1,hl2,hp2⟩
   refine⟨_,rfl,d.S,_,2,_,rfl,rfl,D1.seqS,aQ (j:=2) rfl,.ref d.O,os1.length,rfl,.inl ⟨_,SqL.of D1.opens,by simp⟩,_,_,rfl,rfl,_,rfl,iy (fun h3=>?_) (fun h3=>?_)⟩
   ·have h3:1 <os1.length:=by have:=of_decide_eq_true h3;omega
    obtain⟨one,other,os2,rfl⟩:∃one other os2,os1=one:: other:: os2:=by
     match os1,h3 with
     | x:: y:: r,_=>exact⟨x,y,r,rfl⟩
    rw [List.length_cons,List.length_cons] at h3 o1 o4 hl2 hp2
    have lm:=lenAt_eq D1.opens
    refine hideW fun De hD u hu=>?_
    refine⟨_,rfl,d.S,_,2,_,rfl,rfl,D1.seqS,aQ (j:=2) rfl,.inl ⟨rfl,_,SqL.of D1.opens⟩,d.O,_,0,0,.str one,rfl,rfl,D1.opens,by decide,by decide,ix_nat (by simp),rfl,?_⟩
    have D2:=D1.open (os':=other:: os2)
    have c2:bR d.E (upd H1 d.O (.lst ((other:: os2).map V.str)))=bR d.E H1:=dN (by simp)
    refine dC (v:=u) hu fun u hu=>?_
    change yq _ _ _ _ (upd H1 d.O (.lst ((other:: os2).map V.str)))
    generalize upd H1 d.O (.lst ((other:: os2).map V.str))=H2 at D2 c2 ⊢
    refine⟨_,rfl,d.S,_,2,_,rfl,rfl,D2.seqS,aQ (j:=2) rfl,.inl ⟨rfl,_,SqL.of D2.opens⟩,d.O,_,0,0,.str other,rfl,rfl,D2.opens,by decide,by decide,ix_nat (by simp),rfl,?_⟩
    have D3:=D2.open (os':=os2)
    have c3:bR d.E (upd H2 d.O (.lst (os2.map V.str)))=bR d.E H2:=dN (by simp)
    refine dC (v:=u) hu fun u hu=>?_
    change yq _ _ _ _ (upd H2 d.O (.lst (os2.map V.str)))
    generalize upd H2 d.O (.lst (os2.map V.str))=H3 at D3 c3 ⊢
    have s3:aO (bR d.E H) (bR d.E H3):=by rw [c3,c2];exact s1
    refine⟨by show 3≤sizeLine;exact szl,fun a0 n0=>?_⟩
    have s0:=aC (o:=.lst [.str "add",.str "less",.str "add"]) n0
    have D0:=D3.keep s0
    have c0:=s3.trans (D3.cut s0)
    refine⟨_,rfl,_,rfl,d.S,_,2,_,rfl,rfl,D0.seqS,aQ (j:=2) rfl,.ref d.O,os2.length,rfl,.inl ⟨_,SqL.of D0.opens,by simp⟩,c,(os2.length:Int),rfl,_,_,rfl,rfl,by show(0:Int) <3;decide,?_⟩
    obtain⟨i,ei,hi⟩:=pick3 (cu c (os2.length:Int))
    refine⟨a0,_,_,_,rfl,rfl,SqL.of aq,ei,?_⟩
    generalize upd H3 a0 (.lst [.str "add",.str "less",.str "add"])=H0 at s0 D0 c0 ⊢
    obtain⟨xs,eP,aP⟩:=D0.parts
    have xl:=aP.length
    have hN:([]:List Int).length=cN i:=by rcases hi with rfl | rfl <;> rfl
    have hI:[one,other].length=cI i:=by rcases hi with rfl | rfl <;> rfl
    have hO:1=cO i:=by rcases hi with rfl | rfl <;> rfl
    subst hu
    refine⟨_,rfl,_,rfl,_,rfl,d.S,_,1,_,rfl,rfl,D0.seqS,aQ (j:=1) rfl,.ref d.P,ps1.length,rfl,.inl ⟨_,SqL.of eP,xl.symm⟩,_,_,rfl,rfl,_,_,rfl,?_⟩
    refine⟨_,rfl,by show 0≤sizeLine;exact szl,fun a1 n1=>⟨_,rfl,_,rfl,by show 2≤sizeLine;exact szl,fun a2 n2=>?_⟩⟩
    obtain⟨D9,z1,z2,z3⟩:=D0.two n1 n2 (y:=.lst [.str one,.str other])
    refine⟨d,_,_,os2,_,i,a1,a2,[],[one,other],1,rfl,D9,z1,z2,by omega,hN,by simp,hI,hO,by omega,by omega,by omega,fun newl H8 hn s8 D8=>?_⟩
    have w8:=rC w1 rfl D8 (.refl _) (by omega) (by rw [lP];omega)
    subst hD
    refine⟨⟨_,_,_,_,_,_,rfl,c0.trans (z3.trans s8),D8,w8,?_,?_,?_,?_,?_⟩,?_⟩
    ·rw [lP,lM];omega
    ·rw [lP,lM];omega
    ·rw [lP];omega
    ·rw [lP,lP,lM];omega
    ·rw [lP,lP,lM,List.length_singleton];omega
    ·rw [lenAt_eq D8.opens,lm,lM,lM,lP,lM,List.length_cons,List.length_cons]
     omega
   ·have h3:os1.length=1:=by
     have:¬(1:Int) <(os1.length:Int):=fun z=>h3 (decide_eq_true z)
     omega
    obtain⟨y,rfl⟩:=List.length_eq_one_iff.mp h3
    refine dC (v:=u) hu fun u hu=>?_
    refine⟨_,rfl,B,rfl,⟨_,SqL.of (cY _ _ (s1 _ _ eB))⟩,?_⟩
    refine oh (K:=K) (a:=B) (xs:=back.map V.str) (fun j σ H2=>∃(ls2:List LaneD) (ps2:List PD) (y:Str) (u3 u6 u7:Option V),σ=[some (.ref d.S),some (.int c),some (.ref B),u3,v4,v5,u6,u7]∧aO (bR d.E H) (bR d.E H2)∧DAt d H2 ls2 ps2 [y]∧Drawn.WF (uG ls2 ps2 [y] (back.drop j))∧ls.length≤ls2.length∧ls2.length≤15+j∧ps2.length≤13+j) ⟨ls1,ps1,y,v3,none,none,rfl,s1,D1,w1,hl1,by have z:=hl2;rw [List.length_singleton] at z;omega,by have z:=hp2;rw [List.length_singleton] at z;omega⟩ (fun j σ H2 _ ⟨ls2,ps2,y,u3,u6,u7,e,s2,h⟩=>SqL.of (cY _ _ (s2 _ _ eB))) ?_ ?_
    ·rintro j x σ H2 hx ⟨ls2,ps2,y2,u3,u6,u7,rfl,s2,D2,w2,hl2',hl3,hp3⟩
     rw [List.getElem?_map] at hx
     obtain⟨bn,hbn,rfl⟩:=Option.map_eq_some_iff.mp hx
     have hj:j <back.length:=by
      rcases Nat.lt_or_ge j back.length with h | h
      ·exact h
      ·rw [List.getElem?_eq_none h] at hbn;cases hbn
     have hdr:back.drop j=bn:: back.drop (j+1):=by
      rw [List.drop_eq_getElem_cons hj]
      rw [List.getElem?_eq_getElem hj,Option.some.injEq] at hbn
      rw [hbn]
     refine hideG fun De hD u hu=>?_
     refine⟨_,rfl,d.S,_,2,_,rfl,rfl,D2.seqS,aQ (j:=2) rfl,.inl ⟨rfl,_,SqL.of D2.opens⟩,d.O,_,.str y2,rfl,rfl,D2.opens,rfl,?_⟩
     have D3:=D2.open (os':=[])
     have c3:bR d.E (upd H2 d.O (.lst (([]:List Str).map V.str)))=bR d.E H2:=dN (by simp)
     refine dC (v:=u) hu fun u hu=>?_
     change yq _ _ _ _ (upd H2 d.O (.lst (([]:List Str).map V.str)))
     generalize upd H2 d.O (.lst (([]:List Str).map V.str))=H3 at D3 c3 ⊢
     obtain⟨xs,eP,aP⟩:=D3.parts
     have xl:=aP.length
     refine⟨_,rfl,_,rfl,_,rfl,d.S,_,1,_,rfl,rfl,D3.seqS,aQ (j:=1) rfl,.ref d.P,ps2.length,rfl,.inl ⟨_,SqL.of eP,xl.symm⟩,_,_,rfl,rfl,_,_,rfl,d,ls2,ps2,[],_,false,rfl,D3,by omega,fun l H4 _ s4 D4=>?_⟩
     rw [c3] at s4
     have s24:=s2.trans s4
     obtain⟨xs4,eP4,aP4⟩:=D4.parts
     have xl4:=aP4.length
     refine dC (v:=u) hu fun u hu=>?_
     refine⟨_,rfl,d.S,_,1,_,rfl,rfl,D4.seqS,aQ (j:=1) rfl,.inl ⟨rfl,_,SqL.of eP4⟩,?_⟩
     refine⟨_,rfl,d.S,_,4,_,rfl,rfl,D4.seqS,aQ (j:=4) rfl,?_⟩
     refine⟨_,rfl,d.S,_,1,_,rfl,rfl,D4.seqS,aQ (j:=1) rfl,.ref d.P,ps2.length,rfl,.inl ⟨_,SqL.of eP4,xl4.symm⟩,?_⟩
     refine⟨d.c4,ps2.length,rfl,by omega,fun H5 s5=>?_⟩
     have D5:=D4.keep s5
     have c5:=s24.trans (D4.cut s5)
     have eP5:=s5 _ _ eP4
     refine⟨by show 0≤sizeLine;exact szl,fun a1 n1=>⟨_,rfl,by show 1≤sizeLine;exact szl,fun a2 n2=>⟨_,rfl,_,rfl,by show 2≤sizeLine;exact szl,fun a3 n3=>⟨by show 5≤sizeLine;exact szl,fun q nq=>?_⟩⟩⟩⟩
     obtain⟨D6,z1,z2,z3⟩:=D5.two n1 n2 (y:=.lst [.str y2])
     have t6:aO H5 (upd (upd H5 a1 (.lst [])) a2 (.lst [.str y2])):=(aC n1).trans (aC n2)
     have eP6:=t6 _ _ eP5
     generalize upd (upd H5 a1 (.lst [])) a2 (.lst [.str y2])=H6 at D6 z1 z2 z3 t6 eP6 n3 nq ⊢
     obtain⟨D7,y1,y2',y3⟩:=D6.two n3 nq (y:=.tup [.str "copy",.str (aG d.c4 ps2.length),.ref a1,.ref a2,.ref a3])
     have t7:aO H6 (upd (upd H6 a3 (.lst [.str bn,.str l.name])) q (.tup [.str "copy",.str (aG d.c4 ps2.length),.ref a1,.ref a2,.ref a3])):=(aC n3).trans (aC nq)
     have eP7:=t7 _ _ eP6
     generalize upd (upd H6 a3 (.lst [.str bn,.str l.name])) q (.tup [.str "copy",.str (aG d.c4 ps2.length),.ref a1,.ref a2,.ref a3])=H7 at D7 y1 y2' y3 t7 eP7 ⊢
     have c7:=c5.trans (z3.trans y3)
     refine⟨d.P,xs4,_,rfl,rfl,eP7,by omega,?_⟩
     have D8:=D7.part (p:=⟨3,aG d.c4 ps2.length,[],[y2],[bn,l.name]⟩) ⟨q,a1,a2,a3,rfl,y2',y3 _ _ z1,y3 _ _ z2,y1⟩ ⟨by show 3 <11;omega,rfl,rfl,rfl,by simp⟩ rfl eP7
     have c8:bR d.E (upd H7 d.P (.lst (xs4 ++ [.ref q])))=bR d.E H7:=dN (by simp)
     generalize upd H7 d.P (.lst (xs4 ++ [.ref q]))=H8 at D8 c8 ⊢
     subst hu
     refine⟨_,rfl,d.S,_,2,_,rfl,rfl,D8.seqS,aQ (j:=2) rfl,.inl ⟨rfl,_,SqL.of D8.opens⟩,_,rfl,d.O,_,_,rfl,rfl,D8.opens,by simp;omega,?_⟩
     have D9:=D8.open (os':=[l.name])
     have nd:=D9.nod (by rw [lP,List.length_singleton];omega)
     rw [hdr] at w2
     have wc:=w2.closeBack (p:=⟨3,aG d.c4 ps2.length,[],[y2],[bn,l.name]⟩) (rest:=back.drop (j+1)) (one:=y2) (b:=bn) (fresh:=l.name) rfl rfl (.refl _) rfl (by simpa using nd)
     subst hD
     exact⟨ls2 ++ [l],_,l.name,_,_,_,rfl,by rw [dN (by simp),c8];exact c7,D9,by simpa [uG] using wc,by rw [lP];omega,by rw [lP,List.length_singleton];omega,by rw [lP,List.length_singleton];omega⟩
    rintro σ H2 ⟨ls2,ps2,y2,u3,u6,u7,rfl,s2,D2,w2,hl2',hl3,hp3⟩
    rw [lM] at w2 hl3 hp3
    rw [List.drop_length] at w2
    subst hu
    refine⟨_,rfl,_,rfl,by show 0≤sizeLine;exact szl,fun a3 n3=>?_⟩
    have t3:=aC (o:=.lst []) n3
    have D3:=D2.keep t3
    have c3:=s2.trans (D2.cut t3)
    have o3:=D2.out n3
    have e3:=dM (aq (H:=H2) (a:=a3) (o:=.lst ([]:List V))) o3
    generalize upd H2 a3 (.lst [])=H3 at t3 D3 c3 e3 ⊢
    refine⟨_,rfl,d.S,_,2,_,rfl,rfl,D3.seqS,aQ (j:=2) rfl,.inl ⟨rfl,_,SqL.of D3.opens⟩,d.O,_,.str y2,rfl,rfl,D3.opens,rfl,?_⟩
    have D4:=D3.open (os':=[])
    have c4:bR d.E (upd H3 d.O (.lst (([]:List Str).map V.str)))=bR d.E H3:=dN (by simp)
    rw [show([y2].map V.str).dropLast=([]:List Str).map V.str from rfl]
    refine⟨by show 1≤sizeLine;exact szl,fun a4 n4=>?_⟩
    generalize upd H3 d.O (.lst (([]:List Str).map V.str))=H4 at D4 c4 n4 ⊢
    have s5:=aC (o:=.lst [.str y2]) n4
    have D5:=D4.keep s5
    have c5:=D4.cut s5
    rw [c4] at c5
    have e5:=dM (E:=d.E) (H:=upd H4 a4 (.lst [.str y2])) aq (D4.out n4)
    refine⟨d,ls2,ps2,[],_,1,a3,a4,[],[y2],0,rfl,D5,c5 _ _ e3,e5,by omega,rfl,by simp,rfl,rfl,by omega,by omega,by simp,fun newl2 H9 hn2 s9 D9=>?_⟩
    have hz:newl2=[]:=List.length_eq_zero_iff.mp hn2
    subst hz
    rw [List.map_nil,List.append_nil,List.append_nil] at D9
    obtain⟨x1,x2,x3⟩:=w2.last (p:=⟨1,aG d.c4 ps2.length,[],[y2],[]⟩) (y:=y2) rfl rfl rfl rfl
    exact k ls2 _ H9 (c3.trans (c5.trans s9)) D9 ⟨w2.nod,x1,x2,y2,x3⟩ (by omega) hl2' (by rw [lP,List.length_singleton];omega) (by rw [lP,List.length_singleton];omega)
  ·intro σ H' Q' Q'' hm hq
   obtain⟨x1,x2,x3,x4,x5,x6,x7,x8,x9,x10,x11,x12,x13,x14,x15,x16,x17,x18,x19,x20,q⟩:=hq
   exact⟨x1,x2,x3,x4,x5,x6,x7,x8,x9,x10,x11,x12,x13,x14,x15,x16,x17,x18,x19,x20,hm _ _ q⟩
def sp__law_net (K:PySem.W.Frag):Sp:=fun vs H Q _=>∃(a:Addr) (ns:List Int) (start steps:Nat) (odd:Bool),vs=[.ref a,.int (start:Nat),.int (steps:Nat),.bl odd]∧SqL K H a (ns.map V.int)∧steps≤4∧∀(T L P:Addr) (ls:List LaneD) (ps:List PD) (H':Hp),aO H H'→H L=none→H P=none→L≠P→H' T=some (.tup [.ref L,.ref P])→NetAt H' L P ls ps→NetD (gj ns start) (gj ns (start+1)) ls ps→Q (.ref T) H'
theorem sc__law_net:FnScope ["_law_script", "_law_start", "_law_steps", "_law_odd", "_law_one", "_law_other", "_law_state", "_law_k", "_law_back", "_law_at"] ["_law_script", "_law_start", "_law_steps", "_law_odd"] (aA lq):=⟨rfl,rfl,rfl,by decide +kernel,rfl,by decide +kernel,by decide +kernel⟩
theorem ok__law_net (T:Txt w K mg t):FnOk P w K mg base CX0 7 t.wL t.u5 ["_law_script", "_law_start", "_law_steps", "_law_odd"] (sp__law_net K):=by
 have sc:=sc__law_net
 refine T.zX.ok sc (fun vs H Q E h=>?_) (fun cdv A outer s H vs Q E hr h=>?_)
 ·obtain⟨a,ns,start,steps,odd,rfl,_⟩:=h
  rfl
 ·obtain⟨a,ns,start,steps,odd,rfl,hS,hst,k⟩:=h
  refine⟨_,(az (bD (i:=4) sc.nd rfl (Or.inl rfl) (aH (fO T) (hr.mono (by decide)) (by rfl) T.gA T.fM.kp T.gm .nil aN (aa (pv 0) (aa (pv 1) ak aj) aj)))
   (az (bD (i:=5) sc.nd rfl (Or.inr rfl) (aH (fO T) (hr.mono (by decide)) (by rfl) T.gA T.fM.kp T.gm .nil aN (aa (pv 0) (aa (bj cQ (pv 1) au) ak bZ) aj)))
   (az (bD (i:=6) sc.nd rfl (Or.inr rfl) (bh (aa (bh ak) (aa (bh ak) (aa (bh ak) (aa (pv 4) (aa (pv 5) ak aj) aj) aR) aR) aR)))
   (az (lB PassesOwn.never rfl (lV rfl T.qg (aa (bj cQ au (bj cL (aH (aV T) (hr.mono (by decide)) (by rfl) T.bf T.aZ.kp T.bc .nil aN (aa (pv 4) (aa au ak ao) aj)) au)) ak bZ)) (bL (i:=7) sc.nd rfl (Or.inl rfl))
    (aF (bz (aH (cU T) (hr.mono (by decide)) (by rfl) T.dF T.cX.kp T.dz .nil aN (aa (pv 6) (aa (aH (aV T) (hr.mono (by decide)) (by rfl) T.bf T.aZ.kp T.bc .nil aN (aa (pv 5) (aa (pv 7) ak aj) aj)) (aa bx (aa (bh ak) (aa (bh ak) (aa au ak ao) aR) aR) ao) aW) aj)))))
   (az (nU (i:=8) [5,6] ["_law_script", "_law_start", "_law_steps", "_law_odd", "_law_one", "_law_other", "_law_state", "_law_k", "_law_back", "_law_at"] (aA lq) rfl sc.nd rfl (lV rfl T.qg (aa (bj cL (aH (aV T) (hr.mono (by decide)) (by rfl) T.bf T.aZ.kp T.bc .nil aN (aa (pv 4) (aa au ak ao) aj)) au) ak bZ)) (fun _ _ _ _ _=>fW) (fun _ _ _ _ _=>(aH (mz T) (hr.mono (by decide)) (by rfl) T.nZ T.lR.kp T.n8 .nil aN (aa (pv 2) (aa (aH (aV T) (hr.mono (by decide)) (by rfl) T.bf T.aZ.kp T.bc .nil aN (aa (pv 1) (aa (bj cQ au (pv 0)) ak bZ) aj)) (aa oG ak ao) aW) aj))))
   (az (bz (ir PySem.F.plainAttrs_list PySem.F.slot_list_extend PySem.F.type_list_extend mt_extend (bG bN (pv 6) au (fun _ _=>rfl)) (aa (pv 8) ak aj)))
   (az (lB PassesOwn.never rfl (lV rfl T.qg (aa (pv 2) ak aj)) (bL (i:=7) sc.nd rfl (Or.inl rfl))
    (aF (bz (aH (ok__law_step T) (hr.mono (by decide)) (by rfl) T.m__law_step T.yQ.kp T.b__law_step .nil aN (aa (pv 6) (aa (aH (fO T) (hr.mono (by decide)) (by rfl) T.gA T.fM.kp T.gm .nil aN (aa (pv 0) (aa (bj cQ (bj cQ (pv 1) au) (pv 7)) ak bZ) aj)) (aa (pv 3) ak aj) aW) aj)))))
   (az (bz (aH (ok__law_closed T) (hr.mono (by decide)) (by rfl) T.m__law_closed T.vY.kp T.b__law_closed .nil aN (aa (pv 6) (aa (pv 5) (aa (pv 8) ak aj) aj) aj)))
   (az (bD (i:=9) sc.nd rfl (Or.inl rfl) (bj cL (aH (aV T) (hr.mono (by decide)) (by rfl) T.bf T.aZ.kp T.bc .nil aN (aa (pv 4) (aa au ak ao) aj)) (bI cj (by rfl) T.gh dR (aa (bG bN (pv 6) au (fun _ _=>rfl)) ak aJ))))
   (aF (bA (cM (aa (bG bN (pv 6) au (fun _ _=>rfl)) (aa (bj op_cat (fL lg (bG bN (pv 6) au (fun _ _=>rfl)) (d8 (pv 9)) rU) (fL lg (bG bN (pv 6) au (fun _ _=>rfl)) rU (d8 (pv 9)))) ak bZ) aJ))))))))))))),?_⟩
  have hl:sizeLine=16777216:=sizeLine_eq
  refine hide fun u hu=>?_
  refine⟨_,rfl,_,rfl,a,ns,start,rfl,hS,?_⟩
  refine dC (v:=u) hu fun u hu=>?_
  refine⟨_,rfl,_,rfl,_,_,rfl,rfl,a,ns,start+1,rfl,hS,?_⟩
  refine dC (v:=u) hu fun u hu=>?_
  refine⟨by show 0≤sizeLine;exact szl,fun L nL=>⟨by show 0≤sizeLine;exact szl,fun P' nP=>⟨by show 0≤sizeLine;exact szl,fun O nO=>⟨_,rfl,_,rfl,by show 5≤sizeLine;exact szl,fun S nS=>?_⟩⟩⟩⟩
  obtain⟨D1,s1,nP0⟩:=DAt.init (gj ns start) (gj ns (start+1)) nL nP nO nS
  have nLP:L≠P':=D1.ne.1
  refine dC (v:=u) hu fun u hu=>?_
  change yq _ _ _ [some (.ref a),some (.int (start:Nat)),some (.int (steps:Nat)),some (.bl odd),some (.int (gj ns start)),some (.int (gj ns (start+1))),some (.ref S),none,none,none] (upd (upd (upd (upd H L (.lst [])) P' (.lst [])) O (.lst [])) S (.lst [.ref L,.ref P',.ref O,.int (gj ns start),.int (gj ns (start+1))]))
  generalize upd (upd (upd (upd H L (.lst [])) P' (.lst [])) O (.lst [])) S (.lst [.ref L,.ref P',.ref O,.int (gj ns start),.int (gj ns (start+1))])=H1 at D1 s1 ⊢
  obtain⟨d,hd⟩:∃d:Dw,d=⟨S,L,P',O,gj ns start,gj ns (start+1)⟩:=⟨_,rfl⟩
  rw [←hd] at D1
  have hE:[L,P',O]=d.E:=by rw [hd]
  have hSd:S=d.S:=by rw [hd]
  have hLd:L=d.L:=by rw [hd]
  have hc3:gj ns start=d.c3:=by rw [hd]
  have hc4:gj ns (start+1)=d.c4:=by rw [hd]
  rw [hE] at s1
  rw [hLd] at nL nLP
  rw [hc3,hc4] at k
  rw [hSd,hc3,hc4]
  clear hd hE nP nO nS
  have g0:=Int.emod_nonneg (cu d.c3 5) (show(2:Int)≠0 by decide)
  have g1:=Int.emod_lt_of_pos (cu d.c3 5) (show(0:Int) <2 by decide)
  refine⟨_,rfl,_,_,rfl,_,_,rfl,rfl,by show(0:Int) <2;decide,_,_,rfl,rfl,1+cu d.c3 5 % 2,rfl,by omega,by omega,?_⟩
  obtain⟨g,hg,hg1,hg2⟩:∃g:Nat,(1+cu d.c3 5 % 2).toNat=g∧1≤g∧g≤2:=⟨_,rfl,by omega,by omega⟩
  rw [hg]
  refine yw (fun j σ H2=>∃(ls:List LaneD) (ps:List PD) (os:List Str) (v7:Option V),σ=[some (.ref a),some (.int (start:Nat)),some (.int (steps:Nat)),some (.bl odd),some (.int d.c3),some (.int d.c4),some (.ref d.S),v7,none,none]∧aO (bR d.E H1) (bR d.E H2)∧DAt d H2 ls ps os∧Drawn.WF (uG ls ps os [])∧ls.length=j∧ps.length=j∧os.length=j) ⟨[],[],[],none,rfl,aO.refl _,D1,Drawn.WF.start,rfl,rfl,rfl⟩ ?_ ?_
  ·rintro j σ H2 hj ⟨ls,ps,os,v7,rfl,s2,D2,w2,h1,h2,h3⟩
   refine hideD fun De hD=>?_
   refine⟨_,rfl,_,rfl,_,rfl,_,_,rfl,by show 0≤sizeLine;exact szl,fun a1 n1=>⟨by show 0≤sizeLine;exact szl,fun a2 n2=>?_⟩⟩
   obtain⟨D9,z1,z2,z3⟩:=D2.two n1 n2 (y:=.lst [])
   refine⟨d,ls,ps,os,_,0,a1,a2,[],[],1,rfl,D9,z1,z2,by omega,rfl,by simp,rfl,rfl,by omega,by omega,by omega,fun newl H8 hn s8 D8=>?_⟩
   have w8:=rC w2 rfl D8 (.refl _) (by omega) (by rw [lP];omega)
   subst hD
   exact⟨_,_,_,_,rfl,s2.trans (z3.trans s8),D8,w8,by rw [lP];omega,by rw [lP,List.length_singleton];omega,by rw [lP,lM];omega⟩
  rintro σ H2 ⟨ls,ps,os,v7,rfl,s2,D2,w2,h1,h2,h3⟩
  have b0:=Int.emod_nonneg (cu d.c3 6) (show(3:Int)≠0 by decide)
  have b1:=Int.emod_lt_of_pos (cu d.c3 6) (show(0:Int) <3 by decide)
  refine dC (v:=u) hu fun u hu=>?_
  refine⟨_,rfl,_,_,rfl,_,_,rfl,rfl,by show(0:Int) <3;decide,cu d.c3 6 % 3,rfl,by omega,by omega,?_⟩
  obtain⟨nb,hnb,hnb2⟩:∃nb:Nat,(cu d.c3 6 % 3).toNat=nb∧nb≤2:=⟨_,rfl,by omega⟩
  rw [hnb]
  refine pX (fun j ys H3=>∃(ls3:List LaneD) (bl:List Str),ys=bl.map V.str∧bl.length=j∧aO (bR d.E H1) (bR d.E H3)∧DAt d H3 ls3 ps os∧Drawn.WF (uG ls3 ps (os ++ bl) bl)∧ls3.length=g+j) (by omega) ⟨ls,[],rfl,rfl,s2,D2,by rw [List.append_nil];exact w2,by omega⟩ (fun j ys H3 ⟨_,bl,e,e2,_⟩=>by rw [e,lM];omega) ?_ ?_
  ·rintro j ys H3 hj ⟨ls3,bl,rfl,hb,s3,D3,w3,h4⟩
   refine yes ⟨_,rfl,_,rfl,_,rfl,_,_,rfl,rfl,_,_,rfl,d,ls3,ps,os,_,true,rfl,D3,by omega,fun l H4 _ s4 D4=>?_⟩
   have nd:=D4.nod (by rw [lP,List.length_singleton];omega)
   have wb:=w3.backLane (b:=l.name) (by simpa using nd)
   exact⟨ls3 ++ [l],bl ++ [l.name],by simp,by simp [hb],s3.trans s4,D4,by simpa [uG] using wb,by rw [lP,List.length_singleton];omega⟩
  rintro ys H3 ⟨ls3,bl,rfl,hbl,s3,D3,w3,h4⟩ B nB
  have t4:=aC (o:=.lst (bl.map V.str)) nB
  have D4:=D3.keep t4
  have s4:=s3.trans (D3.cut t4)
  have eB:=dM (aq (H:=H3) (a:=B) (o:=.lst (bl.map V.str))) (D3.out nB)
  generalize upd H3 B (.lst (bl.map V.str))=H4 at t4 D4 s4 eB ⊢
  refine dC (v:=u) hu fun u hu=>?_
  refine⟨_,rfl,d.S,_,2,_,rfl,rfl,D4.seqS,aQ (j:=2) rfl,.inl ⟨rfl,_,SqL.of D4.opens⟩,_,rfl,d.O,B,_,_,rfl,rfl,D4.opens,cY _ _ eB,by rw [lM,lM];omega,?_⟩
  rw [←List.map_append]
  have D5:=D4.open (os':=os ++ bl)
  have c5:bR d.E (upd H4 d.O (.lst ((os ++ bl).map V.str)))=bR d.E H4:=dN (by simp)
  generalize upd H4 d.O (.lst ((os ++ bl).map V.str))=H5 at D5 c5 ⊢
  rw [←c5] at s4 eB
  refine dC (v:=u) hu fun u hu=>?_
  refine⟨_,rfl,(steps:Int),rfl,by omega,by omega,?_⟩
  rw [Int.toNat_natCast]
  refine yw (fun j σ H6=>∃(ls6:List LaneD) (ps6:List PD) (os6:List Str) (v7:Option V),σ=[some (.ref a),some (.int (start:Nat)),some (.int (steps:Nat)),some (.bl odd),some (.int d.c3),some (.int d.c4),some (.ref d.S),v7,some (.ref B),none]∧aO (bR d.E H5) (bR d.E H6)∧DAt d H6 ls6 ps6 os6∧Drawn.WF (uG ls6 ps6 os6 bl)∧1≤ls6.length∧ls6.length≤4+2 * j∧ps6.length≤2+2 * j∧os6≠[]∧os6.length≤4) ⟨ls3,ps,os ++ bl,v7,rfl,aO.refl _,D5,w3,by omega,by omega,by omega,by intro z;have:=congrArg List.length z;rw [lP,List.length_nil] at this;omega,by rw [lP];omega⟩ ?_ ?_
  ·rintro j σ H6 hj ⟨ls6,ps6,os6,u7,rfl,s6,D6,w6,l0,l6,p6,o0,o6⟩
   have hS6:SqL K H6 a (ns.map V.int):=cY.seq ((s1.trans (s4.trans s6)).seq hS)
   refine hideD fun De hD=>?_
   refine⟨_,rfl,_,rfl,_,rfl,_,_,rfl,rfl,_,rfl,_,_,rfl,rfl,a,ns,start+2+(0+j),rfl,hS6,_,rfl,d,ls6,ps6,os6,_,bl,odd,rfl,D6,w6,o0,o6,by omega,by omega,fun ls' ps' os' H' X=>?_⟩
   subst hD
   exact⟨ls',ps',os',_,rfl,s6.trans X.cut,X.at',X.wf,by have h1:=X.wf.ins.length_eq;have h2:=X.o1;rw [lP,lM] at h1;change _+os'.length=_ at h1;omega,by have:=X.l2;omega,by have:=X.p2;omega,by intro z;have:=X.o1;rw [z] at this;simp at this,X.o4⟩
  rintro σ H6 ⟨ls6,ps6,os6,u7,rfl,s6,D6,w6,l0,l6,p6,o0,o6⟩
  refine dC (v:=u) hu fun u hu=>?_
  refine⟨_,rfl,_,rfl,_,rfl,d,ls6,ps6,os6,_,B,bl,rfl,D6,w6,s6 _ _ eB,o0,o6,by omega,by omega,by omega,fun ls7 ps7 H7 s7 D7 W7 l17 l7 p16 p1=>?_⟩
  obtain⟨xsL,eL,aL⟩:=D7.lanes
  obtain⟨xsP,eP,aP⟩:=D7.parts
  have xl:=aP.length
  refine dC (v:=u) hu fun u hu=>?_
  refine⟨_,rfl,_,_,rfl,_,rfl,d.S,_,1,_,rfl,rfl,D7.seqS,aQ (j:=1) rfl,.ref d.P,ps7.length,rfl,.inl ⟨_,SqL.of eP,xl.symm⟩,cu d.c3 7,(ps7.length:Int),rfl,rfl,by omega,?_⟩
  have r0:=Int.emod_nonneg (cu d.c3 7) (show(ps7.length:Int)≠0 by omega)
  obtain⟨r,hr'⟩:∃r:Nat,cu d.c3 7 % (ps7.length:Int)=(r:Int):=⟨_,(Int.toNat_of_nonneg r0).symm⟩
  dsimp only
  rw [hr']
  subst hu
  refine⟨_,rfl,d.S,_,0,_,rfl,rfl,D7.seqS,aQ (j:=0) rfl,?_⟩
  refine⟨_,rfl,d.S,_,1,_,rfl,rfl,D7.seqS,aQ (j:=1) rfl,?_⟩
  refine⟨_,rfl,_,rfl,d.P,_,rfl,SqL.of eP,fun q1 m1=>?_⟩
  rw [cutV_from]
  have t1:=aC (o:=.lst (xsP.drop r)) m1
  have f1:upd H7 q1 (.lst (xsP.drop r)) q1=some (.lst (xsP.drop r)):=aq
  have D8:=D7.keep t1
  have eP8:=t1 _ _ eP
  have eL8:=t1 _ _ eL
  generalize upd H7 q1 (.lst (xsP.drop r))=H8 at t1 f1 D8 eP8 eL8 ⊢
  refine⟨_,rfl,d.S,_,1,_,rfl,rfl,D8.seqS,aQ (j:=1) rfl,_,rfl,_,rfl,d.P,_,rfl,SqL.of eP8,fun q2 m2=>?_⟩
  rw [cutV_to]
  have t2:=aC (o:=.lst (xsP.take r)) m2
  have f2:upd H8 q2 (.lst (xsP.take r)) q2=some (.lst (xsP.take r)):=aq
  have f12:=t2 _ _ f1
  have eL9:=t2 _ _ eL8
  generalize upd H8 q2 (.lst (xsP.take r))=H9 at t2 f2 f12 eL9 ⊢
  refine⟨q1,q2,_,_,rfl,rfl,f12,f2,by rw [List.length_drop,List.length_take];omega,fun q3 m3=>?_⟩
  have t3:=aC (o:=.lst (xsP.drop r ++ xsP.take r)) m3
  have f3:upd H9 q3 (.lst (xsP.drop r ++ xsP.take r)) q3=some (.lst (xsP.drop r ++ xsP.take r)):=aq
  have eLA:=t3 _ _ eL9
  generalize upd H9 q3 (.lst (xsP.drop r ++ xsP.take r))=HA at t3 f3 eLA ⊢
  refine⟨by show 2≤sizeLine;exact szl,fun T' nT=>?_⟩
  have t4:=aC (o:=.tup [.ref d.L,.ref q3]) nT
  have sA:aO H7 (upd HA T' (.tup [.ref d.L,.ref q3])):=t1.trans (t2.trans (t3.trans t4))
  have s17:aO H (bR d.E H7):=s1.trans (s4.trans (s6.trans s7))
  have s07:aO H H7:=s17.trans cY
  have free3:H q3=none:=s07.free (t1.free (t2.free m3))
  have cA:aO (bR d.E H7) (upd HA T' (.tup [.ref d.L,.ref q3])):=cY.trans sA
  have nq:d.L≠q3:=aD eL9 m3
  have rp:=rot_perm ps7 r
  refine k T' d.L q3 ls7 (ps7.drop r ++ ps7.take r) _ (s07.trans sA) nL free3 nq aq ⟨⟨xsL,t4 _ _ eLA,aL.imp fun _ _ h=>h.same cA⟩,⟨_,t4 _ _ f3,((aP.drop r).app (aP.take r)).imp fun _ _ h=>h.same cA⟩⟩ ⟨D7.lok,fun p hp=>D7.pok p (rp.mem_iff.mpr hp),D7.ln,?_,W7.perm rp,by omega,l17,by rw [←rp.length_eq];exact p1,by rw [←rp.length_eq];exact p16⟩
  rw [←rp.length_eq,←D7.pn]
  exact rp.map _
def sp_is_name (K:PySem.W.Frag):Sp:=fun vs H Q _=>∃x,vs=[x]∧((∃z:Str,x=.str z∧z.length≤100∧∀H',aO H H'→Q (.bl (nameB z)) H')∨∃Tx,tyN K H x Tx∧Tx∈o8∧Tx≠ "str" ∧Q (.bl false) H)
theorem sc_is_name:FnScope ["thing"] ["thing"] (aA m9):=⟨rfl,rfl,rfl,by decide +kernel,rfl,by decide +kernel,by decide +kernel⟩
theorem ok_is_name (T:Txt w K mg t):FnOk P w K mg base CX0 1 t.yf t.wC ["thing"] (sp_is_name K):=by
 have sc:=sc_is_name
 refine T.F_is_name.ok sc (fun vs H Q E h=>?_) (fun cdv A outer s H vs Q E hr h=>?_)
 ·obtain⟨x,rfl,_⟩:=h
  rfl
 ·obtain⟨x,rfl,h⟩:=h
  refine⟨_,(az (cz (PW.pt (tY (km (mK (bI xY (by rfl) T.my kY (aa (pv 0) (aa (zy (by rfl) T.n_str bt_str) ak aj) aj)))) (qR (km (pQ xP xP au (bI cj (by rfl) T.gh dR (aa (pv 0) ak aj)) (oE (by rfl) T.g_LONGEST_NAME))))))
    (aF (bA oG))
    bJ)
   (aF (bA (pe_and (zp yh (bG Ak (pv 0) au (fun _ _=>rfl)) (oE (by rfl) T.g_LETTERS) (by with_unfolding_all rfl)) (pe_one (bI (Ab rfl) (by rfl) T.n_all bt_all (aa (rQ [] ["thing"] (aA m9) rfl (pi_str (pv 0)) (fun _ _ _ _ _=>fW) (fun _ _ _ _ _=>(pe_or (zp yh (pv 0) (oE (by rfl) T.g_LETTERS) (by with_unfolding_all rfl)) (pe_one (zp yh (pv 0) (oE (by rfl) T.g_FIGURES) (by with_unfolding_all rfl)))))) ak gU))))))),?_⟩
  have hl:sizeLine=16777216:=sizeLine_eq
  rcases h with ⟨z,rfl,hz,k⟩ | ⟨Tx,ty,hm,hne,k⟩
  ·refine⟨_,rfl,.str z, "str", "str",true,rfl,rfl,by decide,by decide,_,rfl,fP ?_⟩
   refine⟨_,rfl,.str z,z.length,rfl,⟨by omega,rfl⟩,_,_,rfl,rfl,_,rfl,?_⟩
   cases e:z.cps.toList with
   | nil=>
    have h0:z.length=0:=by rw [←iJ,e];rfl
    rw [h0]
    refine fP ⟨_,rfl,kW ?_⟩
    have:=k H (aO.refl _)
    unfold nameB at this
    rw [e] at this
    exact this
   | cons c r=>
    have hlen:z.length=r.length+1:=by rw [←iJ,e];rfl
    refine tG (by omega) ⟨_,_,rfl,rfl,_,rfl,iy (fun h=>?_) (fun h=>?_)⟩
    ·have h8:¬(z.length:Int)≤8:=by simpa using h
     have:=k H (aO.refl _)
     unfold nameB at this
     rw [e] at this
     simp only [show ¬r.length≤7 by omega,decide_false,Bool.false_and] at this
     exact this
    ·have h8:(z.length:Int)≤8:=by simpa using h
     have hc0:atI z.cps.toList 0=some c:=by rw [e];exact aQ (xs:=c:: r) (j:=0) rfl
     refine⟨_,rfl,z,_,c,rfl,rfl,by omega,hc0,_,_,rfl,rfl,_,rfl,?_⟩
     have kk:∀H',aO H H'→Q (.bl (low c && z.cps.toList.all fun d=>low d || fig d)) H':=fun H' s'=>by
      have:=k H' s'
      unfold nameB at this
      rw [e] at this ⊢
      simp only [show r.length≤7 by omega,decide_true,Bool.true_and] at this
      exact this
     rw [in_let]
     refine iy (fun hc=>?_) (fun hc=>?_)
     ·rw [hc,Bool.true_and] at kk
      refine⟨_,rfl,z,rfl,comp_str (fun i ys H'=>H'=H∧ys=((z.cps.toList.take i).map fun d=>low d || fig d).map V.bl) (by simp only [Str.length] at hz;omega) ⟨rfl,by simp⟩ (fun i ys H' ⟨_,e⟩=>by rw [e];simp only [lM,List.length_take];omega) ?_ ?_⟩
      ·rintro i d ys H' hd ⟨rfl,rfl⟩
       refine yes ⟨_,rfl,_,_,rfl,rfl,_,rfl,?_⟩
       have hd':z.cps.toList[i]?=some d:=by simpa using hd
       have next:∀b,b=(low d || fig d)→(((z.cps.toList.take i).map fun d=>low d || fig d).map V.bl) ++ [V.bl b]=((z.cps.toList.take (i+1)).map fun d=>low d || fig d).map V.bl:=fun b hb=>by
        rw [List.take_add_one,hd',hb]
        simp
       rw [in_let]
       refine iy (fun hl'=>?_) (fun hl'=>?_)
       ·exact⟨rfl,next true (by rw [hl'];rfl)⟩
       ·have hl2:low d=false:=by simpa using hl'
        refine⟨_,rfl,_,_,rfl,rfl,rfl,next _ ?_⟩
        rw [in_fig,hl2,Bool.false_or]
      ·rintro ys H' ⟨rfl,rfl⟩ D hD
       refine⟨D,(z.cps.toList.take z.cps.size).map fun d=>low d || fig d,rfl,SqL.of aq,?_⟩
       have hall:((z.cps.toList.take z.cps.size).map fun d=>low d || fig d).all id=z.cps.toList.all fun d=>low d || fig d:=by
        rw [List.take_of_length_le (by simp),List.all_map]
        rfl
       rw [hall]
       exact kk _ (aC hD)
     ·have hc':low c=false:=by simpa using hc
      rw [hc',Bool.false_and] at kk
      exact kk H (aO.refl _)
  ·have hb:subT Tx "str" =false:=by
    simp only [o8,List.mem_cons,List.not_mem_nil,or_false] at hm
    rcases hm with rfl | rfl | rfl | rfl | rfl | rfl | rfl <;> first | decide | exact absurd rfl hne
   exact⟨_,rfl,x,Tx, "str",false,rfl,ty,by decide,hb,_,rfl,kW (kW k)⟩
def sp_need_counts (K:PySem.W.Frag) (t:Adr):Sp:=fun vs H Q E=>∃(a b:Addr) (xs ys:List V),vs=[.ref a,.ref b]∧SqL K H a xs∧SqL K H b ys∧1≤xs.length∧1≤ys.length∧((xs.length≤24∧ys.length≤16∧Q .non H)∨((24 <xs.length∨16 <ys.length)∧E (.ref t.bT) none H))
theorem sc_need_counts:FnScope ["lanes", "parts"] ["lanes", "parts"] (aA gW):=⟨rfl,rfl,rfl,by decide +kernel,rfl,by decide +kernel,by decide +kernel⟩
theorem ok_need_counts (T:Txt w K mg t):FnOk P w K mg base (CX2 P w) 1 t.qz t.pI ["lanes", "parts"] (sp_need_counts K t):=by
 have sc:=sc_need_counts
 refine T.vW.ok2 sc (fun vs H Q E h=>?_) (fun cdv A outer s H vs Q E hr h=>?_)
 ·obtain⟨a,b,xs,ys,rfl,_⟩:=h
  rfl
 ·obtain⟨a,b,xs,ys,rfl,h1,h2,c1,c3,h⟩:=h
  refine⟨_,(az (cz (km (pQ xP xP au (bI cj (by rfl) T.gh dR (aa (pv 0) ak aj)) (oE (by rfl) T.g_MOST_LANES)))
    (aF (ps_raise2 T.Ao T.xm (by rfl) (aa bx ak ao)))
    bJ)
   (aF (cz (km (pQ xP xP au (bI cj (by rfl) T.gh dR (aa (pv 1) ak aj)) (oE (by rfl) T.g_MOST_PARTS)))
    (aF (ps_raise2 T.Ao T.xm (by rfl) (aa bx ak ao)))
    bJ))),?_⟩
  have hl:sizeLine=16777216:=sizeLine_eq
  refine⟨_,rfl,.ref a,xs.length,rfl,.inl ⟨_,h1,rfl⟩,_,_,rfl,rfl,_,rfl,tG (by omega) ⟨_,_,rfl,rfl,_,rfl,?_⟩⟩
  by_cases h24:xs.length≤24
  ·rw [show decide ((xs.length:Int)≤24)=true from decide_eq_true (by omega)]
   refine fP ?_
   refine⟨_,rfl,.ref b,ys.length,rfl,.inl ⟨_,h2,rfl⟩,_,_,rfl,rfl,_,rfl,tG (by omega) ⟨_,_,rfl,rfl,_,rfl,?_⟩⟩
   by_cases h16:ys.length≤16
   ·rw [show decide ((ys.length:Int)≤16)=true from decide_eq_true (by omega)]
    rcases h with ⟨_,_,k⟩ | ⟨z,_⟩
    ·exact fP k
    ·omega
   ·rw [show decide ((ys.length:Int)≤16)=false from decide_eq_false (by omega)]
    rcases h with ⟨_,z,_⟩ | ⟨_,k⟩
    ·exact absurd z h16
    ·exact kW ⟨by show 1≤1000;decide,k⟩
  ·rw [show decide ((xs.length:Int)≤24)=false from decide_eq_false (by omega)]
   rcases h with ⟨z,_⟩ | ⟨_,k⟩
   ·exact absurd z h24
   ·exact kW ⟨by show 1≤1000;decide,k⟩
def badV (K:PySem.W.Frag) (H:Hp) (v:V):Prop:=(∃z:Str,v=.str z∧z.length≤100∧nameB z=false)∨∃Tx,tyN K H v Tx∧Tx∈o8∧Tx≠ "str"
def sp_need_fresh (K:PySem.W.Frag) (t:Adr):Sp:=fun vs H Q E=>∃(v:V) (d:Addr),vs=[v,.ref d]∧((badV K H v∧∀dx H',aO H H'→H' dx=some (.xd [("name",v)])→E (.ref t.bM) (some dx) H')∨∃z:Str,v=.str z∧nameB z=true∧z.length≤100∧((∃kvs,H d=some (.dK kvs)∧fJ kvs (Sum.inr z)=none∧∀H',aO H H'→Q .non H')∨∃ys:List Str,H d=some (.lst (ys.map V.str))∧((z∉ys∧∀H',aO H H'→Q .non H')∨(z∈ys∧∀dx H',aO H H'→H' dx=some (.xd [("name",.str z)])→E (.ref t.bQ) (some dx) H'))))
theorem sc_need_fresh:FnScope ["name", "known"] ["name", "known"] (aA iR):=⟨rfl,rfl,rfl,by decide +kernel,rfl,by decide +kernel,by decide +kernel⟩
theorem nM (T:Txt w K mg t):FnOk P w K mg base (CX2 P w) 3 t.rY t.qG ["name", "known"] (sp_need_fresh K t):=by
 have sc:=sc_need_fresh
 refine T.mq.ok2 sc (fun vs H Q E h=>?_) (fun cdv A outer s H vs Q E hr h=>?_)
 ·obtain⟨v,d,rfl,_⟩:=h
  rfl
 ·obtain⟨v,d,rfl,h⟩:=h
  refine⟨_,(az (cz (km (mK (aH (ok_is_name T) (hr.mono (by decide)) (by rfl) T.m_is_name T.F_is_name.kp T.b_is_name .nil aN (aa (pv 0) ak aj))))
    (aF (yp T.X_BadName (ok_BadName___init__ T) (hr.mono (by decide)) (by rfl) T.z6 T.b_BadName___init__ aN (aa (pv 0) ak aj)))
    bJ)
   (aF (cz (pt_alt (xu (pc_din hr.u1 (pv 0) (pv 1))) (bC op_in_seq (pv 0) (pv 1) (by with_unfolding_all rfl)))
    (aF (yp T.X_Doubled (ok_Doubled___init__ T) (hr.mono (by decide)) (by rfl) T.Aq T.b_Doubled___init__ aN (aa (pv 0) ak aj)))
    bJ))),?_⟩
  rcases h with ⟨hb,kE⟩ | ⟨z,rfl,hz,hl,h⟩
  ·rcases hb with ⟨z,rfl,hl,hz⟩ | ⟨Tx,ty,hm,hne⟩
   ·refine⟨_,rfl,.str z,rfl,.inl ⟨z,rfl,hl,fun H1 s1=>?_⟩⟩
    rw [hz]
    refine⟨_,rfl,kW ?_⟩
    refine⟨_,rfl,by show 1≤1000;decide,fun y ny n0=>⟨y,_,rfl,aq,fun dx' nd ne=>⟨rfl,y,dx',rfl,n0,by rw [aK ne.symm];exact aq,?_⟩⟩⟩
    have rz:=raised (fs:=[(("name" :Str),.str z)]) ny nd ne
    exact kE dx' _ (s1.trans rz.1) rz.2
   ·refine⟨_,rfl,v,rfl,.inr ⟨Tx,ty,hm,hne,_,rfl,kW ?_⟩⟩
    refine⟨_,rfl,by show 1≤1000;decide,fun y ny n0=>⟨y,_,rfl,aq,fun dx' nd ne=>⟨rfl,y,dx',rfl,n0,by rw [aK ne.symm];exact aq,?_⟩⟩⟩
    have rz:=raised (fs:=[(("name" :Str),v)]) ny nd ne
    exact kE dx' _ rz.1 rz.2
  refine⟨_,rfl,.str z,rfl,.inl ⟨z,rfl,hl,fun H1 s1=>?_⟩⟩
  rw [hz]
  refine⟨_,rfl,fP ?_⟩
  rcases h with ⟨kvs,hd,hv,k⟩ | ⟨ys,hd,h⟩
  ·refine .inl ⟨_,rfl,_,rfl,d,_,rfl,mX.k (k:=Sum.inr z) (s1 _ _ hd),?_⟩
   rw [hv]
   exact⟨_,rfl,fP (k _ s1)⟩
  ·refine .inr ⟨_,rfl,_,rfl,d,_,rfl,.inl (SqL.of (s1 _ _ hd)),rfl,yr _,?_⟩
   rw [in_strs]
   rcases h with ⟨hn,k⟩ | ⟨hm,kE⟩
   ·rw [decide_eq_false hn]
    exact⟨_,rfl,fP (k _ s1)⟩
   ·rw [decide_eq_true hm]
    refine⟨_,rfl,kW ?_⟩
    refine⟨_,rfl,by show 1≤1000;decide,fun y ny n0=>⟨y,_,rfl,aq,fun dx' nd ne=>⟨rfl,y,dx',rfl,n0,by rw [aK ne.symm];exact aq,?_⟩⟩⟩
    have rz:=raised (fs:=[(("name" :Str),.str z)]) ny nd ne
    exact kE dx' _ (s1.trans rz.1) rz.2
def sp_need_lane (K:PySem.W.Frag):Sp:=fun vs H Q _=>∃(nm:V) (room:Int) (L:Addr) (ws:List Int),vs=[nm,.int room,.ref L]∧SqA K H L (ws.map V.int)∧ws.length≤1000∧(∀v∈ws,0≤v∧v <1000000000)∧1≤room∧(ws.length:Int)≤room∧room≤199∧∀H',aO H H'→Q .non H'
theorem sc_need_lane:FnScope ["name", "room", "first"] ["name", "room", "first"] (aA iH):=⟨rfl,rfl,rfl,by decide +kernel,rfl,by decide +kernel,by decide +kernel⟩
theorem ok_need_lane (T:Txt w K mg t):FnOk P w K mg base CX0 3 t.vd t.rT ["name", "room", "first"] (sp_need_lane K):=by
 have sc:=sc_need_lane
 refine T.yI.ok sc (fun vs H Q E h=>?_) (fun cdv A outer s H vs Q E hr h=>?_)
 ·obtain⟨nm,room,L,ws,rfl,_⟩:=h
  rfl
 ·obtain⟨nm,room,L,ws,rfl,hL,hw,hB,c1,c2,c3,k⟩:=h
  refine⟨_,(az (cz (PW.pt (tY (km (mK (aH (yX T) (hr.mono (by decide)) (by rfl) T.zR T.wy.kp T.Ac .nil aN (aa (pv 1) ak aj)))) (qR (km (pQ xP xP (bI (call_max2 rfl) (by rfl) T.n_max bt_max (aa au (aa (bI cj (by rfl) T.gh dR (aa (pv 2) ak aj)) ak aW) ao)) (pv 1) (oE (by rfl) T.g_MOST_ROOM))))))
    (aF mC)
    bJ)
   (aF (cz (km (mK (bI (Ab rfl) (by rfl) T.n_all bt_all (aa (rQ [] ["name", "room", "first"] (aA iH) rfl (pi_or (fG (pv 2)) (pi_tup (pv 2))) (fun _ _ _ _ _=>fW) (fun _ _ _ _ _=>(aH (yU T) (hr.mono (by decide)) (by rfl) T.zQ T.wX.kp T.Ae .nil aN (aa (pv 0) ak aj)))) ak gU))))
    (aF mC)
    bJ))),?_⟩
  have hl:sizeLine=16777216:=sizeLine_eq
  have hlw:(ws.map V.int).length=ws.length:=lM ..
  refine⟨_,rfl,.int room, "int",true,rfl,rfl,by decide,by decide,true,rfl,fP ?_⟩
  refine⟨_,rfl,.ref L,(ws.map V.int).length,rfl,hL.len,_,_,rfl,_,rfl,_,_,rfl,rfl,_,rfl,tG ?_ ⟨_,_,rfl,rfl,_,rfl,?_⟩⟩
  ·split <;> omega
  rw [show decide (room≤199)=true from decide_eq_true c3]
  refine fP ?_
  refine comp_A (a:=L) (xs:=ws.map V.int) ?_ hL (fun j ys=>ys=(List.replicate j true).map V.bl) (by rw [lM];omega) rfl (fun j ys e=>by rw [e];simp) (fun j x ys hx e=>?_) (fun ys e D hD=>?_)
  ·exact fun R r=>⟨_,rfl,r⟩
  ·subst e
   rw [List.getElem?_map] at hx
   obtain⟨n,hn,rfl⟩:=Option.map_eq_some_iff.mp hx
   obtain⟨n0,n1⟩:=hB n (List.mem_of_getElem? hn)
   refine yes ⟨_,rfl,.int n,rfl,.inl ⟨n,rfl,rfl,?_⟩⟩
   rw [decide_eq_true n0,decide_eq_true n1,List.replicate_succ']
   simp
  ·subst e
   refine⟨D,_,rfl,SqL.of aq,_,rfl,?_⟩
   rw [show((List.replicate (ws.map V.int).length true).all id)=true by simp]
   exact fP (k _ (aC hD))
def sp_fresh_part (K:PySem.W.Frag) (t:Adr):Sp:=fun vs H Q _=>∃(i:Nat) (nm:Str) (r d a1 a2 a3:Addr) (ns is os:List V) (kvs:List (Key×V)),vs=[.ref r,.ref d]∧H r=some (.tup [.str (dZ i),.str nm,.ref a1,.ref a2,.ref a3])∧i≤10∧H d=some (.dK kvs)∧nameB nm=true∧nm.length≤100∧fJ kvs (Sum.inr nm)=none∧SqA K H a1 ns∧SqA K H a2 is∧SqA K H a3 os∧ns.length=cN i∧is.length=cI i∧os.length=cO i∧(∀v∈ns,Val v)∧∀H' p,aO H H'→H p=none→PartAt K t H' p i (.str nm) ns is os→Q (.ref p) H'
theorem sc_fresh_part:FnScope ["row", "known"] ["row", "known"] (aA iU):=⟨rfl,rfl,rfl,by decide +kernel,rfl,by decide +kernel,by decide +kernel⟩
theorem ok_fresh_part (T:Txt w K mg t):FnOk P w K mg base CX0 5 t.sW t.qL ["row", "known"] (sp_fresh_part K t):=by
 have sc:=sc_fresh_part
 refine T.xX.ok sc (fun vs H Q E h=>?_) (fun cdv A outer s H vs Q E hr h=>?_)
 ·obtain⟨i,nm,r,d,a1,a2,a3,ns,is,os,kvs,rfl,_⟩:=h
  rfl
 ·obtain⟨i,nm,r,d,a1,a2,a3,ns,is,os,kvs,rfl,hr1,hi,hd,hz,hl,hv,q1,q2,q3,l1,l2,l3,hV,k⟩:=h
  refine⟨_,(az (cz (km (mK (aH (zO T) (hr.mono (by decide)) (by rfl) T.m_is_kind T.yt.kp T.b_is_kind .nil aN (aa (bG dW (pv 0) au (fun _ _=>rfl)) ak aJ))))
    (aF mC)
    bJ)
   (az (bz (aH (nM T) (hr.mono (by decide)) (by rfl) T.o9 T.mq.kp T.oY .nil pass20 (aa (bG dW (pv 0) au (fun _ _=>rfl)) (aa (pv 1) ak aj) aJ)))
   (aF (bA (aH (ok_part_made T) (hr.mono (by decide)) (by rfl) T.m_part_made T.yP.kp T.b_part_made .nil aN (aa (bG dW (pv 0) au (fun _ _=>rfl)) (aa (bG dW (pv 0) au (fun _ _=>rfl)) (aa (bG dW (pv 0) au (fun _ _=>rfl)) (aa (bG dW (pv 0) au (fun _ _=>rfl)) (aa (bG dW (pv 0) au (fun _ _=>rfl)) ak aJ) aJ) aJ) aJ) aJ)))))),?_⟩
  refine⟨_,rfl,r,_,0,_,rfl,rfl,SqT.of hr1,aQ (j:=0) rfl,dZ i,rfl,?_⟩
  rw [row_of]
  refine⟨_,rfl,fP ?_⟩
  refine⟨_,rfl,r,_,1,_,rfl,rfl,SqT.of hr1,aQ (j:=1) rfl,_,rfl,.str nm,d,rfl,.inr ⟨nm,rfl,hz,hl,.inl ⟨kvs,hd,hv,fun H1 s1=>?_⟩⟩⟩
  have e1:=SqT.of (K:=K) (s1 _ _ hr1)
  exact⟨_,rfl,r,_,0,_,rfl,rfl,e1,aQ (j:=0) rfl,_,rfl,r,_,1,_,rfl,rfl,e1,aQ (j:=1) rfl,_,rfl,r,_,2,_,rfl,rfl,e1,aQ (j:=2) rfl,_,rfl,r,_,3,_,rfl,rfl,e1,aQ (j:=3) rfl,_,rfl,r,_,4,_,rfl,rfl,e1,aQ (j:=4) rfl,i,.str nm,a1,a2,a3,ns,is,os,rfl,hi,s1.seqA q1,s1.seqA q2,s1.seqA q3,l1,l2,l3,hV,fun H2 p s2 np P=>k _ p (s1.trans s2) (s1.free np) P⟩
def sp_tie_lanes (K:PySem.W.Frag):Sp:=fun vs H Q _=>∃(y:Str) (a rd d:Addr) (zs:List Str) (rk kvs:List (Key×V)),vs=[.str y,.ref a,.ref rd,.ref d]∧SqT K H a (zs.map V.str)∧H rd=some (.dK rk)∧rd≠d∧H d=some (.dK kvs)∧zs.Nodup∧(∀z∈zs,(fJ rk (Sum.inr z)).isSome=true∧fJ kvs (Sum.inr z)=none)∧kvs.length+zs.length≤1000∧Q .non (upd H d (.dK (kvs ++ zs.map fun l=>((Sum.inr l:Key),V.str y))))
theorem sc_tie_lanes:FnScope ["part", "lanes", "rooms", "ends", "lane"] ["part", "lanes", "rooms", "ends"] (aA lF):=⟨rfl,rfl,rfl,by decide +kernel,rfl,by decide +kernel,by decide +kernel⟩
theorem xH (T:Txt w K mg t):FnOk P w K mg base CX0 1 t.vC t.rW ["part", "lanes", "rooms", "ends"] (sp_tie_lanes K):=by
 have sc:=sc_tie_lanes
 refine T.uv.ok sc (fun vs H Q E h=>?_) (fun cdv A outer s H vs Q E hr h=>?_)
 ·obtain⟨y,a,rd,d,zs,rk,kvs,rfl,_⟩:=h
  rfl
 ·obtain⟨y,a,rd,d,zs,rk,kvs,rfl,hT,hrd,hne,hd,nd,hz,hlen,k⟩:=h
  refine⟨_,(aF (lB PassesOwn.never rfl (pi_tup (pv 1)) (bL (i:=4) sc.nd rfl (Or.inl rfl))
    (az (cz (PW.pt (tY (xu (vJ hr.u1 (pv 4) (pv 2))) (qR (xu (pc_din hr.u1 (pv 4) (pv 3))))))
     (aF mC)
     bJ)
    (aF (vN hr.u1 (pv 3) (pv 4) (pv 0) rfl))))),?_⟩
  have hl:sizeLine=16777216:=sizeLine_eq
  refine⟨_,rfl,a,rfl,⟨_,hT⟩,for_tup (K:=K) (a:=a) (xs:=zs.map V.str) (fun j σ H'=>H'=upd H d (.dK (kvs ++ (zs.take j).map fun l=>((Sum.inr l:Key),V.str y)))∧∃v4,σ=[some (.str y),some (.ref a),some (.ref rd),some (.ref d),v4]) ⟨by rw [List.take_zero,List.map_nil,List.append_nil,upd_id hd],none,rfl⟩ (fun j σ H' _ ⟨e,_⟩=>by rw [e];exact fQ hd hT) ?_ ?_⟩
  ·rintro j x σ H' hx ⟨rfl,v4,rfl⟩
   rw [List.getElem?_map] at hx
   obtain⟨z,hzj,rfl⟩:=Option.map_eq_some_iff.mp hx
   have hj:j <zs.length:=(List.getElem?_eq_some_iff.mp hzj).1
   obtain⟨r1,r2⟩:=hz z (List.mem_of_getElem? hzj)
   obtain⟨rv,hrv⟩:=Option.isSome_iff_exists.mp r1
   have erd:upd H d (.dK (kvs ++ (zs.take j).map fun l=>((Sum.inr l:Key),V.str y))) rd=some (.dK rk):=by rw [aK hne];exact hrd
   have nin:z∉zs.take j:=fun hm=>by
    obtain⟨i,hi,ei⟩:=List.mem_iff_getElem.mp hm
    rw [List.length_take] at hi
    rw [List.getElem_take] at ei
    have e2:zs[j]=z:=by rw [List.getElem?_eq_getElem hj] at hzj;exact Option.some.inj hzj
    have:=(List.getElem_inj nd).mp (ei.trans e2.symm)
    omega
   have none':fJ (kvs ++ (zs.take j).map fun l=>((Sum.inr l:Key),V.str y)) (Sum.inr z)=none:=uT (by
    rw [List.map_append,List.mem_append,not_or]
    refine⟨fun hm=>?_,fun hm=>?_⟩
    ·have:(fJ kvs (Sum.inr z)).isSome=true:=by rw [←rE];obtain⟨p,hp,e⟩:=List.mem_map.mp hm;exact List.any_eq_true.mpr ⟨p,hp,decide_eq_true e⟩
     rw [r2] at this
     cases this
    ·rw [List.map_map] at hm
     obtain⟨b,hb,e⟩:=List.mem_map.mp hm
     cases e
     exact nin hb)
   refine⟨_,rfl,_,rfl,rd,some rv,rfl,(by rw [←hrv];exact mX.k (k:=Sum.inr z) erd),_,rfl,fP ?_⟩
   refine⟨_,rfl,_,rfl,d,none,rfl,(by rw [←none'];exact mX.k (k:=Sum.inr z) aq),_,rfl,fP ?_⟩
   refine⟨_,rfl,_,rfl,_,rfl,d,_,rfl,DPut.k (k:=Sum.inr z) aq (by rw [lP,lM,List.length_take];omega),?_,_,rfl⟩
   rw [vL,xF _ none',List.append_assoc,List.take_succ,hzj,Option.toList_some,List.map_append]
   rfl
  ·rintro σ H' ⟨rfl,v4,rfl⟩
   rw [lM,List.take_length]
   exact k
def sp_need_ends (K:PySem.W.Frag):Sp:=fun vs H Q _=>∃(r g d:Addr) (rk gk tk:List (Key×V)),vs=[.ref r,.ref g,.ref d]∧H r=some (.dK rk)∧H g=some (.dK gk)∧H d=some (.dK tk)∧r≠g∧r≠d∧(∀q∈rk,(fJ gk q.1).isSome=true∧(fJ tk q.1).isSome=true)∧Q .non H
theorem sc_need_ends:FnScope ["rooms", "givers", "takers", "lane"] ["rooms", "givers", "takers"] (aA lH):=⟨rfl,rfl,rfl,by decide +kernel,rfl,by decide +kernel,by decide +kernel⟩
theorem ok_need_ends (T:Txt w K mg t):FnOk P w K mg base CX0 1 t.uY t.tU ["rooms", "givers", "takers"] (sp_need_ends K):=by
 have sc:=sc_need_ends
 refine T.yR.ok sc (fun vs H Q E h=>?_) (fun cdv A outer s H vs Q E hr h=>?_)
 ·obtain⟨r,g,d,rk,gk,tk,rfl,_⟩:=h
  rfl
 ·obtain⟨r,g,d,rk,gk,tk,rfl,h1,h2,h3,n1,n2,hA,k⟩:=h
  refine⟨_,(aF (xN (H0:=H) rfl (lB PassesOwn.never rfl (zz (pv 0)) (bL (i:=3) sc.nd rfl (Or.inl rfl))
    (aF (cz (PW.pt (tY (xu (vJ hr.u1 (pv 3) (pv 1))) (qR (xu (vJ hr.u1 (pv 3) (pv 2))))))
     (aF mC)
     bJ))))),?_⟩
  refine⟨_,rfl,r,_,rfl,h1,fun o=>for_dict (fun j σ H'=>H'=upd H r (.frz o (.dK rk))∧∃v3,σ=[some (.ref r),some (.ref g),some (.ref d),v3]) ⟨rfl,none,rfl⟩ (fun j σ H' _ ⟨e,_⟩=>by rw [e];exact aq) ?_ ?_⟩
  ·rintro j kk w σ H' hj ⟨rfl,v3,rfl⟩
   obtain⟨a1,a2⟩:=hA _ (List.mem_of_getElem? hj)
   obtain⟨u1,b1⟩:=Option.isSome_iff_exists.mp a1
   obtain⟨u2,b2⟩:=Option.isSome_iff_exists.mp a2
   have e2:upd H r (.frz o (.dK rk)) g=some (.dK gk):=by rw [aK (Ne.symm n1)];exact h2
   have e3:upd H r (.frz o (.dK rk)) d=some (.dK tk):=by rw [aK (Ne.symm n2)];exact h3
   exact⟨_,rfl,_,rfl,g,some u1,rfl,(by rw [←b1];exact mX.k e2),_,rfl,fP ⟨_,rfl,_,rfl,d,some u2,rfl,(by rw [←b2];exact mX.k e3),_,rfl,fP ⟨rfl,_,rfl⟩⟩⟩
  ·rintro σ H' ⟨rfl,v3,rfl⟩
   refine⟨_,⟨r,o,_,aq,?_,rfl⟩,?_⟩
   ·intro o' u' z
    rw [show H r=_ from h1] at z
    cases z
   ·rw [vL,upd_id h1]
    exact k
def jkOf (H:Hp) (J:Addr):List (Key×V):=match H J with
 | some (.dK jk)=>jk
 | _=>[]
theorem jkOf_eq {H:Hp} {J:Addr} {jk:List (Key×V)} (h:H J=some (.dK jk)):jkOf H J=jk:=by
 unfold jkOf
 rw [h]
theorem endsK_at {f:PD→List Str} {ps:List PD} {j:Nat} {k:Key} {v:V} (h:(dg f ps)[j]?=some (k,v)):∃p∈ps,∃l∈f p,k=Sum.inr l∧v=.str p.name:=by
 have:=List.mem_of_getElem? h
 unfold dg at this
 obtain⟨p,hp,hm⟩:=List.mem_flatMap.mp this
 obtain⟨l,hl,e⟩:=List.mem_map.mp hm
 cases e
 exact⟨p,hp,l,hl,rfl,rfl⟩
def Even (ps:List PD) (jk:List (Key×V)) (j:Nat):Prop:=∀i k v,i <j→(dg (·.outs) ps)[i]?=some (k,v)→∀a∈ps,∀b∈ps,∀l,k=Sum.inr l→l∈a.outs→l∈b.ins→gG jk a.name=gG jk b.name
theorem Even.all {ps:List PD} {jk:List (Key×V)} (h:Even ps jk (dg (·.outs) ps).length):∀a∈ps,∀b∈ps,∀l,l∈a.outs→l∈b.ins→gG jk a.name=gG jk b.name:=fun a ha b hb l la lb=>by
 have hm:((Sum.inr l:Key),V.str a.name)∈dg (·.outs) ps:=List.mem_flatMap.mpr ⟨a,ha,List.mem_map.mpr ⟨l,la,rfl⟩⟩
 obtain⟨i,hi,ei⟩:=List.mem_iff_getElem.mp hm
 exact h i _ _ hi (by rw [List.getElem?_eq_getElem hi,ei]) a ha b hb l rfl la lb
def sp_joined_with (K:PySem.W.Frag):Sp:=fun vs H Q _=>∃(p0:PD) (g d:Addr) (ps:List PD),vs=[.str p0.name,.ref g,.ref d]∧p0∈ps∧ps.length≤16∧H g=some (.dK (dg (·.outs) ps))∧H d=some (.dK (dg (·.ins) ps))∧g≠d∧(ps.flatMap (·.outs)).Nodup∧(ps.flatMap (·.ins)).Nodup∧(ps.flatMap (·.outs)).Perm (ps.flatMap (·.ins))∧(∃y,∀q∈ps,∃x∈q.ins ++ q.outs,Drawn.Conn ps x y)∧∀H' J jk,aO H H'→H' J=some (.dK jk)→(∀p∈ps,gG jk p.name=true)→Q (.ref J) H'
theorem sc_joined_with:FnScope ["part", "givers", "takers", "joined", "grown", "lane"] ["part", "givers", "takers"] (aA gY):=⟨rfl,rfl,rfl,by decide +kernel,rfl,by decide +kernel,by decide +kernel⟩
theorem ok_joined_with (T:Txt w K mg t):FnOk P w K mg base CX0 1 t.qH t.pN ["part", "givers", "takers"] (sp_joined_with K):=by
 have sc:=sc_joined_with
 refine T.ww.ok sc (fun vs H Q E h=>?_) (fun cdv A outer s H vs Q E hr h=>?_)
 ·obtain⟨p0,g,d,ps,rfl,_⟩:=h
  rfl
 ·obtain⟨p0,g,d,ps,rfl,hp0,hps,h1,h2,n1,no,ni,pm,hang,k⟩:=h
  refine⟨_,(az (bD (i:=3) sc.nd rfl (Or.inl rfl) (pe_disp (pps_cons (pv 0) oG pps_nil) rfl rfl (by simp) (by decide)))
   (az (bD (i:=4) sc.nd rfl (Or.inl rfl) oG)
   (az (ps_while PassesOwn.never (mK (pv 4))
    (az (bD (i:=4) sc.nd rfl (Or.inl rfl) oG)
    (aF (xN (H0:=H) rfl (lB PassesOwn.never rfl (zz (pv 1)) (bL (i:=5) sc.nd rfl (Or.inl rfl))
     (aF (fH (cz (bC op_ne (pe_cmp (pc_din hr.u1 (pq hr.u1 (pv 1) (pv 5) (fun _ _=>rfl)) (pv 3))) (pe_cmp (pc_din hr.u1 (pq hr.u1 (pv 2) (pv 5) (fun _ _=>rfl)) (pv 3))) (bW _))
      (az (vN hr.u1 (pv 3) (pq hr.u1 (pv 1) (pv 5) (fun _ _=>rfl)) oG rfl)
      (az (vN hr.u1 (pv 3) (pq hr.u1 (pv 2) (pv 5) (fun _ _=>rfl)) oG rfl)
      (aF (bD (i:=4) sc.nd rfl (Or.inl rfl) oG))))
      bJ))))))))
   (aF (bA (pv 3)))))),?_⟩
  have hl:sizeLine=16777216:=sizeLine_eq
  refine fun J nJ=>⟨_,rfl,aq,[((Sum.inr p0.name:Key),V.bl true)],rfl,by show 1≤15;decide,?_⟩
  rw [vL]
  have s0:aO H (upd H J (.dK (uf [] [((Sum.inr p0.name:Key),V.bl true)]))):=aC nJ
  have e0:(upd H J (.dK (uf [] [((Sum.inr p0.name:Key),V.bl true)]))) J=some (.dK [((Sum.inr p0.name:Key),V.bl true)]):=aq
  generalize upd H J (.dK (uf [] [((Sum.inr p0.name:Key),V.bl true)]))=H0 at s0 e0 ⊢
  have ngJ:J≠g:=Ne.symm (aD h1 nJ)
  have ndJ:J≠d:=Ne.symm (aD h2 nJ)
  have melt:∀{H':Hp} {o:Obj},But g H H'→H' g=some (.frz o (.dK (dg (·.outs) ps)))→aO H (upd H' g (.dK (dg (·.outs) ps))):=fun hb hg b u e=>by
   by_cases h:b=g
   ·subst h;rw [aq];rw [h1] at e;exact e
   ·rw [aK h];exact hb b u h e
  have m0:pR ps [((Sum.inr p0.name:Key),V.bl true)]≤16:=Nat.le_trans (List.length_filter_le _ _) hps
  refine while_by (fun σ H'=>aO H H'∧∃b v5 jk,σ=[some (.str p0.name),some (.ref g),some (.ref d),some (.ref J),some (.bl b),v5]∧H' J=some (.dK jk)∧gG jk p0.name=true∧jk.length+2 * pR ps jk≤40∧(b=false→Even ps jk (dg (·.outs) ps).length))
   (fun σ H'=>match σ with | [_,_,_,_,some (.bl b),_]=>(if b then 1 else 0)+2 * pR ps (jkOf H' J) | _=>0) ⟨s0,true,none,_,rfl,e0,by simp [gG,fJ],by rw [List.length_singleton];omega,by intro z;cases z⟩ ?_ ?_
  ·rintro σ H1 ⟨s1,b,v5,jk,rfl,hJ,hp,hlen,hev⟩
   cases b with
   | false=>exact⟨_,rfl,_,rfl,fP ⟨_,rfl,k _ J jk s1 hJ (all_in no ni pm hang (hev rfl).all hp0 hp)⟩⟩
   | true=>
    refine⟨_,rfl,_,rfl,kW ?_⟩
    refine⟨_,rfl,g,_,rfl,s1 _ _ h1,fun o=>?_⟩
    have gD:∀{H':Hp},But g H H'→H' d=some (.dK (dg (·.ins) ps)):=fun hb=>hb d _ (Ne.symm n1) h2
    refine for_dict (fun j σ H'=>But g H H'∧H' g=some (.frz o (.dK (dg (·.outs) ps)))∧∃b v5 jk',σ=[some (.str p0.name),some (.ref g),some (.ref d),some (.ref J),some (.bl b),v5]∧H' J=some (.dK jk')∧gG jk' p0.name=true∧jk'.length+2 * pR ps jk'≤40∧((b=false∧jk'=jk∧Even ps jk j)∨(b=true∧pR ps jk' <pR ps jk)))
     ⟨fun b u hn e=>by rw [aK hn];exact s1 b u e,aq,false,v5,jk,rfl,by rw [aK ngJ];exact hJ,hp,hlen,.inl ⟨rfl,rfl,fun i _ _ hi=>absurd hi (by omega)⟩⟩ (fun j σ H' _ h=>h.2.1) ?_ ?_
    ·rintro j kk w σ H' hj ⟨hb,hg,b,v5,jk',rfl,hJ',hp',hlen',hv⟩
     obtain⟨a,ha,l,la,rfl,rfl⟩:=endsK_at hj
     obtain⟨b',hb',lb⟩:=List.mem_flatMap.mp (pm.mem_iff.mp (List.mem_flatMap.mpr ⟨a,ha,la⟩))
     have ga:mX H' g (.str l) (some (.str a.name)):=.inl ⟨_,Sum.inr l,.inr ⟨o,hg⟩,rfl,(iT no ha la).symm⟩
     have gb:mX H' d (.str l) (some (.str b'.name)):=by rw [←iT ni hb' lb];exact mX.k (k:=Sum.inr l) (gD hb)
     have ja:mX H' J (.str a.name) (fJ jk' (Sum.inr a.name)):=mX.k (k:=Sum.inr a.name) hJ'
     have jb:mX H' J (.str b'.name) (fJ jk' (Sum.inr b'.name)):=mX.k (k:=Sum.inr b'.name) hJ'
     have nm:∀a2∈ps,∀b2∈ps,l∈a2.outs→l∈b2.ins→a2.name=a.name∧b2.name=b'.name:=fun a2 ha2 b2 hb2 q1 q2=>by
      have e1:=iT no ha2 q1
      rw [iT no ha la] at e1
      have e2:=iT ni hb2 q2
      rw [iT ni hb' lb] at e2
      simp only [Option.some.injEq,V.str.injEq] at e1 e2
      exact⟨e1.symm,e2.symm⟩
     refine⟨fun σ H''=>But g H H''∧H'' g=some (.frz o (.dK (dg (·.outs) ps)))∧∃b jk'',σ=[some (.str p0.name),some (.ref g),some (.ref d),some (.ref J),some (.bl b),some (.str l)]∧H'' J=some (.dK jk'')∧gG jk'' p0.name=true∧jk''.length+2 * pR ps jk''≤40∧((b=false∧jk''=jk∧Even ps jk (j+1))∨(b=true∧pR ps jk'' <pR ps jk)),?_,?_⟩
     ·refine⟨_,rfl,_,rfl,g,_,rfl,ga,_,rfl,J,_,rfl,ja,?_⟩
      refine⟨_,rfl,_,rfl,d,_,rfl,gb,_,rfl,J,_,rfl,jb,rfl,_,rfl,?_⟩
      change if (!decide (V.bl (gG jk' a.name)=V.bl (gG jk' b'.name)))=true then _ else _
      refine iy (fun hne=>?_) (fun heq=>?_)
      ·have hne':gG jk' a.name≠gG jk' b'.name:=fun z=>by rw [z] at hne;simp at hne
       refine⟨_,rfl,_,rfl,_,rfl,g,_,rfl,ga,J,_,rfl,DPut.k (k:=Sum.inr a.name) hJ' (by omega),?_⟩
       have b2:But g H (upd H' J (.dK (putK jk' (Sum.inr a.name) (.bl true)))):=fun x u hn e=>by rw [aK (aD e nJ)];exact hb x u hn e
       have g2:(upd H' J (.dK (putK jk' (Sum.inr a.name) (.bl true)))) g=some (.frz o (.dK (dg (·.outs) ps))):=by rw [aK (Ne.symm ngJ)];exact hg
       have gb2:mX (upd H' J (.dK (putK jk' (Sum.inr a.name) (.bl true)))) d (.str l) (some (.str b'.name)):=by rw [←iT ni hb' lb];exact mX.k (k:=Sum.inr l) (gD b2)
       have len1:=nY jk' (Sum.inr a.name:Key) (.bl true)
       have len2:=nY (putK jk' (Sum.inr a.name) (.bl true)) (Sum.inr b'.name:Key) (.bl true)
       refine⟨_,rfl,_,rfl,_,rfl,d,_,rfl,gb2,J,_,rfl,DPut.k (k:=Sum.inr b'.name) aq (by omega),?_⟩
       rw [vL]
       have has2:∀x,gG (putK (putK jk' (Sum.inr a.name) (.bl true)) (Sum.inr b'.name) (.bl true)) x=(decide (x=b'.name) || (decide (x=a.name) || gG jk' x)):=fun x=>by rw [hasN_put,hasN_put]
       have mono:∀x,gG jk' x=true→gG (putK (putK jk' (Sum.inr a.name) (.bl true)) (Sum.inr b'.name) (.bl true)) x=true:=fun x hx=>by rw [has2,hx];simp
       have lt:pR ps (putK (putK jk' (Sum.inr a.name) (.bl true)) (Sum.inr b'.name) (.bl true)) <pR ps jk':=by
        cases hA:gG jk' a.name
        ·exact missN_lt mono ha hA (by rw [has2];simp)
        ·cases hB:gG jk' b'.name
         ·exact missN_lt mono hb' hB (by rw [has2];simp)
         ·rw [hA,hB] at hne';exact absurd rfl hne'
       refine⟨fun x u hn e=>by rw [aK (aD e nJ)];exact hb x u hn e,by rw [aK (Ne.symm ngJ)];exact hg,true,_,rfl,aq,mono _ hp',by omega,.inr ⟨rfl,?_⟩⟩
       rcases hv with ⟨_,rfl,_⟩ | ⟨_,hv⟩
       ·exact lt
       ·omega
      ·have heq':gG jk' a.name=gG jk' b'.name:=by
        cases hA:gG jk' a.name <;> cases hB:gG jk' b'.name <;> rw [hA,hB] at heq <;> simp_all
       refine⟨hb,hg,b,jk',rfl,hJ',hp',hlen',?_⟩
       rcases hv with ⟨rfl,rfl,hE⟩ | hv
       ·refine .inl ⟨rfl,rfl,fun i k2 v2 hi e2 a2 ha2 b2 hb2 l2 ek q1 q2=>?_⟩
        rcases Nat.lt_or_ge i j with h | h
        ·exact hE i k2 v2 h e2 a2 ha2 b2 hb2 l2 ek q1 q2
        ·have:i=j:=by omega
         subst this
         rw [hj] at e2
         cases e2
         cases ek
         obtain⟨x1,x2⟩:=nm a2 ha2 b2 hb2 q1 q2
         rw [x1,x2]
         exact heq'
       ·exact .inr hv
     ·rintro σ H'' ⟨hb,hg,b,jk'',rfl,r⟩
      exact⟨hb,hg,b,_,jk'',rfl,r⟩
    ·rintro σ H' ⟨hb,hg,b,v5',jk',rfl,hJ',hp',hlen',hv⟩
     refine⟨_,⟨g,o,_,hg,(fun o' u' z=>by rw [show H g=_ from h1] at z;cases z),rfl⟩,?_⟩
     have eJ:(upd H' g (.dK (dg (·.outs) ps))) J=some (.dK jk'):=by rw [aK ngJ];exact hJ'
     refine⟨⟨melt hb hg,b,v5',jk',rfl,eJ,hp',hlen',fun z=>?_⟩,?_⟩
     ·rcases hv with ⟨_,rfl,hE⟩ | ⟨h,_⟩
      ·exact hE
      ·rw [h] at z;cases z
     ·show(if b=true then 1 else 0)+2 * pR ps (jkOf _ J) <(if true=true then 1 else 0)+2 * pR ps (jkOf _ J)
      rw [jkOf_eq eJ,jkOf_eq hJ]
      rcases hv with ⟨rfl,rfl,_⟩ | ⟨rfl,h⟩
      ·simp
      ·simp;omega
  ·intro σ H' Q' Q'' hm hq
   obtain⟨v,e,b,e2,q⟩:=hq
   exact⟨v,e,b,e2,hm _ _ q⟩
def sp_need_joined (K:PySem.W.Frag):Sp:=fun vs H Q _=>∃(L g d:Addr) (ps:List PD),vs=[.ref L,.ref g,.ref d]∧SqL K H L (ps.map fun p=>V.str p.name)∧1≤ps.length∧ps.length≤16∧H g=some (.dK (dg (·.outs) ps))∧H d=some (.dK (dg (·.ins) ps))∧g≠d∧(ps.flatMap (·.outs)).Nodup∧(ps.flatMap (·.ins)).Nodup∧(ps.flatMap (·.outs)).Perm (ps.flatMap (·.ins))∧(∃y,∀q∈ps,∃x∈q.ins ++ q.outs,Drawn.Conn ps x y)∧∀H',aO H H'→Q .non H'
theorem sc_need_joined:FnScope ["names", "givers", "takers", "joined", "name"] ["names", "givers", "takers"] (aA gZ):=⟨rfl,rfl,rfl,by decide +kernel,rfl,by decide +kernel,by decide +kernel⟩
theorem ok_need_joined (T:Txt w K mg t):FnOk P w K mg base CX0 2 t.qT t.pU ["names", "givers", "takers"] (sp_need_joined K):=by
 have sc:=sc_need_joined
 refine T.wu.ok sc (fun vs H Q E h=>?_) (fun cdv A outer s H vs Q E hr h=>?_)
 ·obtain⟨L,g,d,ps,rfl,_⟩:=h
  rfl
 ·obtain⟨L,g,d,ps,rfl,hL,hp1,hps,h1,h2,n1,no,ni,pm,hang,k⟩:=h
  refine⟨_,(az (bD (i:=3) sc.nd rfl (Or.inl rfl) (aH (ok_joined_with T) (hr.mono (by decide)) (by rfl) T.m_joined_with T.ww.kp T.b_joined_with .nil aN (aa (bG bN (pv 0) au (fun _ _=>rfl)) (aa (pv 1) (aa (pv 2) ak aj) aj) aJ)))
   (aF (lB PassesOwn.never rfl (fG (pv 0)) (bL (i:=4) sc.nd rfl (Or.inl rfl))
    (aF (cz (xu (vJ hr.u1 (pv 4) (pv 3)))
     (aF mC)
     bJ))))),?_⟩
  obtain⟨p0,pr,rfl⟩:∃p0 pr,ps=p0:: pr:=by
   cases ps with
   | nil=>simp at hp1
   | cons a r=>exact⟨a,r,rfl⟩
  refine⟨_,rfl,L,_,0,_,rfl,rfl,hL,aQ (j:=0) rfl,_,rfl,_,rfl,p0,g,d,_,rfl,List.mem_cons_self,hps,h1,h2,n1,no,ni,pm,hang,fun H1 J jk s1 eJ hA=>?_⟩
  refine⟨_,rfl,L,rfl,⟨_,s1.seq hL⟩,oh (K:=K) (a:=L) (xs:=(p0:: pr).map fun p=>V.str p.name) (fun j σ H'=>H'=H1∧∃v4,σ=[some (.ref L),some (.ref g),some (.ref d),some (.ref J),v4]) ⟨rfl,none,rfl⟩ (fun j σ H' _ ⟨e,_⟩=>by rw [e];exact s1.seq hL) ?_ ?_⟩
  ·rintro j x σ H' hx ⟨rfl,v4,rfl⟩
   rw [List.getElem?_map] at hx
   obtain⟨p,hp,rfl⟩:=Option.map_eq_some_iff.mp hx
   obtain⟨u,hu⟩:=Option.isSome_iff_exists.mp (hA p (List.mem_of_getElem? hp))
   exact⟨_,rfl,_,rfl,J,some u,rfl,(by rw [←hu];exact mX.k (k:=Sum.inr p.name) eJ),_,rfl,fP ⟨rfl,_,rfl⟩⟩
  ·rintro σ H' ⟨rfl,v4,rfl⟩
   exact k _ s1
def sp_Net_lane_names (K:PySem.W.Frag) (t:Adr):Sp:=fun vs H Q _=>∃(n:Addr) (ls:List LaneD) (ps:List PD),vs=[.ref n]∧vg K t H n ls ps∧∀l,H l=none→Q (.ref l) (upd H l (.lst (ls.map fun x=>V.str x.name)))
theorem sc_Net_lane_names:FnScope ["self"] ["self"] (aA fB):=⟨rfl,rfl,rfl,by decide +kernel,rfl,by decide +kernel,by decide +kernel⟩
theorem qu (T:Txt w K mg t):FnOk P w K mg base CX0 1 t.mW t.mD ["self"] (sp_Net_lane_names K t):=by
 have sc:=sc_Net_lane_names
 refine T.F_Net_lane_names.ok sc (fun vs H Q E h=>?_) (fun cdv A outer s H vs Q E hr h=>?_)
 ·obtain⟨n,ls,ps,rfl,_⟩:=h
  rfl
 ·obtain⟨n,ls,ps,rfl,N,k⟩:=h
  refine⟨_,(aF (bA (fC (pP rfl) (by rfl) T.n_list zr (aa (du (pv 0) rfl) ak aY)))),?_⟩
  obtain⟨dx,fs,R,F,Pd,G,Tk,FL,PL,W⟩:=id N
  refine⟨_,rfl,n,_,dx,fs,_,rfl,W.obj,T.dI,T.d7,W.fl.has ("rooms",.ref R) (by simp),R,_,rfl,.inl W.rooms,fun l hl=>?_⟩
  unfold dq
  rw [List.map_map]
  exact k l hl
def sp_Net_part_names (K:PySem.W.Frag) (t:Adr):Sp:=fun vs H Q _=>∃(n:Addr) (ls:List LaneD) (ps:List PD),vs=[.ref n]∧vg K t H n ls ps∧∀l,H l=none→Q (.ref l) (upd H l (.lst (ps.map fun x=>V.str x.name)))
theorem sc_Net_part_names:FnScope ["self"] ["self"] (aA fu):=⟨rfl,rfl,rfl,by decide +kernel,rfl,by decide +kernel,by decide +kernel⟩
theorem ok_Net_part_names (T:Txt w K mg t):FnOk P w K mg base CX0 1 t.mV t.mL ["self"] (sp_Net_part_names K t):=by
 have sc:=sc_Net_part_names
 refine T.F_Net_part_names.ok sc (fun vs H Q E h=>?_) (fun cdv A outer s H vs Q E hr h=>?_)
 ·obtain⟨n,ls,ps,rfl,_⟩:=h
  rfl
 ·obtain⟨n,ls,ps,rfl,N,k⟩:=h
  refine⟨_,(aF (bA (fC (pP rfl) (by rfl) T.n_list zr (aa (du (pv 0) rfl) ak aY)))),?_⟩
  obtain⟨dx,fs,R,F,Pd,G,Tk,FL,PL,W⟩:=id N
  refine⟨_,rfl,n,_,dx,fs,_,rfl,W.obj,T.dI,T.gC,W.fl.has ("parts",.ref Pd) (by simp),Pd,_,rfl,.inl W.parts,fun l hl=>?_⟩
  unfold dU
  rw [List.map_map]
  have e:ps.map (fun x=>V.str x.name)=PL.map (fun q=>V.str q.1.name):=by rw [←W.pls,List.map_map];rfl
  rw [e] at k
  exact k l hl
def sp_Net_need_lane_name (K:PySem.W.Frag) (t:Adr):Sp:=fun vs H Q E=>∃(n:Addr) (ls:List LaneD) (ps:List PD) (x:Str),vs=[.ref n,.str x]∧vg K t H n ls ps∧((x∈ls.map (·.name)∧∀H',aO H H'→Q .non H')∨(x∉ls.map (·.name)∧∀dx H',aO H H'→H' dx=some (.xd [("name",.str x)])→E (.ref t.bV) (some dx) H'))
theorem sc_Net_need_lane_name:FnScope ["self", "name"] ["self", "name"] (aA dB):=⟨rfl,rfl,rfl,by decide +kernel,rfl,by decide +kernel,by decide +kernel⟩
theorem il (T:Txt w K mg t):FnOk P w K mg base (CX2 P w) 3 t.iC t.ik ["self", "name"] (sp_Net_need_lane_name K t):=by
 have sc:=sc_Net_need_lane_name
 refine T.F_Net_need_lane_name.ok2 sc (fun vs H Q E h=>?_) (fun cdv A outer s H vs Q E hr h=>?_)
 ·obtain⟨n,ls,ps,x,rfl,_⟩:=h
  rfl
 ·obtain⟨n,ls,ps,x,rfl,N,h⟩:=h
  refine⟨_,(aF (cz (bC xJ (pv 1) (rm (pv 0) T.dI T.qx (qu T) (hr.mono (by decide)) T.rF .nil aN) (by with_unfolding_all rfl))
    (aF (yp T.X_NoSuch (ok_NoSuch___init__ T) (hr.mono (by decide)) (by rfl) T.mc_NoSuch T.b_NoSuch___init__ aN (aa (pv 1) ak aj)))
    bJ)),?_⟩
  obtain⟨dx,fs,R,F,Pd,G,Tk,FL,PL,W⟩:=id N
  refine⟨_,rfl,_,rfl,n,dx,fs,rfl,W.obj,W.fl.no _ (by decide +kernel),n,ls,ps,rfl,N,fun l hl=>?_⟩
  have s1:=aC (o:=.lst (ls.map fun x=>V.str x.name)) hl
  refine⟨l,_,rfl,.inl (SqL.of aq),rfl,by simp [ud],_,rfl,?_⟩
  rw [in_names (f:=fun x:LaneD=>x.name)]
  rcases h with ⟨hx,k⟩ | ⟨hx,kE⟩
  ·rw [decide_eq_true hx]
   exact fP (k _ s1)
  ·rw [decide_eq_false hx]
   refine kW ?_
   refine⟨_,rfl,by show 1≤1000;decide,fun y ny n0=>⟨y,_,rfl,aq,fun dx' nd ne=>⟨rfl,y,dx',rfl,n0,by rw [aK ne.symm];exact aq,?_⟩⟩⟩
   have rz:=raised (fs:=[(("name" :Str),V.str x)]) ny nd ne
   exact kE dx' _ (s1.trans rz.1) rz.2
def sp_Net_room_of (K:PySem.W.Frag) (t:Adr):Sp:=fun vs H Q E=>∃(n:Addr) (ls:List LaneD) (ps:List PD) (x:Str),vs=[.ref n,.str x]∧vg K t H n ls ps∧((∃l∈ls,l.name=x∧∀H',aO H H'→Q (.int l.room) H')∨(x∉ls.map (·.name)∧∀dx H',aO H H'→H' dx=some (.xd [("name",.str x)])→E (.ref t.bV) (some dx) H'))
theorem sc_Net_room_of:FnScope ["self", "name"] ["self", "name"] (aA ie):=⟨rfl,rfl,rfl,by decide +kernel,rfl,by decide +kernel,by decide +kernel⟩
theorem ok_Net_room_of (T:Txt w K mg t):FnOk P w K mg base (CX2 P w) 4 t.qK t.pO ["self", "name"] (sp_Net_room_of K t):=by
 have sc:=sc_Net_room_of
 refine T.F_Net_room_of.ok2 sc (fun vs H Q E h=>?_) (fun cdv A outer s H vs Q E hr h=>?_)
 ·obtain⟨n,ls,ps,x,rfl,_⟩:=h
  rfl
 ·obtain⟨n,ls,ps,x,rfl,N,h⟩:=h
  refine⟨_,(az (bz (xT (pv 0) T.dI T.ig (il T) (hr.mono (by decide)) T.iz .nil (vV fun _ _ _ h=>h) (aa (pv 1) ak aj)))
   (aF (bA (pq hr.u1 (du (pv 0) rfl) (pv 1) (fun _ _=>rfl))))),?_⟩
  obtain⟨dx,fs,R,F,Pd,G,Tk,FL,PL,W⟩:=id N
  refine⟨_,rfl,n,dx,fs,rfl,W.obj,W.fl.no _ (by decide +kernel),_,rfl,n,ls,ps,x,rfl,N,?_⟩
  rcases h with ⟨l,hl,rfl,k⟩ | h
  ·refine .inl ⟨List.mem_map.mpr ⟨l,hl,rfl⟩,fun H1 s1=>?_⟩
   have W1:=W.same s1
   have hv:=W1.room hl
   refine⟨_,rfl,n,_,dx,fs,_,rfl,W1.obj,T.dI,T.d7,W1.fl.has ("rooms",.ref R) (by simp),_,rfl,R,_,rfl,(by rw [←hv];exact mX.k (k:=Sum.inr l.name) W1.rooms),?_⟩
   exact k _ s1
  ·exact .inr h
def sp_Net_first_of (K:PySem.W.Frag) (t:Adr):Sp:=fun vs H Q E=>∃(n:Addr) (ls:List LaneD) (ps:List PD) (x:Str),vs=[.ref n,.str x]∧vg K t H n ls ps∧((∃l∈ls,l.name=x∧∀H' p,aO H H'→H p=none→H' p=some (.lst (l.first.map V.int))→Q (.ref p) H')∨(x∉ls.map (·.name)∧∀dx H',aO H H'→H' dx=some (.xd [("name",.str x)])→E (.ref t.bV) (some dx) H'))
theorem sc_Net_first_of:FnScope ["self", "name"] ["self", "name"] (aA fV):=⟨rfl,rfl,rfl,by decide +kernel,rfl,by decide +kernel,by decide +kernel⟩
theorem ok_Net_first_of (T:Txt w K mg t):FnOk P w K mg base (CX2 P w) 4 t.pJ t.oM ["self", "name"] (sp_Net_first_of K t):=by
 have sc:=sc_Net_first_of
 refine T.F_Net_first_of.ok2 sc (fun vs H Q E h=>?_) (fun cdv A outer s H vs Q E hr h=>?_)
 ·obtain⟨n,ls,ps,x,rfl,_⟩:=h
  rfl
 ·obtain⟨n,ls,ps,x,rfl,N,h⟩:=h
  refine⟨_,(az (bz (xT (pv 0) T.dI T.ig (il T) (hr.mono (by decide)) T.iz .nil (vV fun _ _ _ h=>h) (aa (pv 1) ak aj)))
   (aF (bA (fC call_list_of (by rfl) T.n_list zr (aa (pq hr.u1 (du (pv 0) rfl) (pv 1) (fun _ _=>rfl)) ak aJ))))),?_⟩
  obtain⟨dx,fs,R,F,Pd,G,Tk,FL,PL,W⟩:=id N
  refine⟨_,rfl,n,dx,fs,rfl,W.obj,W.fl.no _ (by decide +kernel),_,rfl,n,ls,ps,x,rfl,N,?_⟩
  rcases h with ⟨l,hl,rfl,k⟩ | h
  ·refine .inl ⟨List.mem_map.mpr ⟨l,hl,rfl⟩,fun H1 s1=>?_⟩
   have W1:=W.same s1
   obtain⟨q,hq,eq⟩:∃q∈FL,q.1=l:=by
    rw [←W.fls] at hl
    obtain⟨q,hq,e⟩:=List.mem_map.mp hl
    exact⟨q,hq,e⟩
   subst eq
   have hv:=W1.firstV hq
   refine⟨_,rfl,n,_,dx,fs,_,rfl,W1.obj,T.dI,T.nA,W1.fl.has ("firsts",.ref F) (by simp),_,rfl,F,_,rfl,(by rw [←hv];exact mX.k (k:=Sum.inr q.1.name) W1.firsts),?_⟩
   exact⟨q.2,_,rfl,.inr (W1.tups q hq),fun p hp=>k _ p (s1.trans (aC hp)) (s1.free hp) aq⟩
  ·exact .inr h
theorem kind_ok (T:Txt w K mg t) (i:Nat):MethAt P w K mg base CX0 1 (cls t i) "kind" (iY i):=match i with
 | 0=>⟨_,_,_,T.c_Give,T.me_Give_kind,T.b_Give_kind,ok_Give_kind T⟩
 | 1=>⟨_,_,_,T.c_Take,T.me_Take_kind,T.b_Take_kind,ok_Take_kind T⟩
 | 2=>⟨_,_,_,T.c_Pass,T.me_Pass_kind,T.b_Pass_kind,ok_Pass_kind T⟩
 | 3=>⟨_,_,_,T.c_Copy,T.me_Copy_kind,T.b_Copy_kind,ok_Copy_kind T⟩
 | 4=>⟨_,_,_,T.c_Turn,T.me_Turn_kind,T.b_Turn_kind,ok_Turn_kind T⟩
 | 5=>⟨_,_,_,T.c_Heap,T.me_Heap_kind,T.b_Heap_kind,ok_Heap_kind T⟩
 | 6=>⟨_,_,_,T.c_Add,T.me_Add_kind,T.b_Add_kind,ok_Add_kind T⟩
 | 7=>⟨_,_,_,T.c_Less,T.me_Less_kind,T.b_Less_kind,ok_Less_kind T⟩
 | 8=>⟨_,_,_,T.c_Order,T.me_Order_kind,T.b_Order_kind,ok_Order_kind T⟩
 | 9=>⟨_,_,_,T.c_Choose,T.me_Choose_kind,T.b_Choose_kind,ok_Choose_kind T⟩
 | n+10=>⟨_,_,_,T.c_Split,T.me_Split_kind,T.b_Split_kind,ok_Split_kind T⟩
def sp_row_of (K:PySem.W.Frag) (t:Adr):Sp:=fun vs H Q _=>∃(q:Addr) (p:PD),vs=[.ref q]∧PartAt K t H q p.kind (.str p.name) (p.nums.map V.int) (p.ins.map V.str) (p.outs.map V.str)∧∀r a1 a2 a3,H r=none→SqT K H a1 (p.nums.map V.int)→SqT K H a2 (p.ins.map V.str)→SqT K H a3 (p.outs.map V.str)→Q (.ref r) (upd H r (.tup [.str (dZ p.kind),.str p.name,.ref a1,.ref a2,.ref a3]))
theorem sc_row_of:FnScope ["part"] ["part"] (aA rA):=⟨rfl,rfl,rfl,by decide +kernel,rfl,by decide +kernel,by decide +kernel⟩
theorem ok_row_of (T:Txt w K mg t):FnOk P w K mg base CX0 2 t.zN t.yl ["part"] (sp_row_of K t):=by
 have sc:=sc_row_of
 refine T.F_row_of.ok sc (fun vs H Q E h=>?_) (fun cdv A outer s H vs Q E hr h=>?_)
 ·obtain⟨q,p,rfl,_⟩:=h
  rfl
 ·obtain⟨q,p,rfl,P,k⟩:=h
  refine⟨_,(aF (bA (cM (aa (pe_methD0 (CX:=CX0) (k:=1) (E:=E0) (pv 0) (hr.mono (by decide)) aN) (aa (du (pv 0) rfl) (aa (du (pv 0) rfl) (aa (du (pv 0) rfl) (aa (du (pv 0) rfl) ak aY) aY) aY) aY) aW)))),?_⟩
  have hl:sizeLine=16777216:=sizeLine_eq
  obtain⟨dxp,tn,ti,to,p1,p2,p3,p4⟩:=P.ex
  refine⟨_,rfl,q,cls t p.kind,dxp,_,iY p.kind,rfl,p1,flds_no _ _ _ _ (by decide +kernel) (by decide +kernel) (by decide +kernel) (by decide +kernel),kind_ok T p.kind,_,rfl,?_⟩
  refine⟨_,rfl,q,_,dxp,_,_,rfl,p1,mR T p.kind,xK T p.kind,vH _ _ _ _,_,rfl,q,_,dxp,_,_,rfl,p1,mR T p.kind,zW T p.kind,flds_numbers _ _ _ _,_,rfl,q,_,dxp,_,_,rfl,p1,mR T p.kind,na_ins T p.kind,flds_ins _ _ _ _,_,rfl,q,_,dxp,_,_,rfl,p1,mR T p.kind,na_outs T p.kind,flds_outs _ _ _ _,by show 5≤sizeLine;exact szl,fun r nr=>?_⟩
  exact k r tn ti to nr p2 p3 p4
def sp_Net_told (K:PySem.W.Frag) (t:Adr):Sp:=fun vs H Q _=>∃(n:Addr) (ls:List LaneD) (ps:List PD),vs=[.ref n]∧vg K t H n ls ps∧∀T a b H',aO H H'→H a=none→H b=none→a≠b→ToldAt K H' T a b ls ps→Q (.ref T) H'
theorem sc_Net_told:FnScope ["self", "lanes", "parts"] ["self"] (aA iG):=⟨rfl,rfl,rfl,by decide +kernel,rfl,by decide +kernel,by decide +kernel⟩
theorem u0 (T:Txt w K mg t):FnOk P w K mg base CX0 3 t.w5 t.vp ["self"] (sp_Net_told K t):=by
 have sc:=sc_Net_told
 refine T.F_Net_told.ok sc (fun vs H Q E h=>?_) (fun cdv A outer s H vs Q E hr h=>?_)
 ·obtain⟨n,ls,ps,rfl,_⟩:=h
  rfl
 ·obtain⟨n,ls,ps,rfl,N,k⟩:=h
  refine⟨_,(az (xN (H0:=H) rfl (nU (i:=1) [0] ["self", "lanes", "parts"] (aA iG) rfl sc.nd rfl (zz (du (pv 0) rfl)) (fun _ _ _ _ _=>fW) (fun _ _ _ _ _=>(cM (aa (pv 0) (aa (pq hr.u1 (pe_fldK (K:=K) rfl (pv 1) rfl) (pv 0) (fun _ _=>rfl)) (aa (pq hr.u1 (pe_fldK (K:=K) rfl (pv 1) rfl) (pv 0) (fun _ _=>rfl)) ak aJ) aJ) aj)))))
   (az (xN (H0:=H) rfl (nU (i:=2) [0] ["self", "lanes", "parts"] (aA iG) rfl sc.nd rfl (zz (du (pv 0) rfl)) (fun _ _ _ _ _=>fW) (fun _ _ _ _ _=>(aH (ok_row_of T) (hr.mono (by decide)) (by rfl) T.m_row_of T.F_row_of.kp T.b_row_of .nil aN (aa (pq hr.u1 (pe_fldK (K:=K) rfl (pv 1) rfl) (pv 0) (fun _ _=>rfl)) ak aJ)))))
   (aF (bA (cM (aa (pv 1) (aa (pv 2) ak aj) aj)))))),?_⟩
  obtain⟨dx,fs,R,F,Pd,G,Tk,FL,PL,W⟩:=id N
  have hz:sizeLine=16777216:=sizeLine_eq
  have hl24:=W.fit.l24
  have hp16:=W.fit.p16
  have h3:=W.rooms
  have lr:(dq ls).length=ls.length:=by unfold dq;rw [lM]
  have lp:PL.length=ps.length:=by rw [←W.pls,lM]
  refine⟨_,rfl,n,_,dx,fs,_,rfl,W.obj,T.dI,T.d7,W.fl.has ("rooms",.ref R) (by simp),R,_,rfl,h3,fun o=>?_⟩
  refine comp_dict (fun j ys H'=>aO (upd H R (.frz o (.dK (dq ls)))) H'∧ys.length≤j∧All2 (xZ K (upd H' R (.dK (dq ls)))) ys (ls.take j)) (by rw [lr];omega) ⟨aO.refl _,Nat.le_refl _,.nil⟩ ?_ ?_ ?_ ?_
  ·rintro j ys H' ⟨_,hh,_⟩
   exact hh
  ·rintro j ys H' _ h
   exact h.1 _ _ aq
  ·rintro j kk v ys H' hj ⟨hs,hyl,hA⟩
   unfold dq at hj
   rw [List.getElem?_map] at hj
   obtain⟨l,hlj,e⟩:=Option.map_eq_some_iff.mp hj
   cases e
   have hm:=List.mem_of_getElem? hlj
   obtain⟨q,hq,eq⟩:∃q∈FL,q.1=l:=by
    have hm':=hm
    rw [←W.fls] at hm'
    obtain⟨q,hq,e⟩:=List.mem_map.mp hm'
    exact⟨q,hq,e⟩
   subst eq
   have hg:=hs _ _ aq
   have en:=hs _ _ (rD h3 W.obj (by intro _ z;cases z))
   have eF:H' F=some (.dK (fU FL)):=hs _ _ (by rw [aK (Ne.symm W.neRF)];exact W.firsts)
   refine yes ⟨_,rfl,_,rfl,n,_,dx,fs,_,rfl,en,T.dI,T.d7,W.fl.has ("rooms",.ref R) (by simp),_,rfl,R,_,rfl,(by rw [←W.room hm];exact .inl ⟨_,Sum.inr q.1.name,.inr ⟨o,hg⟩,rfl,rfl⟩),?_⟩
   refine⟨_,rfl,n,_,dx,fs,_,rfl,en,T.dI,T.nA,W.fl.has ("firsts",.ref F) (by simp),_,rfl,F,_,rfl,(by rw [←W.firstV hq];exact mX.k (k:=Sum.inr q.1.name) eF),by show 3≤sizeLine;exact szl,fun u nu=>?_⟩
   have su:=aC (o:=.tup [.str q.1.name,.int q.1.room,.ref q.2]) nu
   have nuR:u≠R:=fun z=>by rw [z,hg] at nu;cases nu
   refine⟨hs.trans su,by rw [lP,List.length_singleton];omega,?_⟩
   rw [List.take_succ,hlj,Option.toList_some]
   refine(hA.imp fun _ _ h=>h.same (xR su)).app (.cons ⟨u,q.2,rfl,by rw [aK nuR];exact aq,(yz h3 (hs.trans su)).seqT (W.tups q hq)⟩ .nil)
  rintro ys H' ⟨hs,hyl,hA⟩ D nD
  have hg:=hs _ _ aq
  have nDR:D≠R:=fun z=>by rw [z,hg] at nD;cases nD
  have nDH:H D=none:=zT (hs.free nD)
  have sD:=aC (o:=.lst ys) nD
  refine⟨_,⟨R,o,_,sD _ _ hg,(fun o' u' z=>by rw [show H R=_ from h3] at z;cases z),rfl⟩,?_⟩
  have s1:=yz h3 (hs.trans sD)
  have eD:upd (upd H' D (.lst ys)) R (.dK (dq ls)) D=some (.lst ys):=by rw [aK nDR];exact aq
  have hA1:All2 (xZ K (upd (upd H' D (.lst ys)) R (.dK (dq ls)))) ys ls:=by
   rw [lr,List.take_length] at hA
   exact hA.imp fun _ _ h=>h.same (xR sD)
  generalize upd (upd H' D (.lst ys)) R (.dK (dq ls))=H1 at s1 eD hA1 ⊢
  clear hA hs hg sD nD hyl
  have W1:=W.same s1
  have h5:=W1.parts
  have lpk:(dU PL).length=PL.length:=by unfold dU;rw [lM]
  refine⟨_,rfl,n,_,dx,fs,_,rfl,W1.obj,T.dI,T.gC,W1.fl.has ("parts",.ref Pd) (by simp),Pd,_,rfl,h5,fun o2=>?_⟩
  refine comp_dict (fun j zs H'=>aO (upd H1 Pd (.frz o2 (.dK (dU PL)))) H'∧zs.length≤j∧All2 (RowT K (upd H' Pd (.dK (dU PL)))) zs ((PL.take j).map (·.1))) (by rw [lpk];omega) ⟨aO.refl _,Nat.le_refl _,.nil⟩ ?_ ?_ ?_ ?_
  ·rintro j zs H' ⟨_,hh,_⟩
   exact hh
  ·rintro j zs H' _ h
   exact h.1 _ _ aq
  ·rintro j kk v zs H' hj ⟨hs,hyl,hA⟩
   unfold dU at hj
   rw [List.getElem?_map] at hj
   obtain⟨q,hqj,e⟩:=Option.map_eq_some_iff.mp hj
   cases e
   have hm:=List.mem_of_getElem? hqj
   have hg:=hs _ _ aq
   have en:=hs _ _ (rD h5 W1.obj (by intro _ z;cases z))
   refine yes ⟨_,rfl,n,_,dx,fs,_,rfl,en,T.dI,T.gC,W1.fl.has ("parts",.ref Pd) (by simp),_,rfl,Pd,_,rfl,(by rw [←W1.partV hm];exact .inl ⟨_,Sum.inr q.1.name,.inr ⟨o2,hg⟩,rfl,rfl⟩),?_⟩
   refine⟨q.2,q.1,rfl,((W1.pats q hm).chill h5).same hs,fun u a1 a2 a3 nu t1 t2 t3=>?_⟩
   have su:=aC (o:=.tup [.str (dZ q.1.kind),.str q.1.name,.ref a1,.ref a2,.ref a3]) nu
   have nuP:u≠Pd:=fun z=>by rw [z,hg] at nu;cases nu
   refine⟨hs.trans su,by rw [lP,List.length_singleton];omega,?_⟩
   rw [List.take_succ,hqj,Option.toList_some,List.map_append,List.map_singleton]
   have ft:∀{a:Addr} {xs:List V},SqT K H' a xs→SqT K (upd (upd H' u (.tup [.str (dZ q.1.kind),.str q.1.name,.ref a1,.ref a2,.ref a3])) Pd (.dK (dU PL))) a xs:=fun {a xs} t=>by
    rcases su.seqT t with (h | ⟨o',h⟩) | h
    ·exact .inl (.inl (by rw [aK (wk h (su _ _ hg) (by intro z;cases z))];exact h))
    ·exact .inl (.inr ⟨o',by rw [aK (wk h (su _ _ hg) (by intro z;cases z))];exact h⟩)
    ·exact .inr h
   refine(hA.imp fun _ _ h=>h.same (xR su)).app (.cons ⟨u,a1,a2,a3,rfl,by rw [aK nuP];exact aq,ft t1,ft t2,ft t3⟩ .nil)
  rintro zs H' ⟨hs,hyl,hA⟩ D2 nD2
  have hg:=hs _ _ aq
  have nDP:D2≠Pd:=fun z=>by rw [z,hg] at nD2;cases nD2
  have nD2H:H1 D2=none:=zT (hs.free nD2)
  have sD:=aC (o:=.lst zs) nD2
  refine⟨_,⟨Pd,o2,_,sD _ _ hg,(fun o' u' z=>by rw [show H Pd=_ from W.parts] at z;cases z),rfl⟩,?_⟩
  have s2:=yz h5 (hs.trans sD)
  have eD2:upd (upd H' D2 (.lst zs)) Pd (.dK (dU PL)) D2=some (.lst zs):=by rw [aK nDP];exact aq
  have hA2:All2 (RowT K (upd (upd H' D2 (.lst zs)) Pd (.dK (dU PL)))) zs ps:=by
   rw [lpk,List.take_length,W.pls] at hA
   exact hA.imp fun _ _ h=>h.same (xR sD)
  generalize upd (upd H' D2 (.lst zs)) Pd (.dK (dU PL))=H2 at s2 eD2 hA2 ⊢
  refine⟨_,rfl,_,rfl,by show 2≤sizeLine;exact szl,fun T' nT=>?_⟩
  have sT:=aC (o:=.tup [.ref D,.ref D2]) nT
  exact k T' D D2 _ (s1.trans (s2.trans sT)) nDH (s1.free nD2H) (aD eD nD2H) ⟨aq,⟨ys,sT _ _ (s2 _ _ eD),hA1.imp fun _ _ h=>h.same (s2.trans sT)⟩,⟨zs,sT _ _ eD2,hA2.imp fun _ _ h=>h.same sT⟩⟩
def sp_Net___init__ (K:PySem.W.Frag) (t:Adr):Sp:=fun vs H Q E=>∃(n dx Ll Lp:Addr) (ls:List LaneD) (ps:List PD),vs=[.ref n,.ref Ll,.ref Lp]∧H n=some (.ins t.bO dx [])∧Hand K H Ll Lp ls ps∧((1≤ls.length∧1≤ps.length∧(24 <ls.length∨16 <ps.length)∧E (.ref t.bT) none H)∨(Fit ls ps∧∀H',But n H H'→vg K t H' n ls ps→Q .non H'))
theorem sc_Net___init__:FnScope ["self", "lanes", "parts", "lane", "row", "part"] ["self", "lanes", "parts"] (aA fY):=⟨rfl,rfl,rfl,by decide +kernel,rfl,by decide +kernel,by decide +kernel⟩
theorem tZ (T:Txt w K mg t):FnOk P w K mg base (CX2 P w) 6 t.p7 t.oN ["self", "lanes", "parts"] (sp_Net___init__ K t):=by
 have sc:=sc_Net___init__
 refine T.F_Net___init__.ok2 sc (fun vs H Q E h=>?_) (fun cdv A outer s H vs Q E hr h=>?_)
 ·obtain⟨n,dx,Ll,Lp,ls,ps,rfl,_⟩:=h
  rfl
 ·obtain⟨n,dx,Ll,Lp,ls,ps,rfl,hn,hH,hk⟩:=h
  refine⟨_,(az (bz (aH (ok_need_counts T) (hr.mono (by decide)) (by rfl) T.m_need_counts T.vW.kp T.b_need_counts .nil (vV fun _ _ _ h=>h) (aa (pv 1) (aa (pv 2) ak aj) aj)))
   (az (sZ (pv 0) vz rfl)
   (az (sZ (pv 0) vz rfl)
   (az (lB PassesOwn.leaving rfl (fG (pv 1)) (bL (i:=3) sc.nd rfl (Or.inl rfl))
    (az (bz (aH (nM T) (hr.mono (by decide)) (by rfl) T.o9 T.mq.kp T.oY .nil (vV fun _ _ _ h=>h) (aa (bG dW (pv 3) au (fun _ _=>rfl)) (aa (du (pv 0) rfl) ak aY) aJ)))
    (az (bz (aH (ok_need_lane T) (hr.mono (by decide)) (by rfl) T.m_need_lane T.yI.kp T.b_need_lane .nil aN (aa (bG dW (pv 3) au (fun _ _=>rfl)) (aa (bG dW (pv 3) au (fun _ _=>rfl)) (aa (bG dW (pv 3) au (fun _ _=>rfl)) ak aJ) aJ) aJ)))
    (az (vN hr.u1 (du (pv 0) rfl) (bG dW (pv 3) au (fun _ _=>rfl)) (bG dW (pv 3) au (fun _ _=>rfl)) rfl)
    (aF (vN hr.u1 (du (pv 0) rfl) (bG dW (pv 3) au (fun _ _=>rfl)) (fC rG (by rfl) T.qe ou (aa (bG dW (pv 3) au (fun _ _=>rfl)) ak aJ)) rfl))))))
   (az (sZ (pv 0) vz rfl)
   (az (sZ (pv 0) vz rfl)
   (az (sZ (pv 0) vz rfl)
   (az (lB PassesOwn.leaving rfl (fG (pv 2)) (bL (i:=4) sc.nd rfl (Or.inl rfl))
    (az (bD (i:=5) sc.nd rfl (Or.inl rfl) (aH (ok_fresh_part T) (hr.mono (by decide)) (by rfl) T.m_fresh_part T.xX.kp T.b_fresh_part .nil aN (aa (pv 4) (aa (du (pv 0) rfl) ak aY) aj)))
    (az (bz (aH (xH T) (hr.mono (by decide)) (by rfl) T.yK T.uv.kp T.yM .nil aN (aa (du (pv 5) rfl) (aa (du (pv 5) rfl) (aa (du (pv 0) rfl) (aa (du (pv 0) rfl) ak aY) aY) aY) aY)))
    (az (bz (aH (xH T) (hr.mono (by decide)) (by rfl) T.yK T.uv.kp T.yM .nil aN (aa (du (pv 5) rfl) (aa (du (pv 5) rfl) (aa (du (pv 0) rfl) (aa (du (pv 0) rfl) ak aY) aY) aY) aY)))
    (aF (vN hr.u1 (du (pv 0) rfl) (du (pv 5) rfl) (pv 5) rfl))))))
   (az (bz (aH (ok_need_ends T) (hr.mono (by decide)) (by rfl) T.m_need_ends T.yR.kp T.b_need_ends .nil aN (aa (du (pv 0) rfl) (aa (du (pv 0) rfl) (aa (du (pv 0) rfl) ak aY) aY) aY)))
   (aF (bz (aH (ok_need_joined T) (hr.mono (by decide)) (by rfl) T.m_need_joined T.wu.kp T.b_need_joined .nil aN (aa (fC (pP rfl) (by rfl) T.n_list zr (aa (du (pv 0) rfl) ak aY)) (aa (du (pv 0) rfl) (aa (du (pv 0) rfl) ak aY) aY) aW))))))))))))),?_⟩
  have hl:sizeLine=16777216:=sizeLine_eq
  obtain⟨xs,hLl,aL⟩:=hH.ll
  obtain⟨ys,hLp,aP⟩:=hH.lp
  have lx:=aL.length
  have ly:=aP.length
  rcases hk with ⟨l1',p1',many,kE⟩ | ⟨hF,k⟩
  ·exact⟨_,rfl,_,rfl,Ll,Lp,_,_,rfl,hLl,hLp,by omega,by omega,.inr ⟨by omega,kE⟩⟩
  have l1:=hF.l1
  have l24:=hF.l24
  have p1:=hF.p1
  have p16:=hF.p16
  refine⟨_,rfl,_,rfl,Ll,Lp,_,_,rfl,hLl,hLp,by omega,by omega,.inl ⟨by omega,by omega,?_⟩⟩
  have T0:=Tr.start hn
  refine fun R nR=>?_
  have T1:=T0.new (o:=.dK []) nR
  have gR:=aC (o:=.dK []) nR
  generalize upd H R (.dK [])=H1 at T1 gR ⊢
  have cR:=T1.all (n,.ins t.bO dx []) (.head _)
  refine⟨_,rfl,n,_,dx,_,rfl,cR,T.dI,T.d7,Nat.lt_of_le_of_lt (show 0≤0 from Nat.le_refl 0) (by decide),?_⟩
  have T2:=T1.put (L1:=[]) (o':=.ins t.bO dx (bu "rooms" (.ref R) []))
  have wR:But n H1 (upd H1 n (.ins t.bO dx (bu "rooms" (.ref R) []))):=But.write
  generalize upd H1 n (.ins t.bO dx (bu "rooms" (.ref R) []))=H2 at T2 wR ⊢
  refine fun F nF=>?_
  have T3:=T2.new (o:=.dK []) nF
  have gF:=aC (o:=.dK []) nF
  generalize upd H2 F (.dK [])=H3 at T3 gF ⊢
  have cF:=T3.all (n,.ins t.bO dx (bu "rooms" (.ref R) [])) (.head _)
  refine⟨_,rfl,n,_,dx,_,rfl,cF,T.dI,T.nA,Nat.lt_of_le_of_lt (vQ (Nat.zero_le 0)) (by decide),?_⟩
  have T4:=T3.put (L1:=[]) (o':=.ins t.bO dx (bu "firsts" (.ref F) (bu "rooms" (.ref R) [])))
  have wF:But n H3 (upd H3 n (.ins t.bO dx (bu "firsts" (.ref F) (bu "rooms" (.ref R) [])))):=But.write
  generalize upd H3 n (.ins t.bO dx (bu "firsts" (.ref F) (bu "rooms" (.ref R) [])))=H4 at T4 wF ⊢
  have kb:∀{Hk:Hp} {q:Addr} {u:HO},But n H Hk→H q=some u→(∀C d f,u≠.ins C d f)→Hk q=some u:=fun b h hu=>b _ _ (wk h hn (by intro z;exact hu _ _ _ z)) h
  refine⟨_,rfl,Ll,rfl,⟨_,T4.but.seqL hn hLl⟩,oh (K:=K) (a:=Ll) (xs:=xs) (fun j σ H'=>(∃x3,σ=[some (.ref n),some (.ref Ll),some (.ref Lp),x3,none,none])∧∃FL:List (LaneD×Addr),FL.map (·.1)=ls.take j∧Tr H n [(n,.ins t.bO dx (bu "firsts" (.ref F) (bu "rooms" (.ref R) []))),(R,.dK (dq (ls.take j))),(F,.dK (fU FL))] H'∧∀q∈FL,SqT K H' q.2 (q.1.first.map V.int)) ⟨⟨none,rfl⟩,[],rfl,T4,by simp⟩ (fun j σ H' _ ⟨_,_,_,T',_⟩=>T'.but.seqL hn hLl) ?_ ?_⟩
  ·rintro j x σ H' hx ⟨⟨x3,rfl⟩,FL,eFL,T4,hS⟩
   obtain⟨l,hlj,q,f,rfl,hq,hf⟩:=aL.get hx
   have hm:=List.mem_of_getElem? hlj
   obtain⟨v1,v2,v3,v4⟩:=hF.lok l hm
   have hnm:=hF.lnm l hm
   have hj:=(List.getElem?_eq_some_iff.mp hlj).1
   have kq:∀{Hk:Hp},But n H Hk→Hk q=some (.tup [.str l.name,.int l.room,.ref f]):=fun b=>kb b hq (by intro _ _ _ z;cases z)
   have nin:=nodup_at hF.whole.nod hlj
   have vR:fJ (dq (ls.take j)) (Sum.inr l.name)=none:=uT (by rw [uZ];intro z;obtain⟨b,hb,e⟩:=List.mem_map.mp z;cases e;exact nin hb)
   have vF:fJ (fU FL) (Sum.inr l.name)=none:=uT (by rw [xO,eFL];intro z;obtain⟨b,hb,e⟩:=List.mem_map.mp z;cases e;exact nin hb)
   have tk:ls.take (j+1)=ls.take j ++ [l]:=by rw [List.take_succ,hlj];rfl
   have e4:=T4.all (n,.ins t.bO dx (bu "firsts" (.ref F) (bu "rooms" (.ref R) []))) (.head _)
   refine hideG fun De hD u hu=>?_
   refine⟨_,rfl,q,_,0,_,rfl,rfl,SqT.of (kq T4.but),aQ (j:=0) rfl,_,rfl,n,_,dx,_,_,rfl,e4,T.dI,T.d7,(by (repeat first | (rw [aM,if_pos rfl];done) | rw [aM,if_neg (by decide +kernel)])),.str l.name,R,rfl,.inr ⟨l.name,rfl,hnm,vM hnm,.inl ⟨_,T4.all (R,.dK (dq (ls.take j))) (by simp),vR,fun H5 s5=>?_⟩⟩⟩
   have T5:=T4.same s5
   refine dC (v:=u) hu fun u hu=>?_
   refine⟨_,rfl,q,_,0,_,rfl,rfl,SqT.of (kq T5.but),aQ (j:=0) rfl,_,rfl,q,_,1,_,rfl,rfl,SqT.of (kq T5.but),aQ (j:=1) rfl,_,rfl,q,_,2,_,rfl,rfl,SqT.of (kq T5.but),aQ (j:=2) rfl,.str l.name,l.room,f,l.first,rfl,T5.but.seqA hn hf,by omega,v4,v1,v3,v2,fun H6 s6=>?_⟩
   have T6:=T5.same s6
   have e6:=T6.all (n,.ins t.bO dx (bu "firsts" (.ref F) (bu "rooms" (.ref R) []))) (.head _)
   have eR6:=T6.all (R,.dK (dq (ls.take j))) (by simp)
   refine dC (v:=u) hu fun u hu=>?_
   refine⟨_,rfl,q,_,1,_,rfl,rfl,SqT.of (kq T6.but),aQ (j:=1) rfl,_,rfl,n,_,dx,_,_,rfl,e6,T.dI,T.d7,(by (repeat first | (rw [aM,if_pos rfl];done) | rw [aM,if_neg (by decide +kernel)])),_,rfl,q,_,0,_,rfl,rfl,SqT.of (kq T6.but),aQ (j:=0) rfl,R,_,rfl,DPut.k (k:=Sum.inr l.name) eR6 (by unfold dq;rw [lM,List.length_take];omega),?_⟩
   have e7:putK (dq (ls.take j)) (Sum.inr l.name) (.int l.room)=dq (ls.take (j+1)):=by rw [xF _ vR,tk];unfold dq;rw [List.map_append];rfl
   have T7:=T6.put (L1:=[_]) (o':=.dK (dq (ls.take (j+1))))
   rw [e7]
   have hS7:∀q∈FL,SqT K (upd H6 R (.dK (dq (ls.take (j+1))))) q.2 (q.1.first.map V.int):=fun q hq=>fQ eR6 (s6.seqT (s5.seqT (hS q hq)))
   generalize upd H6 R (.dK (dq (ls.take (j+1))))=H7 at T7 hS7 ⊢
   subst hu
   refine⟨_,rfl,q,_,2,_,rfl,rfl,SqT.of (kq T7.but),aQ (j:=2) rfl,f,_,rfl,T7.but.seqA hn hf,fun H8 F0 s8 t8=>?_⟩
   have T8:=T7.same s8
   have e8:=T8.all (n,.ins t.bO dx (bu "firsts" (.ref F) (bu "rooms" (.ref R) []))) (.head _)
   have eF8:=T8.all (F,.dK (fU FL)) (by simp)
   have lFL:FL.length≤24:=by have:=congrArg List.length eFL;rw [lM,List.length_take] at this;omega
   refine⟨_,rfl,n,_,dx,_,_,rfl,e8,T.dI,T.nA,(by (repeat first | (rw [aM,if_pos rfl];done) | rw [aM,if_neg (by decide +kernel)])),_,rfl,q,_,0,_,rfl,rfl,SqT.of (kq T8.but),aQ (j:=0) rfl,F,_,rfl,DPut.k (k:=Sum.inr l.name) eF8 (by unfold fU;rw [lM];omega),?_⟩
   have e9:putK (fU FL) (Sum.inr l.name) (.ref F0)=fU (FL ++ [(l,F0)]):=by rw [xF _ vF];unfold fU;rw [List.map_append];rfl
   have T9:=T8.put (L1:=[_,_]) (o':=.dK (fU (FL ++ [(l,F0)])))
   rw [e9]
   subst hD
   refine⟨⟨_,rfl⟩,FL ++ [(l,F0)],by rw [List.map_append,eFL,tk];rfl,T9,fun q hq=>?_⟩
   rcases List.mem_append.mp hq with h | h
   ·exact fQ eF8 (s8.seqT (hS7 q h))
   ·rw [List.mem_singleton] at h
    subst h
    exact fQ eF8 t8
  rintro σ H9 ⟨⟨x3,rfl⟩,FL,eFL,T9,t9⟩
  rw [lx,List.take_length] at eFL T9
  clear T0 T1 T2 T3 T4
  refine fun Pd nPd=>?_
  have T10:=T9.new (o:=.dK []) nPd
  have gPd:=aC (o:=.dK []) nPd
  generalize upd H9 Pd (.dK [])=H10 at T10 gPd ⊢
  have cPd:=T10.all (n,.ins t.bO dx (bu "firsts" (.ref F) (bu "rooms" (.ref R) []))) (.head _)
  refine⟨_,rfl,n,_,dx,_,rfl,cPd,T.dI,T.gC,Nat.lt_of_le_of_lt (vQ (vQ (Nat.zero_le 0))) (by decide),?_⟩
  have T11:=T10.put (L1:=[]) (o':=.ins t.bO dx (bu "parts" (.ref Pd) (bu "firsts" (.ref F) (bu "rooms" (.ref R) []))))
  have wPd:But n H10 (upd H10 n (.ins t.bO dx (bu "parts" (.ref Pd) (bu "firsts" (.ref F) (bu "rooms" (.ref R) []))))):=But.write
  generalize upd H10 n (.ins t.bO dx (bu "parts" (.ref Pd) (bu "firsts" (.ref F) (bu "rooms" (.ref R) []))))=H11 at T11 wPd ⊢
  refine fun Gv nGv=>?_
  have T12:=T11.new (o:=.dK []) nGv
  have gGv:=aC (o:=.dK []) nGv
  generalize upd H11 Gv (.dK [])=H12 at T12 gGv ⊢
  have cGv:=T12.all (n,.ins t.bO dx (bu "parts" (.ref Pd) (bu "firsts" (.ref F) (bu "rooms" (.ref R) [])))) (.head _)
  refine⟨_,rfl,n,_,dx,_,rfl,cGv,T.dI,T.nG,Nat.lt_of_le_of_lt (vQ (vQ (vQ (Nat.zero_le 0)))) (by decide),?_⟩
  have T13:=T12.put (L1:=[]) (o':=.ins t.bO dx (bu "givers" (.ref Gv) (bu "parts" (.ref Pd) (bu "firsts" (.ref F) (bu "rooms" (.ref R) [])))))
  have wGv:But n H12 (upd H12 n (.ins t.bO dx (bu "givers" (.ref Gv) (bu "parts" (.ref Pd) (bu "firsts" (.ref F) (bu "rooms" (.ref R) [])))))):=But.write
  generalize upd H12 n (.ins t.bO dx (bu "givers" (.ref Gv) (bu "parts" (.ref Pd) (bu "firsts" (.ref F) (bu "rooms" (.ref R) [])))))=H13 at T13 wGv ⊢
  refine fun Tk nTk=>?_
  have T14:=T13.new (o:=.dK []) nTk
  have gTk:=aC (o:=.dK []) nTk
  generalize upd H13 Tk (.dK [])=H14 at T14 gTk ⊢
  have cTk:=T14.all (n,.ins t.bO dx (bu "givers" (.ref Gv) (bu "parts" (.ref Pd) (bu "firsts" (.ref F) (bu "rooms" (.ref R) []))))) (.head _)
  refine⟨_,rfl,n,_,dx,_,rfl,cTk,T.dI,T.nQ,Nat.lt_of_le_of_lt (vQ (vQ (vQ (vQ (Nat.zero_le 0))))) (by decide),?_⟩
  have T15:=T14.put (L1:=[]) (o':=.ins t.bO dx (bu "takers" (.ref Tk) (bu "givers" (.ref Gv) (bu "parts" (.ref Pd) (bu "firsts" (.ref F) (bu "rooms" (.ref R) []))))))
  have wTk:But n H14 (upd H14 n (.ins t.bO dx (bu "takers" (.ref Tk) (bu "givers" (.ref Gv) (bu "parts" (.ref Pd) (bu "firsts" (.ref F) (bu "rooms" (.ref R) []))))))):=But.write
  generalize upd H14 n (.ins t.bO dx (bu "takers" (.ref Tk) (bu "givers" (.ref Gv) (bu "parts" (.ref Pd) (bu "firsts" (.ref F) (bu "rooms" (.ref R) []))))))=H15 at T15 wTk ⊢
  have T15:Tr H n [(n,.ins t.bO dx (bu "takers" (.ref Tk) (bu "givers" (.ref Gv) (bu "parts" (.ref Pd) (bu "firsts" (.ref F) (bu "rooms" (.ref R) [])))))),(R,.dK (dq ls)),(F,.dK (fU FL)),(Pd,.dK []),(Gv,.dK []),(Tk,.dK [])] H15:=T15
  have t15:∀q∈FL,SqT K H15 q.2 (q.1.first.map V.int):=fun q hq=>wTk.seqT cTk (gTk.seqT (wGv.seqT cGv (gGv.seqT (wPd.seqT cPd (gPd.seqT (t9 q hq))))))
  have nod:=T15.nod
  simp only [List.map_append,List.map_cons,List.map_nil,List.nil_append,List.cons_append,List.nodup_cons,List.mem_cons,List.not_mem_nil,or_false,not_or] at nod
  have nRF:R≠F:=nod.2.1.1
  have nRT:R≠Tk:=nod.2.1.2.2.2
  have nRG:R≠Gv:=nod.2.1.2.2.1
  have nGT:Gv≠Tk:=nod.2.2.2.2.1
  clear nod
  have ono:(ps.flatMap (·.outs)).Nodup:=hF.whole.outs.nodup_iff.mpr hF.whole.nod
  have ini:(ps.flatMap (·.ins)).Nodup:=hF.whole.ins.nodup_iff.mpr hF.whole.nod
  have inR:∀z∈ls.map (·.name),(fJ (dq ls) (Sum.inr z)).isSome=true:=fun z hz=>by
   obtain⟨l,hl,rfl⟩:=List.mem_map.mp hz
   have e:fJ (dq ls) (Sum.inr l.name)=some (.int l.room):=vD (by rw [uZ];exact qZ hF.whole.nod) (List.mem_map.mpr ⟨l,hl,rfl⟩)
   rw [e]
   rfl
  have lenE:∀(f:PD→List Str) (j:Nat),(ps.flatMap f).Perm (ls.map (·.name))→(dg f (ps.take j)).length≤24:=fun f j pm=>by
   rw [endsK_len]
   have e1:((ps.take j).flatMap f).length+((ps.drop j).flatMap f).length=(ps.flatMap f).length:=by rw [←lP,←List.flatMap_append,List.take_append_drop]
   have e2:=pm.length_eq
   rw [lM] at e2
   omega
  refine⟨_,rfl,Lp,rfl,⟨_,T15.but.seqL hn hLp⟩,oh (K:=K) (a:=Lp) (xs:=ys) (fun j σ H'=>(∃x3 x4 x5,σ=[some (.ref n),some (.ref Ll),some (.ref Lp),x3,x4,x5])∧∃PL:List (PD×Addr),PL.map (·.1)=ps.take j∧Tr H n [(n,.ins t.bO dx (bu "takers" (.ref Tk) (bu "givers" (.ref Gv) (bu "parts" (.ref Pd) (bu "firsts" (.ref F) (bu "rooms" (.ref R) [])))))),(R,.dK (dq ls)),(F,.dK (fU FL)),(Pd,.dK (dU PL)),(Gv,.dK (dg (·.outs) (ps.take j))),(Tk,.dK (dg (·.ins) (ps.take j)))] H'∧(∀q∈FL,SqT K H' q.2 (q.1.first.map V.int))∧∀q∈PL,PartAt K t H' q.2 q.1.kind (.str q.1.name) (q.1.nums.map V.int) (q.1.ins.map V.str) (q.1.outs.map V.str)) ⟨⟨x3,none,none,rfl⟩,[],rfl,T15,t15,by simp⟩ (fun j σ H' _ ⟨_,_,_,T',_⟩=>T'.but.seqL hn hLp) ?_ ?_⟩
  ·rintro j x σ H' hx ⟨⟨x3,x4,x5,rfl⟩,PL,ePL,T15,hS,hP⟩
   obtain⟨p,hpj,r,a1,a2,a3,rfl,hr,q1,q2,q3⟩:=aP.get hx
   have hm:=List.mem_of_getElem? hpj
   have hj:=(List.getElem?_eq_some_iff.mp hpj).1
   obtain⟨o1,o2,o3,o4,o5⟩:=hF.pok p hm
   have hnm:=hF.pnm p hm
   have nin:=nodup_at hF.pnd hpj
   have tk:ps.take (j+1)=ps.take j ++ [p]:=by rw [List.take_succ,hpj];rfl
   have vP:fJ (dU PL) (Sum.inr p.name)=none:=uT (by rw [yO,ePL];intro z;obtain⟨b,hb,e⟩:=List.mem_map.mp z;cases e;exact nin hb)
   obtain⟨di,fi⟩:=flat_at ini hpj
   obtain⟨do',fo⟩:=flat_at ono hpj
   have e15:=T15.all (n,.ins t.bO dx (bu "takers" (.ref Tk) (bu "givers" (.ref Gv) (bu "parts" (.ref Pd) (bu "firsts" (.ref F) (bu "rooms" (.ref R) [])))))) (.head _)
   refine hideG fun De hD u hu=>?_
   refine⟨_,rfl,_,rfl,n,_,dx,_,_,rfl,e15,T.dI,T.gC,(by (repeat first | (rw [aM,if_pos rfl];done) | rw [aM,if_neg (by decide +kernel)])),p.kind,p.name,r,Pd,a1,a2,a3,_,_,_,_,rfl,kb T15.but hr (by intro _ _ _ z;cases z),by omega,T15.all (Pd,.dK (dU PL)) (by simp),hnm,vM hnm,vP,T15.but.seqA hn q1,T15.but.seqA hn q2,T15.but.seqA hn q3,by rw [lM];exact o2,by rw [lM];exact o3,by rw [lM];exact o4,?_,fun H16 pp s16 npp Pp=>?_⟩
   ·intro v hv
    obtain⟨i,hi,rfl⟩:=List.mem_map.mp hv
    exact⟨i,rfl,(o5 i hi).1,(o5 i hi).2⟩
   have T16:=T15.same s16
   obtain⟨dxp,tn,ti,to,z1,z2,z3,z4⟩:=id Pp.ex
   have e16:=T16.all (n,.ins t.bO dx (bu "takers" (.ref Tk) (bu "givers" (.ref Gv) (bu "parts" (.ref Pd) (bu "firsts" (.ref F) (bu "rooms" (.ref R) [])))))) (.head _)
   have eTk:=T16.all (Tk,.dK (dg (·.ins) (ps.take j))) (by simp)
   have li:=lenE (·.ins) j hF.whole.ins
   have lo:=lenE (·.outs) j hF.whole.outs
   have h3I:p.ins.length≤3:=by rw [o3];exact cI_le _
   have h3O:p.outs.length≤2:=by rw [o4];exact cO_le _
   refine dC (v:=u) hu fun u hu=>?_
   refine⟨_,rfl,pp,_,dxp,_,_,rfl,z1,mR T p.kind,xK T p.kind,vH _ _ _ _,_,rfl,pp,_,dxp,_,_,rfl,z1,mR T p.kind,na_ins T p.kind,flds_ins _ _ _ _,_,rfl,n,_,dx,_,_,rfl,e16,T.dI,T.d7,(by (repeat first | (rw [aM,if_pos rfl];done) | rw [aM,if_neg (by decide +kernel)])),_,rfl,n,_,dx,_,_,rfl,e16,T.dI,T.nQ,(by (repeat first | (rw [aM,if_pos rfl];done) | rw [aM,if_neg (by decide +kernel)])),p.name,ti,R,Tk,p.ins,_,_,rfl,z3,T16.all (R,.dK (dq ls)) (by simp),nRT,eTk,di,fun z hz=>⟨inR z (hF.whole.ins.mem_iff.mp (List.mem_flatMap.mpr ⟨p,hm,hz⟩)),zK (fi z hz)⟩,by omega,?_⟩
   rw [←zJ (·.ins) (ps.take j) p,←tk]
   have T17:=T16.put (L1:=[_,_,_,_,_]) (o':=.dK (dg (·.ins) (ps.take (j+1))))
   have Pp17:=Pp.chill (v:=.dK (dg (·.ins) (ps.take (j+1)))) eTk
   have hS17:∀q∈FL,SqT K (upd H16 Tk (.dK (dg (·.ins) (ps.take (j+1))))) q.2 (q.1.first.map V.int):=fun q hq=>fQ eTk (s16.seqT (hS q hq))
   have hP17:∀q∈PL,PartAt K t (upd H16 Tk (.dK (dg (·.ins) (ps.take (j+1))))) q.2 q.1.kind (.str q.1.name) (q.1.nums.map V.int) (q.1.ins.map V.str) (q.1.outs.map V.str):=fun q hq=>((hP q hq).same s16).chill eTk
   generalize upd H16 Tk (.dK (dg (·.ins) (ps.take (j+1))))=H17 at T17 Pp17 hS17 hP17 ⊢
   clear z1 z2 z3 z4 e16
   obtain⟨dxp,tn,ti,to,z1,z2,z3,z4⟩:=id Pp17.ex
   have e17:=T17.all (n,.ins t.bO dx (bu "takers" (.ref Tk) (bu "givers" (.ref Gv) (bu "parts" (.ref Pd) (bu "firsts" (.ref F) (bu "rooms" (.ref R) [])))))) (.head _)
   have eGv:=T17.all (Gv,.dK (dg (·.outs) (ps.take j))) (by simp)
   refine dC (v:=u) hu fun u hu=>?_
   refine⟨_,rfl,pp,_,dxp,_,_,rfl,z1,mR T p.kind,xK T p.kind,vH _ _ _ _,_,rfl,pp,_,dxp,_,_,rfl,z1,mR T p.kind,na_outs T p.kind,flds_outs _ _ _ _,_,rfl,n,_,dx,_,_,rfl,e17,T.dI,T.d7,(by (repeat first | (rw [aM,if_pos rfl];done) | rw [aM,if_neg (by decide +kernel)])),_,rfl,n,_,dx,_,_,rfl,e17,T.dI,T.nG,(by (repeat first | (rw [aM,if_pos rfl];done) | rw [aM,if_neg (by decide +kernel)])),p.name,to,R,Gv,p.outs,_,_,rfl,z4,T17.all (R,.dK (dq ls)) (by simp),nRG,eGv,do',fun z hz=>⟨inR z (hF.whole.outs.mem_iff.mp (List.mem_flatMap.mpr ⟨p,hm,hz⟩)),zK (fo z hz)⟩,by omega,?_⟩
   rw [←zJ (·.outs) (ps.take j) p,←tk]
   have T18:=T17.put (L1:=[_,_,_,_]) (o':=.dK (dg (·.outs) (ps.take (j+1))))
   have Pp18:=Pp17.chill (v:=.dK (dg (·.outs) (ps.take (j+1)))) eGv
   have hS18:∀q∈FL,SqT K (upd H17 Gv (.dK (dg (·.outs) (ps.take (j+1))))) q.2 (q.1.first.map V.int):=fun q hq=>fQ eGv (hS17 q hq)
   have hP18:∀q∈PL,PartAt K t (upd H17 Gv (.dK (dg (·.outs) (ps.take (j+1))))) q.2 q.1.kind (.str q.1.name) (q.1.nums.map V.int) (q.1.ins.map V.str) (q.1.outs.map V.str):=fun q hq=>(hP17 q hq).chill eGv
   generalize upd H17 Gv (.dK (dg (·.outs) (ps.take (j+1))))=H18 at T18 Pp18 hS18 hP18 ⊢
   clear z1 z2 z3 z4 e17
   obtain⟨dxp,tn,ti,to,z1,z2,z3,z4⟩:=id Pp18.ex
   have e18:=T18.all (n,.ins t.bO dx (bu "takers" (.ref Tk) (bu "givers" (.ref Gv) (bu "parts" (.ref Pd) (bu "firsts" (.ref F) (bu "rooms" (.ref R) [])))))) (.head _)
   have ePd:=T18.all (Pd,.dK (dU PL)) (by simp)
   have lPL:PL.length≤16:=by have:=congrArg List.length ePL;rw [lM,List.length_take] at this;omega
   subst hu
   refine⟨_,rfl,_,rfl,n,_,dx,_,_,rfl,e18,T.dI,T.gC,(by (repeat first | (rw [aM,if_pos rfl];done) | rw [aM,if_neg (by decide +kernel)])),_,rfl,pp,_,dxp,_,_,rfl,z1,mR T p.kind,xK T p.kind,vH _ _ _ _,Pd,_,rfl,DPut.k (k:=Sum.inr p.name) ePd (by unfold dU;rw [lM];omega),?_⟩
   have e19:putK (dU PL) (Sum.inr p.name) (.ref pp)=dU (PL ++ [(p,pp)]):=by rw [xF _ vP];unfold dU;rw [List.map_append];rfl
   have T19:=T18.put (L1:=[_,_,_]) (o':=.dK (dU (PL ++ [(p,pp)])))
   rw [e19]
   subst hD
   refine⟨⟨_,_,_,rfl⟩,PL ++ [(p,pp)],by rw [List.map_append,ePL,tk];rfl,T19,fun q hq=>fQ ePd (hS18 q hq),fun q hq=>?_⟩
   rcases List.mem_append.mp hq with h | h
   ·exact(hP18 q h).chill ePd
   ·rw [List.mem_singleton] at h
    subst h
    exact Pp18.chill ePd
  rintro σ H18 ⟨⟨x3,x4,x5,rfl⟩,PL,ePL,T18,hS,hP⟩
  rw [ly,List.take_length] at ePL T18
  have e18:=T18.all (n,.ins t.bO dx (bu "takers" (.ref Tk) (bu "givers" (.ref Gv) (bu "parts" (.ref Pd) (bu "firsts" (.ref F) (bu "rooms" (.ref R) [])))))) (.head _)
  have eR:=T18.all (R,.dK (dq ls)) (by simp)
  have eF:=T18.all (F,.dK (fU FL)) (by simp)
  have ePd:=T18.all (Pd,.dK (dU PL)) (by simp)
  have eGv:=T18.all (Gv,.dK (dg (·.outs) ps)) (by simp)
  have eTk:=T18.all (Tk,.dK (dg (·.ins) ps)) (by simp)
  refine⟨_,rfl,n,_,dx,_,_,rfl,e18,T.dI,T.d7,(by (repeat first | (rw [aM,if_pos rfl];done) | rw [aM,if_neg (by decide +kernel)])),_,rfl,n,_,dx,_,_,rfl,e18,T.dI,T.nG,(by (repeat first | (rw [aM,if_pos rfl];done) | rw [aM,if_neg (by decide +kernel)])),_,rfl,n,_,dx,_,_,rfl,e18,T.dI,T.nQ,(by (repeat first | (rw [aM,if_pos rfl];done) | rw [aM,if_neg (by decide +kernel)])),R,Gv,Tk,_,_,_,rfl,eR,eGv,eTk,nRG,nRT,?_,?_⟩
  ·intro q hq
   obtain⟨l,hl,rfl⟩:=List.mem_map.mp hq
   have hln:l.name∈ls.map (·.name):=List.mem_map.mpr ⟨l,hl,rfl⟩
   obtain⟨pa,ha,la⟩:=List.mem_flatMap.mp (hF.whole.outs.mem_iff.mpr hln)
   obtain⟨pb,hb,lb⟩:=List.mem_flatMap.mp (hF.whole.ins.mem_iff.mpr hln)
   exact⟨by rw [iT ono ha la];rfl,by rw [iT ini hb lb];rfl⟩
  refine⟨_,rfl,n,_,dx,_,_,rfl,e18,T.dI,T.gC,(by (repeat first | (rw [aM,if_pos rfl];done) | rw [aM,if_neg (by decide +kernel)])),Pd,_,rfl,.inl ePd,fun l nl=>?_⟩
  have s19:=aC (o:=.lst ((dU PL).map fun p=>kV p.1)) nl
  have eL:(dU PL).map (fun p=>kV p.1)=ps.map fun p=>V.str p.name:=by unfold dU;rw [List.map_map,←ePL,List.map_map];rfl
  refine⟨_,rfl,n,_,dx,_,_,rfl,(s19 _ _ e18),T.dI,T.nG,(by (repeat first | (rw [aM,if_pos rfl];done) | rw [aM,if_neg (by decide +kernel)])),_,rfl,n,_,dx,_,_,rfl,(s19 _ _ e18),T.dI,T.nQ,(by (repeat first | (rw [aM,if_pos rfl];done) | rw [aM,if_neg (by decide +kernel)])),l,Gv,Tk,ps,rfl,SqL.of (by rw [←eL];exact aq),by omega,by omega,s19 _ _ eGv,s19 _ _ eTk,nGT,ono,ini,hF.whole.outs.trans hF.whole.ins.symm,hF.whole.hang,fun H20 s20=>?_⟩
  have s:=s19.trans s20
  refine k _ (fun b u hb e=>s _ _ (T18.but b u hb e)) ⟨dx,_,R,F,Pd,Gv,Tk,FL,PL,s _ _ e18,⟨?_,?_⟩,s _ _ eR,s _ _ eF,s _ _ ePd,s _ _ eGv,s _ _ eTk,eFL,ePL,fun q hq=>s.seqT (hS q hq),fun q hq=>(hP q hq).same s,hF,nRF⟩
  ·intro q hq
   simp only [List.mem_cons,List.not_mem_nil,or_false] at hq
   rcases hq with rfl | rfl | rfl | rfl | rfl <;> (dsimp only;(repeat first | (rw [aM,if_pos rfl];done) | rw [aM,if_neg (by decide +kernel)]))
  ·intro m hm
   have hne:∀m∈(["lane_names", "part_names", "need_lane_name", "room_of", "first_of", "told", "__init__"]:List Str),∀g∈(["takers", "givers", "parts", "firsts", "rooms"]:List Str),¬m=g:=by decide +kernel
   have h:=hne m hm
   rw [aM,if_neg (h _ (by simp)),aM,if_neg (h _ (by simp)),aM,if_neg (h _ (by simp)),aM,if_neg (h _ (by simp)),aM,if_neg (h _ (by simp))]
   rfl
def qb (x fresh y:Str):Str:=if y=x then fresh else y
def yC (x fresh:Str) (p:PD):PD:={ p with ins:=p.ins.map (qb x fresh) }
def kj (x slot fresh:Str) (ps:List PD):List PD:=ps.map (yC x fresh) ++ [⟨2,slot,[],[x],[fresh]⟩]
theorem sub_perm {x fresh:Str}:∀{ns:List Str},ns.Nodup→x∈ns→(ns.map (qb x fresh) ++ [x]).Perm (ns ++ [fresh])
 | a:: r,nd,h=>by
  rw [List.nodup_cons] at nd
  rw [List.map_cons]
  by_cases e:a=x
  ·subst e
   have hr:r.map (qb a fresh)=r:=by
    have:r.map (qb a fresh)=r.map id:=List.map_congr_left fun y hy=>if_neg fun z=>nd.1 (by rw [←z];exact hy)
    rw [this,List.map_id]
   rw [hr,show qb a fresh a=fresh from if_pos rfl]
   have p1:(fresh:: r ++ [a]).Perm (a:: (fresh:: r)):=List.perm_append_comm (l₁:=fresh:: r) (l₂:=[a])
   have p2:(a:: (fresh:: r)).Perm (a:: (r ++ [fresh])):=List.Perm.cons a (List.perm_append_comm (l₁:=[fresh]) (l₂:=r))
   exact p1.trans p2
  ·rw [show qb x fresh a=a from if_neg e]
   exact List.Perm.cons a (sub_perm nd.2 ((List.mem_cons.mp h).resolve_left fun z=>e z.symm))
theorem slot_outs (x slot fresh:Str) (ps:List PD):(kj x slot fresh ps).flatMap (·.outs)=ps.flatMap (·.outs) ++ [fresh]:=by
 unfold kj
 rw [List.flatMap_append]
 congr 1
 induction ps with
 | nil=>rfl
 | cons p r ih=>rw [List.map_cons,List.flatMap_cons,List.flatMap_cons,ih];rfl
theorem slot_ins (x slot fresh:Str) (ps:List PD):(kj x slot fresh ps).flatMap (·.ins)=(ps.flatMap (·.ins)).map (qb x fresh) ++ [x]:=by
 unfold kj
 rw [List.flatMap_append]
 congr 1
 induction ps with
 | nil=>rfl
 | cons p r ih=>rw [List.map_cons,List.flatMap_cons,List.flatMap_cons,ih,List.map_append];rfl
theorem slot_conn {x slot fresh:Str} {ps:List PD} {a b:Str} (c:Drawn.Conn ps a b):Drawn.Conn (kj x slot fresh ps) a b:=by
 have hx:Drawn.Conn (kj x slot fresh ps) x fresh:=Drawn.Conn.part (p:=⟨2,slot,[],[x],[fresh]⟩) (List.mem_append.mpr (.inr (by simp))) (by simp) (by simp)
 have key:∀p∈ps,∀y∈p.ins ++ p.outs,∃z∈(yC x fresh p).ins ++ (yC x fresh p).outs,Drawn.Conn (kj x slot fresh ps) y z:=fun p hp y hy=>by
  rcases List.mem_append.mp hy with h | h
  ·refine⟨qb x fresh y,List.mem_append.mpr (.inl (List.mem_map.mpr ⟨y,h,rfl⟩)),?_⟩
   unfold qb
   split
   ·rename_i e;rw [e];exact hx
   ·exact .refl _
  ·exact⟨y,List.mem_append.mpr (.inr h),.refl _⟩
 induction c with
 | refl x=>exact .refl _
 | step hp h1 h2 _ ih=>
  rename_i p0 _
  obtain⟨z1,m1,c1⟩:=key _ hp _ h1
  obtain⟨z2,m2,c2⟩:=key _ hp _ h2
  exact c1.trans ((Drawn.Conn.part (List.mem_append.mpr (.inl (List.mem_map.mpr ⟨_,hp,rfl⟩))) m1 m2).trans (c2.symm.trans ih))
theorem Whole.slot {ns:List Str} {ps:List PD} (w:Whole ns ps) {x slot fresh:Str} (hx:x∈ns) (hf:fresh∉ns):Whole (ns ++ [fresh]) (kj x slot fresh ps):=by
 obtain⟨y,hy⟩:=w.hang
 refine⟨?_,?_,?_,y,fun q hq=>?_⟩
 ·rw [List.nodup_append]
  exact⟨w.nod,by simp,fun a ha b hb e=>hf (by rw [List.mem_singleton] at hb;rw [←hb,←e];exact ha)⟩
 ·rw [slot_outs]
  exact w.outs.append_right _
 ·rw [slot_ins]
  exact((w.ins.map _).append_right _).trans (sub_perm w.nod hx)
 ·rcases List.mem_append.mp hq with h | h
  ·obtain⟨p,hp,rfl⟩:=List.mem_map.mp h
   obtain⟨z,hz,c⟩:=hy p hp
   have c2:=slot_conn (x:=x) (slot:=slot) (fresh:=fresh) c
   rcases List.mem_append.mp hz with h1 | h1
   ·by_cases e:z=x
    ·refine⟨fresh,List.mem_append.mpr (.inl (List.mem_map.mpr ⟨z,h1,if_pos e⟩)),?_⟩
     rw [e] at c2
     exact(Drawn.Conn.part (p:=⟨2,slot,[],[x],[fresh]⟩) (List.mem_append.mpr (.inr (by simp))) (by simp) (by simp)).trans c2
    ·exact⟨z,List.mem_append.mpr (.inl (List.mem_map.mpr ⟨z,h1,if_neg e⟩)),c2⟩
   ·exact⟨z,List.mem_append.mpr (.inr h1),c2⟩
  ·rw [List.mem_singleton] at h
   subst h
   obtain⟨p,hp,h1⟩:=List.mem_flatMap.mp (w.outs.mem_iff.mpr hx)
   obtain⟨z,hz,c⟩:=hy p hp
   have c2:=slot_conn (x:=x) (slot:=slot) (fresh:=fresh) ((Drawn.Conn.part hp (List.mem_append.mpr (.inr h1)) hz).trans c)
   exact⟨x,by simp,c2⟩
def qO (x:Str) (l:LaneD):LaneD:=if l.name=x then⟨l.name,l.room,[]⟩ else l
def qY (x fresh:Str) (l0:LaneD) (ls:List LaneD):List LaneD:=ls.map (qO x) ++ [⟨fresh,l0.room,l0.first⟩]
theorem yE (x:Str) (l:LaneD):(qO x l).name=l.name:=by unfold qO;split <;> rfl
theorem slotL_names (x fresh:Str) (l0:LaneD) (ls:List LaneD):(qY x fresh l0 ls).map (·.name)=ls.map (·.name) ++ [fresh]:=by
 unfold qY
 rw [List.map_append,List.map_map]
 congr 1
 exact List.map_congr_left fun l _=>yE x l
theorem slotP_names (x slot fresh:Str) (ps:List PD):(kj x slot fresh ps).map (·.name)=ps.map (·.name) ++ [slot]:=by
 unfold kj
 rw [List.map_append,List.map_map]
 rfl
theorem Fit.slot {ls:List LaneD} {ps:List PD} (F:Fit ls ps) {l0:LaneD} (hl:l0∈ls) {slot fresh:Str} (hs:nameB slot=true) (hf:nameB fresh=true) (ns:slot∉ps.map (·.name)) (nf:fresh∉ls.map (·.name)) (c1:ls.length≤23) (c2:ps.length≤15):Fit (qY l0.name fresh l0 ls) (kj l0.name slot fresh ps):=by
 refine⟨fun l h=>?_,fun p h=>?_,fun l h=>?_,fun p h=>?_,?_,?_,?_,?_,?_,?_⟩
 ·rcases List.mem_append.mp h with h | h
  ·obtain⟨m,hm,rfl⟩:=List.mem_map.mp h
   obtain⟨r1,r2,r3,r4⟩:=F.lok m hm
   unfold qO
   split
   ·exact⟨r1,r2,by show((0:Nat):Int)≤m.room;omega,by simp⟩
   ·exact⟨r1,r2,r3,r4⟩
  ·rw [List.mem_singleton] at h
   subst h
   exact F.lok l0 hl
 ·rcases List.mem_append.mp h with h | h
  ·obtain⟨q,hq,rfl⟩:=List.mem_map.mp h
   obtain⟨o1,o2,o3,o4,o5⟩:=F.pok q hq
   exact⟨o1,o2,by show(q.ins.map _).length=_;rw [lM];exact o3,o4,o5⟩
  ·rw [List.mem_singleton] at h
   subst h
   exact⟨by show 2 <11;omega,rfl,rfl,rfl,by simp⟩
 ·rcases List.mem_append.mp h with h | h
  ·obtain⟨m,hm,rfl⟩:=List.mem_map.mp h
   rw [yE]
   exact F.lnm m hm
  ·rw [List.mem_singleton] at h
   subst h
   exact hf
 ·rcases List.mem_append.mp h with h | h
  ·obtain⟨q,hq,rfl⟩:=List.mem_map.mp h
   exact F.pnm q hq
  ·rw [List.mem_singleton] at h
   subst h
   exact hs
 ·rw [slotP_names,List.nodup_append]
  exact⟨F.pnd,by simp,fun a ha b hb e=>ns (by rw [List.mem_singleton] at hb;rw [←hb,←e];exact ha)⟩
 ·rw [slotL_names]
  exact F.whole.slot (List.mem_map.mpr ⟨l0,hl,rfl⟩) nf
 ·unfold qY;rw [lP];simp
 ·unfold qY;rw [lP,lM,List.length_singleton];omega
 ·unfold kj;rw [lP];simp
 ·unfold kj;rw [lP,lM,List.length_singleton];omega
def sp_part_led (K:PySem.W.Frag):Sp:=fun vs H Q _=>∃(q:Addr) (p:PD) (x f:Str),vs=[.ref q,.str x,.str f]∧RowT K H (.ref q) p∧p.ins.length≤3∧∀H' q',aO H H'→RowH K H' (.ref q') (yC x f p)→Q (.ref q') H'
theorem sc_part_led:FnScope ["part", "lane", "fresh", "ins"] ["part", "lane", "fresh"] (aA lD):=⟨rfl,rfl,rfl,by decide +kernel,rfl,by decide +kernel,by decide +kernel⟩
theorem ok_part_led (T:Txt w K mg t):FnOk P w K mg base CX0 1 t.wY t.vo ["part", "lane", "fresh"] (sp_part_led K):=by
 have sc:=sc_part_led
 refine T.Ai.ok sc (fun vs H Q E h=>?_) (fun cdv A outer s H vs Q E hr h=>?_)
 ·obtain⟨q,p,x,f,rfl,_⟩:=h
  rfl
 ·obtain⟨q,p,x,f,rfl,hR,h3,k⟩:=h
  refine⟨_,(az (nU (i:=3) [1,2] ["part", "lane", "fresh", "ins"] (aA lD) rfl sc.nd rfl (pi_tup (bG dW (pv 0) au (fun _ _=>rfl))) (fun _ _ _ _ _=>fW) (fun _ _ _ _ _=>(pe_ifExp (bC gJ (pv 0) (pv 1) (bW _)) (pv 2) (pv 0))))
   (aF (bA (cM (aa (bG dW (pv 0) au (fun _ _=>rfl)) (aa (bG dW (pv 0) au (fun _ _=>rfl)) (aa (bG dW (pv 0) au (fun _ _=>rfl)) (aa (pv 3) (aa (bG dW (pv 0) au (fun _ _=>rfl)) ak aJ) aj) aJ) aJ) aJ))))),?_⟩
  have hz:sizeLine=16777216:=sizeLine_eq
  obtain⟨q0,a1,a2,a3,e0,eq,h1,h2,h4⟩:=hR
  cases e0
  refine⟨_,rfl,q,_,3,_,rfl,rfl,SqT.of eq,aQ (j:=3) rfl,a2,rfl,⟨_,h2⟩,?_⟩
  refine comp_tup (K:=K) (a:=a2) (xs:=p.ins.map V.str) (fun i ys H2=>H2=H∧ys=((p.ins.take i).map (qb x f)).map V.str) (by rw [lM];omega) ⟨rfl,rfl⟩ (fun i ys H2 ⟨_,e⟩=>by rw [e,lM,lM,List.length_take];omega) (fun i ys H2 _ ⟨e,_⟩=>by rw [e];exact h2) ?_ ?_
  ·rintro i y ys H2 hy ⟨e2,rfl⟩
   subst e2
   rw [List.getElem?_map] at hy
   obtain⟨z,hz',rfl⟩:=Option.map_eq_some_iff.mp hy
   rw [List.take_succ,hz',Option.toList_some,List.map_append,List.map_append]
   refine yes ⟨_,rfl,_,rfl,rfl,_,rfl,?_⟩
   by_cases e:z=x
   ·refine tG (by rw [e]) ⟨_,rfl,rfl,?_⟩
    rw [List.map_singleton,show qb x f z=f from if_pos e]
    rfl
   ·refine dJ (by intro w';cases w';exact e rfl) ⟨_,rfl,rfl,?_⟩
    rw [List.map_singleton,show qb x f z=z from if_neg e]
    rfl
  rintro ys H2 ⟨e2,rfl⟩ I nI
  subst e2
  rw [lM,List.take_length]
  have t1:=aC (o:=.lst ((p.ins.map (qb x f)).map V.str)) nI
  have eI:upd H2 I (.lst ((p.ins.map (qb x f)).map V.str)) I=some (.lst ((p.ins.map (qb x f)).map V.str)):=aq
  have eq1:=t1 _ _ eq
  generalize upd H2 I (.lst ((p.ins.map (qb x f)).map V.str))=H3 at t1 eI eq1 ⊢
  refine⟨_,rfl,q,_,0,_,rfl,rfl,SqT.of eq1,aQ (j:=0) rfl,_,rfl,q,_,1,_,rfl,rfl,SqT.of eq1,aQ (j:=1) rfl,_,rfl,q,_,2,_,rfl,rfl,SqT.of eq1,aQ (j:=2) rfl,_,rfl,_,rfl,q,_,4,_,rfl,rfl,SqT.of eq1,aQ (j:=4) rfl,by show 5≤sizeLine;exact szl,fun q' nq=>?_⟩
  have t2:=aC (o:=.tup [.str (dZ p.kind),.str p.name,.ref a1,.ref I,.ref a3]) nq
  have t:=t1.trans t2
  exact k _ q' t ⟨q',a1,I,a3,rfl,aq,.inr (t.seqT h1),.inl (SqL.of (t2 _ _ eI)),.inr (t.seqT h4)⟩
def nameV:V→Bool
 | .str z=>nameB z
 | _=>false
def gK:V→Str
 | .str z=>z
 | _=>Str.empty
def gf (v:V):Prop:=(∃z:Str,v=.str z∧z.length≤100∧PyData.strOk z=true)∨v=.non∨v=.int 5
theorem gf.bad {H:Hp} {v:V} (h:gf v) (n:nameV v=false):badV K H v:=by
 rcases h with ⟨z,rfl,hl,_⟩ | rfl | rfl
 ·exact .inl ⟨z,rfl,hl,n⟩
 ·exact .inr ⟨"NoneType",rfl,by decide,by decide⟩
 ·exact .inr ⟨"int",rfl,by decide,by decide⟩
theorem gf.good {v:V} (h:gf v) (n:nameV v=true):v=.str (gK v)∧nameB (gK v)=true∧(gK v).length≤100:=by
 rcases h with ⟨z,rfl,hl,_⟩ | rfl | rfl
 ·exact⟨rfl,n,hl⟩
 ·cases n
 ·cases n
def qd (ln pn:List Str) (x:Str) (v w:V):Nat:=if x∉ln then 1 else if nameV v=false then 2 else if gK v∈pn then 3 else if nameV w=false then 4 else if gK w∈ln then 5 else if 15 <pn.length∨23 <ln.length then 6 else 0
def zV (x:Str) (v w:V):Nat→V
 | 1=>.str x
 | 2=>v
 | 3=>v
 | _=>w
def clsD (t:Adr):Nat→Addr
 | 1=>t.bV
 | 2=>t.bM
 | 4=>t.bM
 | _=>t.bQ
theorem same_put {H H':Hp} {a:Addr} {x y:HO} (n:H a=none) (s:aO (upd H a x) H'):aO H (upd H' a y):=fun b o e=>by
 rw [aK (aD e n)]
 exact s _ _ (by rw [aK (aD e n)];exact e)
theorem LaneH.same {H H':Hp} {v:V} {l:LaneD} (h:LaneH K H v l) (s:aO H H'):LaneH K H' v l:=by
 obtain⟨q,f,e,h1,h2⟩:=h
 exact⟨q,f,e,s _ _ h1,s.seqA h2⟩
theorem RowH.same {H H':Hp} {v:V} {p:PD} (h:RowH K H v p) (s:aO H H'):RowH K H' v p:=by
 obtain⟨q,a1,a2,a3,e,h1,h2,h3,h4⟩:=h
 exact⟨q,a1,a2,a3,e,s _ _ h1,s.seqA h2,s.seqA h3,s.seqA h4⟩
def sp_with_slot (K:PySem.W.Frag) (t:Adr):Sp:=fun vs H Q E=>∃(n:Addr) (ls:List LaneD) (ps:List PD) (x:Str) (v w:V),vs=[.ref n,.str x,v,w]∧vg K t H n ls ps∧gf v∧gf w∧(1≤qd (ls.map (·.name)) (ps.map (·.name)) x v w→qd (ls.map (·.name)) (ps.map (·.name)) x v w≤5→∀dx H',aO H H'→H' dx=some (.xd [("name",zV x v w (qd (ls.map (·.name)) (ps.map (·.name)) x v w))])→E (.ref (clsD t (qd (ls.map (·.name)) (ps.map (·.name)) x v w))) (some dx) H')∧(qd (ls.map (·.name)) (ps.map (·.name)) x v w=6→∀H',aO H H'→E (.ref t.bT) none H')∧(qd (ls.map (·.name)) (ps.map (·.name)) x v w=0→∀l0∈ls,l0.name=x→∀H' n',aO H H'→vg K t H' n' (qY x (gK w) l0 ls) (kj x (gK v) (gK w) ps)→Q (.ref n') H')
theorem sc_with_slot:FnScope ["net", "lane", "slot", "fresh", "told", "lanes", "parts"] ["net", "lane", "slot", "fresh"] (aA gw):=⟨rfl,rfl,rfl,by decide +kernel,rfl,by decide +kernel,by decide +kernel⟩
theorem ok_with_slot (T:Txt w K mg t):FnOk P w K mg base (CX2 P w) 8 t.ue t.sY ["net", "lane", "slot", "fresh"] (sp_with_slot K t):=by
 have sc:=sc_with_slot
 refine T.yW.ok2 sc (fun vs H Q E h=>?_) (fun cdv A outer s H vs Q E hr h=>?_)
 ·obtain⟨n,ls,ps,x,v,w,rfl,_⟩:=h
  rfl
 ·obtain⟨n,ls,ps,x,v,w,rfl,N,hv,hw,kE,kM,k⟩:=h
  refine⟨_,(az (bz (xT (pv 0) T.dI T.ig (il T) (hr.mono (by decide)) T.iz .nil (vV fun _ _ _ h=>h) (aa (pv 1) ak aj)))
   (az (bz (aH (nM T) (hr.mono (by decide)) (by rfl) T.o9 T.mq.kp T.oY .nil (vV fun _ _ _ h=>h) (aa (pv 2) (aa (rm (pv 0) T.dI T.me_Net_part_names (ok_Net_part_names T) (hr.mono (by decide)) T.b_Net_part_names .nil aN) ak aW) aj)))
   (az (bz (aH (nM T) (hr.mono (by decide)) (by rfl) T.o9 T.mq.kp T.oY .nil (vV fun _ _ _ h=>h) (aa (pv 3) (aa (rm (pv 0) T.dI T.qx (qu T) (hr.mono (by decide)) T.rF .nil aN) ak aW) aj)))
   (az (bD (i:=4) sc.nd rfl (Or.inl rfl) (rm (pv 0) T.dI T.uE (u0 T) (hr.mono (by decide)) T.wG .nil aN))
   (az (xG (i:=5) ["name", "room", "first"] [1] ["net", "lane", "slot", "fresh", "told", "lanes", "parts"] (aA gw) rfl sc.nd rfl (fG (bG dW (pv 4) au (fun _ _=>rfl))) (fun _ _ _ _ _=>zj (K:=K) (n:=3) rfl rfl (bU (bL (i:=0) (show(["name", "room", "first", "lane"]:List Str).Nodup by decide +kernel) rfl (Or.inl rfl) (.inr rfl)) (bU (bL (i:=1) (show(["name", "room", "first", "lane"]:List Str).Nodup by decide +kernel) rfl (Or.inl rfl) (.inr rfl)) (bU (bL (i:=2) (show(["name", "room", "first", "lane"]:List Str).Nodup by decide +kernel) rfl (Or.inl rfl) (.inr rfl)) kZ)))) (fun _ _ _ _ _=>fW) (fun _ _ _ _ _=>(cM (aa (pv 0) (aa (pv 1) (aa (pe_ifExp (bC gJ (pv 0) (pv 3) (bW _)) (cM ak) (pv 2)) ak star_IfExp) aj) aj))))
   (az (bz (ir PySem.F.plainAttrs_list PySem.F.slot_list_append PySem.F.type_list_append dh (pv 5) (aa (cM (aa (pv 3) (aa (xT (pv 0) T.dI T.me_Net_room_of (ok_Net_room_of T) (hr.mono (by decide)) T.b_Net_room_of .nil (vV fun _ _ _ h=>h) (aa (pv 1) ak aj)) (aa (xT (pv 0) T.dI T.me_Net_first_of (ok_Net_first_of T) (hr.mono (by decide)) T.b_Net_first_of .nil (vV fun _ _ _ h=>h) (aa (pv 1) ak aj)) ak aW) aW) aj)) ak cg)))
   (az (nU (i:=6) [1,3] ["net", "lane", "slot", "fresh", "told", "lanes", "parts"] (aA gw) rfl sc.nd rfl (fG (bG dW (pv 4) au (fun _ _=>rfl))) (fun _ _ _ _ _=>fW) (fun _ _ _ _ _=>(aH (ok_part_led T) (hr.mono (by decide)) (by rfl) T.m_part_led T.Ai.kp T.b_part_led .nil aN (aa (pv 0) (aa (pv 1) (aa (pv 2) ak aj) aj) aj))))
   (az (bz (ir PySem.F.plainAttrs_list PySem.F.slot_list_append PySem.F.type_list_append dh (pv 6) (aa (cM (aa bx (aa (pv 2) (aa (cM ak) (aa (cM (aa (pv 1) ak aj)) (aa (cM (aa (pv 3) ak aj)) ak cg) cg) cg) aj) ao)) ak cg)))
   (aF (bA (iZ T.M_Net (tZ T) (hr.mono (by decide)) (by rfl) T.mc_Net T.ur .nil (vV fun _ _ _ h=>h) (aa (pv 5) (aa (pv 6) ak aj) aj)))))))))))),?_⟩
  obtain⟨dx,fs,R,F,Pd,G,Tk,FL,PL,W⟩:=id N
  have hz:sizeLine=16777216:=sizeLine_eq
  have l24:=W.fit.l24
  have p16:=W.fit.p16
  refine⟨_,rfl,n,dx,fs,rfl,W.obj,W.fl.no _ (by decide +kernel),_,rfl,n,ls,ps,x,rfl,W.s,?_⟩
  by_cases hx:x∉ls.map (·.name)
  ·have e:qd (ls.map (·.name)) (ps.map (·.name)) x v w=1:=if_pos hx
   rw [e] at kE
   exact .inr ⟨hx,kE (by decide) (by decide)⟩
  have hx':=Classical.not_not.mp hx
  refine .inl ⟨hx',fun H1 s1=>?_⟩
  have W1:=W.same s1
  have dn1:∀{c:Nat},(if nameV v=false then 2 else if gK v∈ps.map (·.name) then 3 else if nameV w=false then 4 else if gK w∈ls.map (·.name) then 5 else if 15 <(ps.map (·.name)).length∨23 <(ls.map (·.name)).length then 6 else 0)=c→qd (ls.map (·.name)) (ps.map (·.name)) x v w=c:=fun h=>(if_neg hx).trans h
  refine⟨_,rfl,_,rfl,n,dx,fs,rfl,W1.obj,W1.fl.no _ (by decide +kernel),n,ls,ps,rfl,W1.s,fun l nl=>?_⟩
  have t2:=aC (o:=.lst (ps.map fun x=>V.str x.name)) nl
  have el:upd H1 l (.lst (ps.map fun x=>V.str x.name)) l=some (.lst ((ps.map (·.name)).map V.str)):=by rw [List.map_map];exact aq
  have s2:=s1.trans t2
  generalize upd H1 l (.lst (ps.map fun x=>V.str x.name))=H2 at t2 el s2 ⊢
  refine⟨v,l,rfl,?_⟩
  cases hnv:nameV v with
  | false=>
   have e:=dn1 (c:=2) (if_pos hnv)
   rw [e] at kE
   exact .inl ⟨hv.bad hnv,fun dx' H' s' e'=>kE (by decide) (by decide) dx' H' (s2.trans s') e'⟩
  | true=>
  obtain⟨ev,bv,lv⟩:=hv.good hnv
  refine .inr ⟨gK v,ev,bv,lv,.inr ⟨ps.map (·.name),el,?_⟩⟩
  by_cases hp:gK v∈ps.map (·.name)
  ·have e:=dn1 (c:=3) ((if_neg (by simp [hnv])).trans (if_pos hp))
   rw [e] at kE
   exact .inr ⟨hp,fun dx' H' s' e'=>kE (by decide) (by decide) dx' H' (s2.trans s') (by rw [ev];exact e')⟩
  refine .inl ⟨hp,fun H3 s3'=>?_⟩
  have s3:=s2.trans s3'
  have W3:=W.same s3
  have dn2:∀{c:Nat},(if nameV w=false then 4 else if gK w∈ls.map (·.name) then 5 else if 15 <(ps.map (·.name)).length∨23 <(ls.map (·.name)).length then 6 else 0)=c→qd (ls.map (·.name)) (ps.map (·.name)) x v w=c:=fun h=>dn1 ((if_neg (by simp [hnv])).trans ((if_neg hp).trans h))
  refine⟨_,rfl,_,rfl,n,dx,fs,rfl,W3.obj,W3.fl.no _ (by decide +kernel),n,ls,ps,rfl,W3.s,fun l' nl'=>?_⟩
  have t4:=aC (o:=.lst (ls.map fun x=>V.str x.name)) nl'
  have el':upd H3 l' (.lst (ls.map fun x=>V.str x.name)) l'=some (.lst ((ls.map (·.name)).map V.str)):=by rw [List.map_map];exact aq
  have s4:=s3.trans t4
  generalize upd H3 l' (.lst (ls.map fun x=>V.str x.name))=H4 at t4 el' s4 ⊢
  refine⟨w,l',rfl,?_⟩
  cases hnw:nameV w with
  | false=>
   have e:=dn2 (c:=4) (if_pos hnw)
   rw [e] at kE
   exact .inl ⟨hw.bad hnw,fun dx' H' s' e'=>kE (by decide) (by decide) dx' H' (s4.trans s') e'⟩
  | true=>
  obtain⟨ew,bw,lw⟩:=hw.good hnw
  refine .inr ⟨gK w,ew,bw,lw,.inr ⟨ls.map (·.name),el',?_⟩⟩
  by_cases hl:gK w∈ls.map (·.name)
  ·have e:=dn2 (c:=5) ((if_neg (by simp [hnw])).trans (if_pos hl))
   rw [e] at kE
   exact .inr ⟨hl,fun dx' H' s' e'=>kE (by decide) (by decide) dx' H' (s4.trans s') (by rw [ew];exact e')⟩
  refine .inl ⟨hl,fun H5 s5'=>?_⟩
  have s5:=s4.trans s5'
  have W5:=W.same s5
  have dn3:∀{c:Nat},(if 15 <(ps.map (·.name)).length∨23 <(ls.map (·.name)).length then 6 else 0)=c→qd (ls.map (·.name)) (ps.map (·.name)) x v w=c:=fun h=>dn2 ((if_neg (by simp [hnw])).trans ((if_neg hl).trans h))
  obtain⟨l0,hl0,hn0⟩:=List.mem_map.mp hx'
  clear hnv hnw dn1 dn2 kE
  rw [ev,ew]
  generalize gK v=zv at *
  generalize gK w=zw at *
  refine⟨_,rfl,n,dx,fs,rfl,W5.obj,W5.fl.no _ (by decide +kernel),n,ls,ps,rfl,W5.s,fun Td a b H6 s6' na nb nab TD=>?_⟩
  have s6:=s5.trans s6'
  obtain⟨et,⟨xs,ea,aL⟩,⟨ys,eb,aP⟩⟩:=id TD
  have lx:=aL.length
  have ly:=aP.length
  refine⟨_,rfl,Td,_,0,_,rfl,rfl,SqT.of et,aQ (j:=0) rfl,a,rfl,⟨_,SqL.of ea⟩,?_⟩
  refine xg (K:=K) (a:=a) (xs:=xs) (fun j zs H'=>aO H6 H'∧zs.length≤j∧All2 (LaneH K H') zs ((ls.take j).map (qO x))) (by omega) ⟨aO.refl _,Nat.le_refl _,.nil⟩ (fun j zs H' h=>h.2.1) (fun j zs H' _ h=>h.1.seq (SqL.of ea)) ?_ ?_
  ·rintro j y zs H' hy ⟨s,hz',hA⟩
   obtain⟨l,hlj,q,f,rfl,hq,hf⟩:=aL.get hy
   refine⟨q,_,rfl,SqT.of (s _ _ hq),rfl,_,_,rfl,_,_,rfl,_,_,rfl,rfl,rfl,yes ?_⟩
   rw [List.take_succ,hlj,Option.toList_some,List.map_append,List.map_singleton]
   refine⟨_,rfl,_,rfl,_,rfl,_,rfl,rfl,_,rfl,?_⟩
   by_cases e:l.name=x
   ·refine tG (by rw [e]) ⟨by show 0≤sizeLine;exact szl,fun u nu=>⟨by show 3≤sizeLine;exact szl,fun r nr=>?_⟩⟩
    have su:=aC (o:=.tup []) nu
    have eu:upd H' u (.tup []) u=some (.tup []):=aq
    generalize upd H' u (.tup [])=H7 at su eu nr ⊢
    have sr:=aC (o:=.tup [.str l.name,.int l.room,.ref u]) nr
    refine⟨s.trans (su.trans sr),by rw [lP,List.length_singleton];omega,?_⟩
    rw [show qO x l=⟨l.name,l.room,[]⟩ from if_pos e]
    exact(hA.imp fun _ _ h=>h.same (su.trans sr)).app (.cons ⟨r,u,rfl,aq,.inr (SqT.of (sr _ _ eu))⟩ .nil)
   ·refine dJ (by intro z;cases z;exact e rfl) ⟨_,rfl,by show 3≤sizeLine;exact szl,fun r nr=>?_⟩
    have sr:=aC (o:=.tup [.str l.name,.int l.room,.ref f]) nr
    refine⟨s.trans sr,by rw [lP,List.length_singleton];omega,?_⟩
    rw [show qO x l=l from if_neg e]
    exact(hA.imp fun _ _ h=>h.same sr).app (.cons ⟨r,f,rfl,aq,.inr ((s.trans sr).seqT hf)⟩ .nil)
  rintro zs H7 ⟨s7',hz',hA⟩ L nL
  rw [lx,List.take_length] at hA
  have s7:=s6.trans s7'
  have W7:=W.same s7
  have TD7:=TD.same s7'
  clear TD et ea aL eb aP
  have eL8:upd H7 L (.lst zs) L=some (.lst zs):=aq
  have t8:=aC (o:=.lst zs) nL
  have p8:∀{H' y},aO (upd H7 L (.lst zs)) H'→aO H7 (upd H' L y):=fun s=>same_put nL s
  generalize upd H7 L (.lst zs)=H8 at eL8 t8 p8 ⊢
  have W8:=W7.same t8
  refine⟨_,rfl,.inl ⟨rfl,_,SqL.of eL8⟩,_,rfl,_,rfl,n,dx,fs,rfl,W8.obj,W8.fl.no _ (by decide +kernel),_,rfl,n,ls,ps,x,rfl,W8.s,.inl ⟨l0,hl0,hn0,fun H9 s9=>?_⟩⟩
  have W9:=W8.same s9
  refine⟨_,rfl,n,dx,fs,rfl,W9.obj,W9.fl.no _ (by decide +kernel),_,rfl,n,ls,ps,x,rfl,W9.s,.inl ⟨l0,hl0,hn0,fun HA p sA np ep=>⟨by show 3≤sizeLine;exact szl,fun r nr=>?_⟩⟩⟩
  have s8A:=s9.trans sA
  have tr:=aC (o:=.tup [.str zw,.int l0.room,.ref p]) nr
  have eL8A:=(s8A.trans tr) _ _ eL8
  have lz:=hA.length
  refine⟨L,zs,_,rfl,rfl,eL8A,by rw [lM] at lz;omega,?_⟩
  have nLr:r≠L:=Ne.symm (aD (s8A _ _ eL8) nr)
  have nLp:p≠L:=Ne.symm (aD (s9 _ _ eL8) np)
  have sB:=p8 (y:=.lst (zs ++ [.ref r])) (s8A.trans tr)
  have eLB:upd (upd HA r (.tup [.str zw,.int l0.room,.ref p])) L (.lst (zs ++ [.ref r])) L=some (.lst (zs ++ [.ref r])):=aq
  have hA':All2 (LaneH K (upd (upd HA r (.tup [.str zw,.int l0.room,.ref p])) L (.lst (zs ++ [.ref r])))) (zs ++ [.ref r]) (qY x zw l0 ls):=by
   refine(hA.imp fun _ _ h=>h.same sB).app (.cons ⟨r,p,rfl,?_,.inl (SqL.of ?_)⟩ .nil)
   ·rw [aK nLr];exact aq
   ·rw [aK nLp];exact tr _ _ ep
  generalize upd (upd HA r (.tup [.str zw,.int l0.room,.ref p])) L (.lst (zs ++ [.ref r]))=HB at sB eLB hA' ⊢
  clear eL8A tr nr ep np sA s9 s8A W8 W9 t8 p8 eL8 nLr nLp
  have TDB:=TD7.same sB
  have s7B:=s7.trans sB
  obtain⟨etB,_,⟨ysB,ebB,aPB⟩⟩:=id TDB
  have lyB:=aPB.length
  refine⟨_,rfl,Td,_,1,_,rfl,rfl,SqT.of etB,aQ (j:=1) rfl,b,rfl,⟨_,SqL.of ebB⟩,?_⟩
  refine pG (K:=K) (a:=b) (xs:=ysB) (fun j ws H'=>aO HB H'∧ws.length≤j∧All2 (RowH K H') ws ((ps.take j).map (yC x zw))) (by omega) ⟨aO.refl _,Nat.le_refl _,.nil⟩ (fun j ws H' h=>h.2.1) (fun j ws H' _ h=>h.1.seq (SqL.of ebB)) ?_ ?_
  ·rintro j y ws H' hy ⟨s,hw',hB⟩
   obtain⟨p,hpj,hR⟩:=aPB.get hy
   rw [List.take_succ,hpj,Option.toList_some,List.map_append,List.map_singleton]
   have hq3:p.ins.length≤3:=by
    rw [(W.fit.pok p (List.mem_of_getElem? hpj)).2.2.1]
    exact cI_le _
   obtain⟨q,a1,a2,a3,rfl,_⟩:=id hR
   refine yes ⟨_,rfl,_,rfl,_,rfl,q,p,x,zw,rfl,hR.same s,hq3,fun H2 q' s2 hR'=>?_⟩
   exact⟨s.trans s2,by rw [lP,List.length_singleton];omega,(hB.imp fun _ _ h=>h.same s2).app (.cons hR' .nil)⟩
  rintro ws HC ⟨sC,hw',hB⟩ P nP
  rw [lyB,List.take_length] at hB
  have tD:=aC (o:=.lst ws) nP
  have eP:upd HC P (.lst ws) P=some (.lst ws):=aq
  have pD:∀{H' y},aO (upd HC P (.lst ws)) H'→aO HC (upd H' P y):=fun s=>same_put nP s
  generalize upd HC P (.lst ws)=HD at tD eP pD ⊢
  refine⟨_,rfl,.inl ⟨rfl,_,SqL.of eP⟩,_,rfl,by show 0≤sizeLine;exact szl,fun u1 n1=>?_⟩
  have t1:=aC (o:=.tup []) n1
  have e1:upd HD u1 (.tup []) u1=some (.tup []):=aq
  generalize upd HD u1 (.tup [])=HE at t1 e1 ⊢
  refine⟨_,rfl,by show 1≤sizeLine;exact szl,fun u2 n2=>?_⟩
  have t2:=aC (o:=.tup [.str x]) n2
  have e2:upd HE u2 (.tup [.str x]) u2=some (.tup [.str x]):=aq
  generalize upd HE u2 (.tup [.str x])=HF at t2 e2 ⊢
  refine⟨_,rfl,by show 1≤sizeLine;exact szl,fun u3 n3=>⟨by show 5≤sizeLine;exact szl,fun r' nr'=>?_⟩⟩
  have t3:=aC (o:=.tup [.str zw]) n3
  have e3:upd HF u3 (.tup [.str zw]) u3=some (.tup [.str zw]):=aq
  generalize upd HF u3 (.tup [.str zw])=HG at t3 e3 nr' ⊢
  have t4:=aC (o:=.tup [.str "pass",.str zv,.ref u1,.ref u2,.ref u3]) nr'
  have e4:upd HG r' (.tup [.str "pass",.str zv,.ref u1,.ref u2,.ref u3]) r'=some (.tup [.str "pass",.str zv,.ref u1,.ref u2,.ref u3]):=aq
  generalize upd HG r' (.tup [.str "pass",.str zv,.ref u1,.ref u2,.ref u3])=HI at t4 e4 ⊢
  have t34:=t3.trans t4
  have t24:=t2.trans t34
  have t14:=t1.trans t24
  have eP4:=t14 _ _ eP
  have lw':=hB.length
  refine⟨P,ws,_,rfl,rfl,eP4,by rw [lM] at lw';omega,?_⟩
  have ku:∀{u:Addr} {vs:List V},HI u=some (.tup vs)→upd HI P (.lst (ws ++ [.ref r'])) u=some (.tup vs):=fun h=>by
   rw [aK (wk h eP4 (by intro z;cases z))]
   exact h
  have sJ:=pD (y:=.lst (ws ++ [.ref r'])) t14
  have hB':All2 (RowH K (upd HI P (.lst (ws ++ [.ref r'])))) (ws ++ [.ref r']) (kj x zv zw ps):=
   (hB.imp fun _ _ h=>h.same sJ).app (.cons ⟨r',u1,u2,u3,rfl,ku e4,.inr (SqT.of (ku (t24 _ _ e1))),.inr (SqT.of (ku (t34 _ _ e2))),.inr (SqT.of (ku (t4 _ _ e3)))⟩ .nil)
  have ePJ:upd HI P (.lst (ws ++ [.ref r'])) P=some (.lst (ws ++ [.ref r'])):=aq
  generalize upd HI P (.lst (ws ++ [.ref r']))=HJ at sJ hB' ePJ ⊢
  have sBJ:=sC.trans sJ
  refine⟨_,rfl,_,rfl,fun n' dxn nn ndn nen=>?_⟩
  have g4:aO HJ (upd (upd HJ dxn (.own n')) n' (.ins t.bO dxn [])):=fun b o e=>by rw [aK (aD e nn),aK (aD e ndn)];exact e
  have hH:Hand K (upd (upd HJ dxn (.own n')) n' (.ins t.bO dxn [])) L P (qY x zw l0 ls) (kj x zv zw ps):=
   ⟨⟨_,SqL.of (g4 _ _ (sBJ _ _ eLB)),hA'.imp fun _ _ h=>h.same (sBJ.trans g4)⟩,⟨_,SqL.of (g4 _ _ ePJ),hB'.imp fun _ _ h=>h.same g4⟩⟩
  have sz:=s7B.trans sBJ
  have lS:(qY x zw l0 ls).length=ls.length+1:=by unfold qY;rw [lP,lM,List.length_singleton]
  have pS:(kj x zv zw ps).length=ps.length+1:=by unfold kj;rw [lP,lM,List.length_singleton]
  refine⟨n',dxn,L,P,_,_,rfl,aq,hH,?_⟩
  by_cases hm:15 <ps.length∨23 <ls.length
  ·exact .inl ⟨by omega,by omega,by omega,kM (dn3 (if_pos (by rw [lM,lM];exact hm))) _ (sz.trans g4)⟩
  subst hn0
  refine .inr ⟨W.fit.slot hl0 bv bw hp hl (by omega) (by omega),fun HK bK NK=>⟨rfl,k (dn3 (if_neg (by rw [lM,lM];exact hm))) l0 hl0 rfl HK n' (sz.trans fun b o e=>bK b o (aD e nn) (g4 b o e)) NK⟩⟩
def sp__law_as_tuples (K:PySem.W.Frag) (t:Adr):Sp:=fun vs H Q _=>∃(L P:Addr) (ls:List LaneD) (ps:List PD),vs=[.ref L,.ref P]∧NetAt H L P ls ps∧Fit ls ps∧∀T a b H',aO H H'→ToldAt K H' T a b ls ps→Q (.ref T) H'
theorem sc__law_as_tuples:FnScope ["_law_lanes", "_law_parts", "_law_rows", "_law_some"] ["_law_lanes", "_law_parts"] (aA dw):=⟨rfl,rfl,rfl,by decide +kernel,rfl,by decide +kernel,by decide +kernel⟩
theorem qj (T:Txt w K mg t):FnOk P w K mg base CX0 1 t.mY t.mF ["_law_lanes", "_law_parts"] (sp__law_as_tuples K t):=by
 have sc:=sc__law_as_tuples
 refine T.nj.ok sc (fun vs H Q E h=>?_) (fun cdv A outer s H vs Q E hr h=>?_)
 ·obtain⟨L,P,ls,ps,rfl,_⟩:=h
  rfl
 ·obtain⟨L,P,ls,ps,rfl,N,hF,k⟩:=h
  refine⟨_,(az (xG (i:=2) ["_law_name", "_law_room", "_law_first"] [] ["_law_lanes", "_law_parts", "_law_rows", "_law_some"] (aA dw) rfl sc.nd rfl (fG (pv 0)) (fun _ _ _ _ _=>zj (K:=K) (n:=3) rfl rfl (bU (bL (i:=0) (show(["_law_name", "_law_room", "_law_first"]:List Str).Nodup by decide +kernel) rfl (Or.inl rfl) (.inr rfl)) (bU (bL (i:=1) (show(["_law_name", "_law_room", "_law_first"]:List Str).Nodup by decide +kernel) rfl (Or.inl rfl) (.inr rfl)) (bU (bL (i:=2) (show(["_law_name", "_law_room", "_law_first"]:List Str).Nodup by decide +kernel) rfl (Or.inl rfl) (.inr rfl)) kZ)))) (fun _ _ _ _ _=>fW) (fun _ _ _ _ _=>(cM (aa (pv 0) (aa (pv 1) (aa (fC (rK (K:=K) rfl) (by rfl) T.qe ou (aa (pv 2) ak aj)) ak aW) aj) aj))))
   (az (xG (i:=3) ["_law_kind", "_law_name", "_law_numbers", "_law_ins", "_law_outs"] [] ["_law_lanes", "_law_parts", "_law_rows", "_law_some"] (aA dw) rfl sc.nd rfl (fG (pv 1)) (fun _ _ _ _ _=>zj (K:=K) (n:=5) rfl rfl (bU (bL (i:=0) (show(["_law_kind", "_law_name", "_law_numbers", "_law_ins", "_law_outs"]:List Str).Nodup by decide +kernel) rfl (Or.inl rfl) (.inr rfl)) (bU (bL (i:=1) (show(["_law_kind", "_law_name", "_law_numbers", "_law_ins", "_law_outs"]:List Str).Nodup by decide +kernel) rfl (Or.inl rfl) (.inr rfl)) (bU (bL (i:=2) (show(["_law_kind", "_law_name", "_law_numbers", "_law_ins", "_law_outs"]:List Str).Nodup by decide +kernel) rfl (Or.inl rfl) (.inr rfl)) (bU (bL (i:=3) (show(["_law_kind", "_law_name", "_law_numbers", "_law_ins", "_law_outs"]:List Str).Nodup by decide +kernel) rfl (Or.inl rfl) (.inr rfl)) (bU (bL (i:=4) (show(["_law_kind", "_law_name", "_law_numbers", "_law_ins", "_law_outs"]:List Str).Nodup by decide +kernel) rfl (Or.inl rfl) (.inr rfl)) kZ)))))) (fun _ _ _ _ _=>fW) (fun _ _ _ _ _=>(cM (aa (pv 0) (aa (pv 1) (aa (fC (rK (K:=K) rfl) (by rfl) T.qe ou (aa (pv 2) ak aj)) (aa (fC (rK (K:=K) rfl) (by rfl) T.qe ou (aa (pv 3) ak aj)) (aa (fC (rK (K:=K) rfl) (by rfl) T.qe ou (aa (pv 4) ak aj)) ak aW) aW) aW) aj) aj))))
   (aF (bA (cM (aa (pv 2) (aa (pv 3) ak aj) aj)))))),?_⟩
  have hl:sizeLine=16777216:=sizeLine_eq
  have l24:=hF.l24
  have p16:=hF.p16
  obtain⟨⟨xs,eL,aL⟩,⟨ys,eP,aP⟩⟩:=N
  have lx:=aL.length
  have ly:=aP.length
  refine⟨_,rfl,L,rfl,⟨_,SqL.of eL⟩,?_⟩
  refine xg (K:=K) (a:=L) (xs:=xs) (fun j zs H'=>aO H H'∧zs.length≤j∧All2 (xZ K H') zs (ls.take j)) (by omega) ⟨aO.refl _,Nat.le_refl _,.nil⟩ (fun j zs H' h=>h.2.1) (fun j zs H' _ h=>h.1.seq (SqL.of eL)) ?_ ?_
  ·rintro j x zs H' hx ⟨s,hz,hA⟩
   obtain⟨l,hlj,q,f,rfl,hq,hf⟩:=aL.get hx
   refine⟨q,_,rfl,SqT.of (s _ _ hq),rfl,_,_,rfl,_,_,rfl,_,_,rfl,rfl,rfl,yes ?_⟩
   refine⟨_,rfl,_,rfl,_,rfl,f,_,rfl,.inl (SqL.of (s _ _ hf)),fun H2 u s2 t2=>⟨by show 3≤sizeLine;exact szl,fun r nr=>?_⟩⟩
   have su:=aC (o:=.tup [.str l.name,.int l.room,.ref u]) nr
   refine⟨s.trans (s2.trans su),by rw [lP,List.length_singleton];omega,?_⟩
   rw [List.take_succ,hlj,Option.toList_some]
   exact(hA.imp fun _ _ h=>h.same (s2.trans su)).app (.cons ⟨r,u,rfl,aq,su.seqT t2⟩ .nil)
  rintro zs H1 ⟨s1,hz,hA⟩ D nD
  rw [lx,List.take_length] at hA
  have sD:=aC (o:=.lst zs) nD
  have eD:upd H1 D (.lst zs) D=some (.lst zs):=aq
  have s2:=s1.trans sD
  have hA2:=hA.imp fun _ _ h=>xZ.same h sD
  generalize upd H1 D (.lst zs)=H2 at sD eD s2 hA2 ⊢
  refine⟨_,rfl,P,rfl,⟨_,SqL.of (s2 _ _ eP)⟩,?_⟩
  refine xg (K:=K) (a:=P) (xs:=ys) (fun j zs H'=>aO H2 H'∧zs.length≤j∧All2 (RowT K H') zs (ps.take j)) (by omega) ⟨aO.refl _,Nat.le_refl _,.nil⟩ (fun j zs H' h=>h.2.1) (fun j zs H' _ h=>h.1.seq (SqL.of (s2 _ _ eP))) ?_ ?_
  ·rintro j x zs H' hx ⟨s,hz,hA⟩
   obtain⟨p,hpj,q,a1,a2,a3,rfl,hq,q1,q2,q3⟩:=aP.get hx
   have ss:=s2.trans s
   refine⟨q,_,rfl,SqT.of (ss _ _ hq),rfl,_,_,rfl,_,_,rfl,_,_,rfl,_,_,rfl,_,_,rfl,rfl,rfl,yes ?_⟩
   refine⟨_,rfl,_,rfl,_,rfl,a1,_,rfl,.inl (SqL.of (ss _ _ q1)),fun H3 u1 s3 t1=>⟨_,rfl,a2,_,rfl,.inl (SqL.of (s3 _ _ (ss _ _ q2))),fun H4 u2 s4 t2=>⟨_,rfl,a3,_,rfl,.inl (SqL.of (s4 _ _ (s3 _ _ (ss _ _ q3)))),fun H5 u3 s5 t3=>⟨by show 5≤sizeLine;exact szl,fun r nr=>?_⟩⟩⟩⟩
   have su:=aC (o:=.tup [.str (dZ p.kind),.str p.name,.ref u1,.ref u2,.ref u3]) nr
   refine⟨s.trans (s3.trans (s4.trans (s5.trans su))),by rw [lP,List.length_singleton];omega,?_⟩
   rw [List.take_succ,hpj,Option.toList_some]
   exact(hA.imp fun _ _ h=>h.same (s3.trans (s4.trans (s5.trans su)))).app (.cons ⟨r,u1,u2,u3,rfl,aq,(s4.trans (s5.trans su)).seqT t1,(s5.trans su).seqT t2,su.seqT t3⟩ .nil)
  rintro ws H3 ⟨s3,hw,hB⟩ D2 nD2
  rw [ly,List.take_length] at hB
  have sE:=aC (o:=.lst ws) nD2
  refine⟨_,rfl,_,rfl,by show 2≤sizeLine;exact szl,fun T' nT=>?_⟩
  have sT:=aC (o:=.tup [.ref D,.ref D2]) nT
  have sz:=s3.trans (sE.trans sT)
  exact k T' D D2 _ (s2.trans sz) ⟨aq,⟨zs,sz _ _ eD,hA2.imp fun _ _ h=>xZ.same h sz⟩,⟨ws,sT _ _ aq,hB.imp fun _ _ h=>RowT.same h (sE.trans sT)⟩⟩
def zA (a:Int) (m:Nat):List LaneD:=(List.range (2 * m+4)).map fun k=>⟨aG a k,1+((k % 3:Nat):Int),[]⟩
def vU (a b:Int) (k:Nat):PD:=⟨8,aG b (2+k),[],[aG a (2 * k),aG a (2 * k+1)],[aG a (2 * k+2),aG a (2 * k+3)]⟩
def oW (a b:Int) (m:Nat):List PD:=[⟨0,aG b 0,[],[],[aG a 0]⟩,⟨0,aG b 1,[],[],[aG a 1]⟩] ++ (List.range m).map (vU a b) ++ [⟨6,aG b (m+2),[],[aG a (2 * m),aG a (2 * m+1)],[aG a (2 * m+2)]⟩,⟨2,aG b (m+3),[],[aG a (2 * m+2)],[aG a (2 * m+3)]⟩,⟨1,aG b (m+4),[],[aG a (2 * m+3)],[]⟩]
theorem zB (xs:List V) (a b:Nat):oU xs (some (a:Int)) (some (b:Int))=(xs.drop (min a xs.length)).take (min b xs.length - min a xs.length):=by
 unfold oU
 rw [HT.vG,HT.vG]
abbrev oA (a:Int) (n:Nat):List V:=((List.range n).map (aG a)).map V.str
theorem tH (a:Int) (n:Nat):(oA a n).length=n:=by rw [lM,lM,List.length_range]
theorem um {a:Int} {n i:Nat} (h:i <n):(oA a n).drop i=.str (aG a i):: (oA a n).drop (i+1):=by
 have hi:i <(oA a n).length:=by rw [tH];exact h
 rw [List.drop_eq_getElem_cons hi]
 congr 1
 rw [List.getElem_map,List.getElem_map,List.getElem_range]
theorem cut2 {a:Int} {n i:Nat} (h:i+2≤n):oU (oA a n) (some (i:Int)) (some ((i+2:Nat):Int))=[aG a i,aG a (i+1)].map V.str:=by
 rw [zB,tH,Nat.min_eq_left (show i≤n by omega),Nat.min_eq_left h,um (by omega),um (by omega),show i+2 - i=2 by omega]
 rfl
theorem cut1 {a:Int} {n i:Nat} (h:i+1≤n):oU (oA a n) (some (i:Int)) (some ((i+1:Nat):Int))=[aG a i].map V.str:=by
 rw [zB,tH,Nat.min_eq_left (show i≤n by omega),Nat.min_eq_left h,um (by omega),show i+1 - i=1 by omega]
 rfl
theorem cutE {a:Int} {n i:Nat} (h:i+1=n):oU (oA a n) (some (i:Int)) none=[aG a i].map V.str:=by
 have e:oU (oA a n) (some (i:Int)) none=((oA a n).drop (min i n)).take (n - min i n):=by
  unfold oU
  rw [HT.vG,tH]
  rfl
 rw [e,Nat.min_eq_left (by omega),um (by omega),show n - i=1 by omega]
 rfl
theorem cut0 {a:Int} {n:Nat} (h:1≤n):oU (oA a n) none (some 1)=[aG a 0].map V.str:=by
 have e:oU (oA a n) none (some ((1:Nat):Int))=((oA a n).drop 0).take (min 1 n - 0):=by
  unfold oU
  rw [HT.vG,tH]
  rfl
 refine e.trans ?_
 rw [um (by omega),Nat.min_eq_left h]
 rfl
theorem zf {HB H H':Hp} {P r a1 a2 a3:Addr} {ws:List V} {qs:List PD} {p:PD} (c:aO HB (bR [P] H)) (eP:H P=some (.lst ws)) (hA:All2 (oH (bR [P] H)) ws qs) (s:aO H H') (er:H' r=some (.tup [.str (dZ p.kind),.str p.name,.ref a1,.ref a2,.ref a3]))
  (x1:H' a1=some (.lst (p.nums.map V.int))) (x2:H' a2=some (.lst (p.ins.map V.str))) (x3:H' a3=some (.lst (p.outs.map V.str))) (n1:a1≠P) (n2:a2≠P) (n3:a3≠P):
  aO HB (bR [P] (upd H' P (.lst (ws ++ [.ref r]))))∧upd H' P (.lst (ws ++ [.ref r])) P=some (.lst (ws ++ [.ref r]))∧All2 (oH (bR [P] (upd H' P (.lst (ws ++ [.ref r]))))) (ws ++ [.ref r]) (qs ++ [p]):=by
 have k:bR [P] (upd H' P (.lst (ws ++ [.ref r])))=bR [P] H':=dN (by simp)
 have cs:=pW s eP
 have nr:r≠P:=wk er (s _ _ eP) (by intro z;cases z)
 rw [k]
 exact⟨c.trans cs,aq,(hA.imp fun _ _ h=>h.same cs).app (.cons ⟨r,a1,a2,a3,rfl,dM er (by simp [nr]),dM x1 (by simp [n1]),dM x2 (by simp [n2]),dM x3 (by simp [n3])⟩ .nil)⟩
def sp__law_wide:Sp:=fun vs H Q _=>∃(a b:Int) (m:Nat),vs=[.int a,.int b,.int (m:Nat)]∧7≤m∧m≤10∧∀T L P H',aO H H'→H' T=some (.tup [.ref L,.ref P])→NetAt H' L P (zA a m) (oW a b m)→Q (.ref T) H'
theorem sc__law_wide:FnScope ["_law_one", "_law_other", "_law_many", "_law_words", "_law_lanes", "_law_parts", "_law_k", "_law_ins", "_law_last"] ["_law_one", "_law_other", "_law_many"] (aA gB):=⟨rfl,rfl,rfl,by decide +kernel,rfl,by decide +kernel,by decide +kernel⟩
theorem ok__law_wide (T:Txt w K mg t):FnOk P w K mg base CX0 3 t.uI t.tQ ["_law_one", "_law_other", "_law_many"] (sp__law_wide):=by
 have sc:=sc__law_wide
 refine T.yS.ok sc (fun vs H Q E h=>?_) (fun cdv A outer s H vs Q E hr h=>?_)
 ·obtain⟨a,b,m,rfl,_⟩:=h
  rfl
 ·obtain⟨a,b,m,rfl,m7,m10,k⟩:=h
  refine⟨_,(az (nU (i:=3) [0] ["_law_one", "_law_other", "_law_many", "_law_words", "_law_lanes", "_law_parts", "_law_k", "_law_ins", "_law_last"] (aA gB) rfl sc.nd rfl (lV rfl T.qg (aa (bj cQ (bj iQ au (pv 2)) au) ak bZ)) (fun _ _ _ _ _=>fW) (fun _ _ _ _ _=>(aH (cT T) (hr.mono (by decide)) (by rfl) T.dD T.cZ.kp T.dG .nil aN (aa (pv 1) (aa (pv 0) ak aj) aj))))
   (az (xG (i:=4) ["_law_k", "_law_word_here"] [] ["_law_one", "_law_other", "_law_many", "_law_words", "_law_lanes", "_law_parts", "_law_k", "_law_ins", "_law_last"] (aA gB) rfl sc.nd rfl (pi_enum rfl T.yG (aa (pv 3) ak aj)) (fun _ _ _ _ _=>zj (K:=K) (n:=2) rfl rfl (bU (bL (i:=0) (show(["_law_k", "_law_word_here"]:List Str).Nodup by decide +kernel) rfl (Or.inl rfl) (.inr rfl)) (bU (bL (i:=1) (show(["_law_k", "_law_word_here"]:List Str).Nodup by decide +kernel) rfl (Or.inl rfl) (.inr rfl)) kZ))) (fun _ _ _ _ _=>fW) (fun _ _ _ _ _=>(cM (aa (pv 1) (aa (bj cQ au (bj cL (pv 0) au)) (aa (bh ak) ak aR) bZ) aj))))
   (az (bD (i:=5) sc.nd rfl (Or.inl rfl) (bh (aa (cM (aa bx (aa (aH (cT T) (hr.mono (by decide)) (by rfl) T.dD T.cZ.kp T.dG .nil aN (aa (pv 1) (aa au ak ao) aj)) (aa (bh ak) (aa (bh ak) (aa (fL lg (pv 3) rU (d8 au)) ak aJ) aR) aR) aW) ao)) (aa (cM (aa bx (aa (aH (cT T) (hr.mono (by decide)) (by rfl) T.dD T.cZ.kp T.dG .nil aN (aa (pv 1) (aa au ak ao) aj)) (aa (bh ak) (aa (bh ak) (aa (fL lg (pv 3) (d8 au) (d8 au)) ak aJ) aR) aR) aW) ao)) ak cg) cg)))
   (az (lB PassesOwn.never rfl (lV rfl T.qg (aa (pv 2) ak aj)) (bL (i:=6) sc.nd rfl (Or.inl rfl))
    (az (bD (i:=7) sc.nd rfl (Or.inl rfl) (fL lg (pv 3) (d8 (bj iQ au (pv 6))) (d8 (bj cQ (bj iQ au (pv 6)) au))))
    (aF (bz (ir PySem.F.plainAttrs_list PySem.F.slot_list_append PySem.F.type_list_append dh (pv 5) (aa (cM (aa bx (aa (aH (cT T) (hr.mono (by decide)) (by rfl) T.dD T.cZ.kp T.dG .nil aN (aa (pv 1) (aa (bj cQ au (pv 6)) ak bZ) aj)) (aa (bh ak) (aa (pv 7) (aa (fL lg (pv 3) (d8 (bj cQ (bj iQ au (pv 6)) au)) (d8 (bj cQ (bj iQ au (pv 6)) au))) ak aJ) aj) aR) aW) ao)) ak cg))))))
   (az (bD (i:=8) sc.nd rfl (Or.inl rfl) (bj iQ au (pv 2)))
   (az (bz (ir PySem.F.plainAttrs_list PySem.F.slot_list_append PySem.F.type_list_append dh (pv 5) (aa (cM (aa bx (aa (aH (cT T) (hr.mono (by decide)) (by rfl) T.dD T.cZ.kp T.dG .nil aN (aa (pv 1) (aa (bj cQ (pv 2) au) ak bZ) aj)) (aa (bh ak) (aa (fL lg (pv 3) (d8 (pv 8)) (d8 (bj cQ (pv 8) au))) (aa (fL lg (pv 3) (d8 (bj cQ (pv 8) au)) (d8 (bj cQ (pv 8) au))) ak aJ) aJ) aR) aW) ao)) ak cg)))
   (az (bz (ir PySem.F.plainAttrs_list PySem.F.slot_list_append PySem.F.type_list_append dh (pv 5) (aa (cM (aa bx (aa (aH (cT T) (hr.mono (by decide)) (by rfl) T.dD T.cZ.kp T.dG .nil aN (aa (pv 1) (aa (bj cQ (pv 2) au) ak bZ) aj)) (aa (bh ak) (aa (fL lg (pv 3) (d8 (bj cQ (pv 8) au)) (d8 (bj cQ (pv 8) au))) (aa (fL lg (pv 3) (d8 (bj cQ (pv 8) au)) rU) ak aJ) aJ) aR) aW) ao)) ak cg)))
   (az (bz (ir PySem.F.plainAttrs_list PySem.F.slot_list_append PySem.F.type_list_append dh (pv 5) (aa (cM (aa bx (aa (aH (cT T) (hr.mono (by decide)) (by rfl) T.dD T.cZ.kp T.dG .nil aN (aa (pv 1) (aa (bj cQ (pv 2) au) ak bZ) aj)) (aa (bh ak) (aa (fL lg (pv 3) (d8 (bj cQ (pv 8) au)) rU) (aa (bh ak) ak aR) aJ) aR) aW) ao)) ak cg)))
   (aF (bA (cM (aa (pv 4) (aa (pv 5) ak aj) aj)))))))))))),?_⟩
  have hz:sizeLine=16777216:=sizeLine_eq
  refine⟨_,rfl,_,_,rfl,rfl,eZ,_,_,rfl,rfl,((2 * m+4:Nat):Int),by simp,by omega,by omega,?_⟩
  rw [Int.toNat_natCast]
  refine pX (fun i ys H'=>aO H H'∧ys=oA a i) (by omega) ⟨aO.refl _,rfl⟩ (fun i ys H' ⟨_,e⟩=>by rw [e,tH];omega) ?_ ?_
  ·rintro i ys H' hi ⟨s,rfl⟩
   refine yes ⟨_,rfl,_,rfl,a,i,by rw [Int.zero_add];rfl,by omega,fun H2 s2=>⟨s.trans s2,?_⟩⟩
   rw [oA,oA,List.range_succ,List.map_append,List.map_append]
   rfl
  rintro ys H1 ⟨s1,rfl⟩ W nW
  have t2:=aC (o:=.lst (oA a (2 * m+4))) nW
  have eW:upd H1 W (.lst (oA a (2 * m+4))) W=some (.lst (oA a (2 * m+4))):=aq
  have s2:=s1.trans t2
  generalize upd H1 W (.lst (oA a (2 * m+4)))=H2 at t2 eW s2 ⊢
  have lW:=tH a (2 * m+4)
  refine⟨_,rfl,W,rfl,⟨_,SqL.of eW⟩,?_⟩
  refine comp_enumH (K:=K) (a:=W) (xs:=oA a (2 * m+4)) (fun i zs H'=>aO H2 H'∧zs.length≤i∧All2 (qM H') zs ((List.range i).map fun k=>⟨aG a k,1+((k % 3:Nat):Int),[]⟩)) (by omega) ⟨aO.refl _,Nat.le_refl _,.nil⟩ (fun i zs H' h=>h.2.1) (fun i zs H' _ h=>h.1.seq (SqL.of eW)) ?_ ?_
  ·rintro i y zs H' u hy ⟨s,hl,hA⟩ nu
   have hi:=(List.getElem?_eq_some_iff.mp hy).1
   rw [lW] at hi
   obtain rfl:y=.str (aG a i):=by
    rw [List.getElem?_map,List.getElem?_map,List.getElem?_range hi] at hy
    exact(Option.some.inj hy).symm
   refine⟨u,_,rfl,SqT.of aq,rfl,_,_,rfl,_,_,rfl,rfl,rfl,yes ?_⟩
   have tu:=aC (o:=.tup [.int (i:Nat),.str (aG a i)]) nu
   generalize upd H' u (.tup [.int (i:Nat),.str (aG a i)])=H3 at tu ⊢
   refine⟨_,rfl,_,rfl,_,_,rfl,rfl,by show(0:Int) <3;decide,_,_,rfl,rfl,by show 0≤sizeLine;exact szl,fun e0 n0=>⟨by show 3≤sizeLine;exact szl,fun r nr=>?_⟩⟩
   have g0:=aC (o:=.lst []) n0
   have x0:upd H3 e0 (.lst []) e0=some (.lst []):=aq
   generalize upd H3 e0 (.lst [])=H4 at g0 x0 nr ⊢
   have gr:=aC (o:=.tup [.str (aG a i),.int (1+(i:Int) % 3),.ref e0]) nr
   have sz:=tu.trans (g0.trans gr)
   refine⟨s.trans sz,by rw [lP,List.length_singleton];omega,?_⟩
   rw [List.range_succ,List.map_append,List.map_singleton]
   exact(hA.imp fun _ _ h=>h.same sz).app (.cons ⟨r,e0,rfl,aq,gr _ _ x0⟩ .nil)
  rintro zs H3 ⟨s3,hl,hA⟩ Ll nLl
  rw [lW] at hA
  have t4:=aC (o:=.lst zs) nLl
  have eLl:upd H3 Ll (.lst zs) Ll=some (.lst zs):=aq
  have hA4:All2 (qM (upd H3 Ll (.lst zs))) zs (zA a m):=hA.imp fun _ _ h=>h.same t4
  have s4:=s2.trans (s3.trans t4)
  have eW4:=(s3.trans t4) _ _ eW
  generalize upd H3 Ll (.lst zs)=H4 at t4 eLl hA4 s4 eW4 ⊢
  clear hA s3 s1
  refine⟨_,rfl,b,0,rfl,by omega,fun H5 su=>?_⟩
  refine⟨by show 0≤sizeLine;exact szl,fun u1 nu1=>?_⟩
  have tu1:=aC (o:=.lst []) nu1
  have xu1:upd H5 u1 (.lst []) u1=some (.lst []):=aq
  generalize upd H5 u1 (.lst [])=H6 at tu1 xu1 ⊢
  refine⟨by show 0≤sizeLine;exact szl,fun u2 nu2=>?_⟩
  have tu2:=aC (o:=.lst []) nu2
  have xu2:upd H6 u2 (.lst []) u2=some (.lst []):=aq
  generalize upd H6 u2 (.lst [])=H7 at tu2 xu2 ⊢
  refine⟨_,rfl,_,rfl,W,_,rfl,SqL.of (((su).trans ((tu1).trans (tu2))) _ _ eW4),fun u3 nu3=>?_⟩
  rw [cut0 (by omega)]
  have tu3:=aC (o:=.lst ([aG a 0].map V.str)) nu3
  have xu3:upd H7 u3 (.lst ([aG a 0].map V.str)) u3=some (.lst ([aG a 0].map V.str)):=aq
  generalize upd H7 u3 (.lst ([aG a 0].map V.str))=H8 at tu3 xu3 ⊢
  refine⟨by show 5≤sizeLine;exact szl,fun u4 nu4=>?_⟩
  have tu4:=aC (o:=.tup [.str "give",.str (aG b 0),.ref u1,.ref u2,.ref u3]) nu4
  have xu4:upd H8 u4 (.tup [.str "give",.str (aG b 0),.ref u1,.ref u2,.ref u3]) u4=some (.tup [.str "give",.str (aG b 0),.ref u1,.ref u2,.ref u3]):=aq
  generalize upd H8 u4 (.tup [.str "give",.str (aG b 0),.ref u1,.ref u2,.ref u3])=H9 at tu4 xu4 ⊢
  refine⟨_,rfl,b,1,rfl,by omega,fun H10 sv=>?_⟩
  refine⟨by show 0≤sizeLine;exact szl,fun v1 nv1=>?_⟩
  have tv1:=aC (o:=.lst []) nv1
  have xv1:upd H10 v1 (.lst []) v1=some (.lst []):=aq
  generalize upd H10 v1 (.lst [])=H11 at tv1 xv1 ⊢
  refine⟨by show 0≤sizeLine;exact szl,fun v2 nv2=>?_⟩
  have tv2:=aC (o:=.lst []) nv2
  have xv2:upd H11 v2 (.lst []) v2=some (.lst []):=aq
  generalize upd H11 v2 (.lst [])=H12 at tv2 xv2 ⊢
  refine⟨_,rfl,_,rfl,_,rfl,W,_,rfl,SqL.of (((su).trans ((tu1).trans ((tu2).trans ((tu3).trans ((tu4).trans ((sv).trans ((tv1).trans (tv2)))))))) _ _ eW4),fun v3 nv3=>?_⟩
  rw [show oU (oA a (2 * m+4)) (some 1) (some 2)=[aG a 1].map V.str from cut1 (i:=1) (by omega)]
  have tv3:=aC (o:=.lst ([aG a 1].map V.str)) nv3
  have xv3:upd H12 v3 (.lst ([aG a 1].map V.str)) v3=some (.lst ([aG a 1].map V.str)):=aq
  generalize upd H12 v3 (.lst ([aG a 1].map V.str))=H13 at tv3 xv3 ⊢
  refine⟨by show 5≤sizeLine;exact szl,fun v4 nv4=>?_⟩
  have tv4:=aC (o:=.tup [.str "give",.str (aG b 1),.ref v1,.ref v2,.ref v3]) nv4
  have xv4:upd H13 v4 (.tup [.str "give",.str (aG b 1),.ref v1,.ref v2,.ref v3]) v4=some (.tup [.str "give",.str (aG b 1),.ref v1,.ref v2,.ref v3]):=aq
  generalize upd H13 v4 (.tup [.str "give",.str (aG b 1),.ref v1,.ref v2,.ref v3])=H14 at tv4 xv4 ⊢
  have ru:oH H14 (.ref u4) ⟨0,aG b 0,[],[],[aG a 0]⟩:=⟨u4,u1,u2,u3,rfl,((sv).trans ((tv1).trans ((tv2).trans ((tv3).trans (tv4))))) _ _ xu4,((tu2).trans ((tu3).trans ((tu4).trans ((sv).trans ((tv1).trans ((tv2).trans ((tv3).trans (tv4)))))))) _ _ xu1,((tu3).trans ((tu4).trans ((sv).trans ((tv1).trans ((tv2).trans ((tv3).trans (tv4))))))) _ _ xu2,((tu4).trans ((sv).trans ((tv1).trans ((tv2).trans ((tv3).trans (tv4)))))) _ _ xu3⟩
  have rv:oH H14 (.ref v4) ⟨0,aG b 1,[],[],[aG a 1]⟩:=⟨v4,v1,v2,v3,rfl,(aO.refl _) _ _ xv4,((tv2).trans ((tv3).trans (tv4))) _ _ xv1,((tv3).trans (tv4)) _ _ xv2,(tv4) _ _ xv3⟩
  have s5:=((su).trans ((tu1).trans ((tu2).trans ((tu3).trans ((tu4).trans ((sv).trans ((tv1).trans ((tv2).trans ((tv3).trans (tv4))))))))))
  skip
  refine⟨by show 2≤sizeLine;exact szl,fun P nP=>?_⟩
  have cP:=off_new (aC (o:=.lst [.ref u4,.ref v4]) nP) nP
  have eP:upd H14 P (.lst [.ref u4,.ref v4]) P=some (.lst [.ref u4,.ref v4]):=aq
  generalize upd H14 P (.lst [.ref u4,.ref v4])=HC at cP eP ⊢
  have eWB:=s5 _ _ eW4
  refine⟨_,rfl,(m:Int),rfl,by omega,by omega,?_⟩
  rw [Int.toNat_natCast]
  refine yw (n:=m) (fun j σ H'=>∃v6 v7 ws,σ=[some (.int a),some (.int b),some (.int (m:Nat)),some (.ref W),some (.ref Ll),some (.ref P),v6,v7,none]∧aO H14 (bR [P] H')∧H' P=some (.lst ws)∧All2 (oH (bR [P] H')) ws ([⟨0,aG b 0,[],[],[aG a 0]⟩,⟨0,aG b 1,[],[],[aG a 1]⟩] ++ (List.range j).map (vU a b))) ⟨_,_,_,rfl,cP,eP,.cons (ru.same cP) (.cons (rv.same cP) .nil)⟩ ?_ ?_
  ·rintro j σ HD hj ⟨v6,v7,ws,rfl,cD,eD,hD⟩
   have lw:=hD.length
   rw [lP,lM,List.length_range] at lw
   rw [Int.zero_add]
   have eWD:=cY _ _ (cD _ _ eWB)
   have k1:oU (oA a (2 * m+4)) (some (2 * (j:Int))) (some (2 * (j:Int)+2))=[aG a (2 * j),aG a (2 * j+1)].map V.str:=by
    rw [show(2 * (j:Int))=((2 * j:Nat):Int) by omega,show(((2 * j:Nat):Int)+2)=((2 * j+2:Nat):Int) by omega]
    exact cut2 (by omega)
   have k2:oU (oA a (2 * m+4)) (some (2 * (j:Int)+2)) (some (2 * (j:Int)+4))=[aG a (2 * j+2),aG a (2 * j+3)].map V.str:=by
    rw [show(2 * (j:Int)+2)=((2 * j+2:Nat):Int) by omega,show(2 * (j:Int)+4)=((2 * j+2+2:Nat):Int) by omega]
    exact cut2 (by omega)
   refine⟨_,rfl,_,rfl,_,_,rfl,rfl,eZ,_,rfl,_,rfl,_,_,rfl,rfl,eZ,_,_,rfl,rfl,_,rfl,W,_,rfl,SqL.of eWD,fun I nI=>?_⟩
   dsimp only
   rw [k1]
   have tI:=aC (o:=.lst ([aG a (2 * j),aG a (2 * j+1)].map V.str)) nI
   have xI:upd HD I (.lst ([aG a (2 * j),aG a (2 * j+1)].map V.str)) I=some (.lst ([aG a (2 * j),aG a (2 * j+1)].map V.str)):=aq
   have mI:I≠P:=Ne.symm (aD eD nI)
   have cE:=pW tI eD
   generalize upd HD I (.lst ([aG a (2 * j),aG a (2 * j+1)].map V.str))=HE at tI xI cE ⊢
   have eE:=tI _ _ eD
   have hE:=hD.imp fun _ _ h=>oH.same h cE
   have cE:=cD.trans cE
   have eWE:=tI _ _ eWD
   refine⟨_,rfl,.inl ⟨rfl,_,SqL.of eE⟩,_,rfl,_,rfl,_,_,rfl,rfl,b,2+j,by rw [Int.natCast_add];rfl,by omega,fun Xwp swp=>?_⟩
   refine⟨by show 0≤sizeLine;exact szl,fun p1 np1=>?_⟩
   have mp1:p1≠P:=Ne.symm (aD ((swp) _ _ eE) np1)
   have tp1:=aC (o:=.lst []) np1
   have xp1:upd Xwp p1 (.lst []) p1=some (.lst []):=aq
   generalize upd Xwp p1 (.lst [])=Xpp1 at tp1 xp1 ⊢
   refine⟨_,rfl,?_⟩
   refine⟨_,rfl,_,rfl,_,_,rfl,rfl,eZ,_,_,rfl,rfl,_,rfl,_,rfl,_,_,rfl,rfl,eZ,_,_,rfl,rfl,_,rfl,W,_,rfl,SqL.of (((swp).trans (tp1)) _ _ eWE),fun p3 np3=>?_⟩
   dsimp only
   rw [k2]
   have mp3:p3≠P:=Ne.symm (aD (((swp).trans (tp1)) _ _ eE) np3)
   have tp3:=aC (o:=.lst ([aG a (2 * j+2),aG a (2 * j+3)].map V.str)) np3
   have xp3:upd Xpp1 p3 (.lst ([aG a (2 * j+2),aG a (2 * j+3)].map V.str)) p3=some (.lst ([aG a (2 * j+2),aG a (2 * j+3)].map V.str)):=aq
   generalize upd Xpp1 p3 (.lst ([aG a (2 * j+2),aG a (2 * j+3)].map V.str))=Xpp3 at tp3 xp3 ⊢
   refine⟨by show 5≤sizeLine;exact szl,fun p4 np4=>?_⟩
   have tp4:=aC (o:=.tup [.str "order",.str (aG b (2+j)),.ref p1,.ref I,.ref p3]) np4
   have xp4:upd Xpp3 p4 (.tup [.str "order",.str (aG b (2+j)),.ref p1,.ref I,.ref p3]) p4=some (.tup [.str "order",.str (aG b (2+j)),.ref p1,.ref I,.ref p3]):=aq
   generalize upd Xpp3 p4 (.tup [.str "order",.str (aG b (2+j)),.ref p1,.ref I,.ref p3])=Xpp4 at tp4 xp4 ⊢
   refine⟨P,_,_,rfl,rfl,((swp).trans ((tp1).trans ((tp3).trans (tp4)))) _ _ eE,by rw [List.length_cons,List.length_cons,List.length_nil] at lw;omega,?_⟩
   have app:=zf (p:=⟨8,aG b (2+j),[],[aG a (2 * j),aG a (2 * j+1)],[aG a (2 * j+2),aG a (2 * j+3)]⟩) cE eE hE ((swp).trans ((tp1).trans ((tp3).trans (tp4)))) xp4 (((tp3).trans (tp4)) _ _ xp1) (((swp).trans ((tp1).trans ((tp3).trans (tp4)))) _ _ xI) ((tp4) _ _ xp3) mp1 mI mp3
   skip
   obtain⟨c9,e9,h9⟩:=app
   refine⟨_,_,_,rfl,c9,e9,?_⟩
   rw [List.range_succ,List.map_append,List.map_singleton,←List.append_assoc]
   exact h9
  rintro σ HD ⟨v6,v7,ws,rfl,cD,eD,hD⟩
  have lw:=hD.length
  rw [lP,lM,List.length_range,List.length_cons,List.length_cons,List.length_nil] at lw
  refine⟨_,rfl,_,_,rfl,rfl,eZ,?_⟩
  have k1:oU (oA a (2 * m+4)) (some (2 * (m:Int))) (some (2 * (m:Int)+2))=[aG a (2 * m),aG a (2 * m+1)].map V.str:=by
   rw [show(2 * (m:Int))=((2 * m:Nat):Int) by omega,show(((2 * m:Nat):Int)+2)=((2 * m+2:Nat):Int) by omega]
   exact cut2 (by omega)
  have k2:oU (oA a (2 * m+4)) (some (2 * (m:Int)+2)) (some (2 * (m:Int)+3))=[aG a (2 * m+2)].map V.str:=by
   rw [show(2 * (m:Int)+2)=((2 * m+2:Nat):Int) by omega,show(2 * (m:Int)+3)=((2 * m+2+1:Nat):Int) by omega]
   exact cut1 (by omega)
  have k3:oU (oA a (2 * m+4)) (some (2 * (m:Int)+3)) none=[aG a (2 * m+3)].map V.str:=by
   rw [show(2 * (m:Int)+3)=((2 * m+3:Nat):Int) by omega]
   exact cutE (by omega)
  have eWD:=cY _ _ (cD _ _ eWB)
  refine⟨_,rfl,.inl ⟨rfl,_,SqL.of eD⟩,_,rfl,_,rfl,_,_,rfl,rfl,b,m+2,by rw [Int.natCast_add];rfl,by omega,fun Xwp swp=>?_⟩
  refine⟨by show 0≤sizeLine;exact szl,fun p1 np1=>?_⟩
  have mp1:p1≠P:=Ne.symm (aD ((swp) _ _ eD) np1)
  have tp1:=aC (o:=.lst []) np1
  have xp1:upd Xwp p1 (.lst []) p1=some (.lst []):=aq
  generalize upd Xwp p1 (.lst [])=Xpp1 at tp1 xp1 ⊢
  refine⟨_,rfl,_,rfl,_,rfl,_,rfl,_,_,rfl,rfl,_,rfl,W,_,rfl,SqL.of (((swp).trans (tp1)) _ _ eWD),fun p2 np2=>?_⟩
  dsimp only
  rw [k1]
  have mp2:p2≠P:=Ne.symm (aD (((swp).trans (tp1)) _ _ eD) np2)
  have tp2:=aC (o:=.lst ([aG a (2 * m),aG a (2 * m+1)].map V.str)) np2
  have xp2:upd Xpp1 p2 (.lst ([aG a (2 * m),aG a (2 * m+1)].map V.str)) p2=some (.lst ([aG a (2 * m),aG a (2 * m+1)].map V.str)):=aq
  generalize upd Xpp1 p2 (.lst ([aG a (2 * m),aG a (2 * m+1)].map V.str))=Xpp2 at tp2 xp2 ⊢
  refine⟨_,rfl,_,rfl,_,_,rfl,rfl,_,rfl,_,rfl,_,_,rfl,rfl,_,rfl,W,_,rfl,SqL.of (((swp).trans ((tp1).trans (tp2))) _ _ eWD),fun p3 np3=>?_⟩
  dsimp only
  rw [k2]
  have mp3:p3≠P:=Ne.symm (aD (((swp).trans ((tp1).trans (tp2))) _ _ eD) np3)
  have tp3:=aC (o:=.lst ([aG a (2 * m+2)].map V.str)) np3
  have xp3:upd Xpp2 p3 (.lst ([aG a (2 * m+2)].map V.str)) p3=some (.lst ([aG a (2 * m+2)].map V.str)):=aq
  generalize upd Xpp2 p3 (.lst ([aG a (2 * m+2)].map V.str))=Xpp3 at tp3 xp3 ⊢
  refine⟨by show 5≤sizeLine;exact szl,fun p4 np4=>?_⟩
  have tp4:=aC (o:=.tup [.str "add",.str (aG b (m+2)),.ref p1,.ref p2,.ref p3]) np4
  have xp4:upd Xpp3 p4 (.tup [.str "add",.str (aG b (m+2)),.ref p1,.ref p2,.ref p3]) p4=some (.tup [.str "add",.str (aG b (m+2)),.ref p1,.ref p2,.ref p3]):=aq
  generalize upd Xpp3 p4 (.tup [.str "add",.str (aG b (m+2)),.ref p1,.ref p2,.ref p3])=Xpp4 at tp4 xp4 ⊢
  refine⟨P,_,_,rfl,rfl,((swp).trans ((tp1).trans ((tp2).trans ((tp3).trans (tp4))))) _ _ eD,by omega,?_⟩
  have app:=zf (p:=⟨6,aG b (m+2),[],[aG a (2 * m),aG a (2 * m+1)],[aG a (2 * m+2)]⟩) cD eD hD ((swp).trans ((tp1).trans ((tp2).trans ((tp3).trans (tp4))))) xp4 (((tp2).trans ((tp3).trans (tp4))) _ _ xp1) (((tp3).trans (tp4)) _ _ xp2) ((tp4) _ _ xp3) mp1 mp2 mp3
  skip
  have lep:ws.length=m+2:=by omega
  obtain⟨cp,ep,hp⟩:=app
  generalize upd Xpp4 P _=Yp at cp ep hp ⊢
  have wp:=cY _ _ (cp _ _ eWB)
  refine⟨_,rfl,.inl ⟨rfl,_,SqL.of ep⟩,_,rfl,_,rfl,_,_,rfl,rfl,b,m+3,by rw [Int.natCast_add];rfl,by omega,fun Xwq swq=>?_⟩
  refine⟨by show 0≤sizeLine;exact szl,fun q1 nq1=>?_⟩
  have mq1:q1≠P:=Ne.symm (aD ((swq) _ _ ep) nq1)
  have tq1:=aC (o:=.lst []) nq1
  have xq1:upd Xwq q1 (.lst []) q1=some (.lst []):=aq
  generalize upd Xwq q1 (.lst [])=Xqq1 at tq1 xq1 ⊢
  refine⟨_,rfl,_,rfl,_,_,rfl,rfl,_,rfl,_,rfl,_,_,rfl,rfl,_,rfl,W,_,rfl,SqL.of (((swq).trans (tq1)) _ _ wp),fun q2 nq2=>?_⟩
  dsimp only
  rw [k2]
  have mq2:q2≠P:=Ne.symm (aD (((swq).trans (tq1)) _ _ ep) nq2)
  have tq2:=aC (o:=.lst ([aG a (2 * m+2)].map V.str)) nq2
  have xq2:upd Xqq1 q2 (.lst ([aG a (2 * m+2)].map V.str)) q2=some (.lst ([aG a (2 * m+2)].map V.str)):=aq
  generalize upd Xqq1 q2 (.lst ([aG a (2 * m+2)].map V.str))=Xqq2 at tq2 xq2 ⊢
  refine⟨_,rfl,_,rfl,_,_,rfl,rfl,_,rfl,W,_,rfl,SqL.of (((swq).trans ((tq1).trans (tq2))) _ _ wp),fun q3 nq3=>?_⟩
  dsimp only
  rw [k3]
  have mq3:q3≠P:=Ne.symm (aD (((swq).trans ((tq1).trans (tq2))) _ _ ep) nq3)
  have tq3:=aC (o:=.lst ([aG a (2 * m+3)].map V.str)) nq3
  have xq3:upd Xqq2 q3 (.lst ([aG a (2 * m+3)].map V.str)) q3=some (.lst ([aG a (2 * m+3)].map V.str)):=aq
  generalize upd Xqq2 q3 (.lst ([aG a (2 * m+3)].map V.str))=Xqq3 at tq3 xq3 ⊢
  refine⟨by show 5≤sizeLine;exact szl,fun q4 nq4=>?_⟩
  have tq4:=aC (o:=.tup [.str "pass",.str (aG b (m+3)),.ref q1,.ref q2,.ref q3]) nq4
  have xq4:upd Xqq3 q4 (.tup [.str "pass",.str (aG b (m+3)),.ref q1,.ref q2,.ref q3]) q4=some (.tup [.str "pass",.str (aG b (m+3)),.ref q1,.ref q2,.ref q3]):=aq
  generalize upd Xqq3 q4 (.tup [.str "pass",.str (aG b (m+3)),.ref q1,.ref q2,.ref q3])=Xqq4 at tq4 xq4 ⊢
  refine⟨P,_,_,rfl,rfl,((swq).trans ((tq1).trans ((tq2).trans ((tq3).trans (tq4))))) _ _ ep,by simp only [lP,List.length_singleton];omega,?_⟩
  have apq:=zf (p:=⟨2,aG b (m+3),[],[aG a (2 * m+2)],[aG a (2 * m+3)]⟩) cp ep hp ((swq).trans ((tq1).trans ((tq2).trans ((tq3).trans (tq4))))) xq4 (((tq2).trans ((tq3).trans (tq4))) _ _ xq1) (((tq3).trans (tq4)) _ _ xq2) ((tq4) _ _ xq3) mq1 mq2 mq3
  skip
  obtain⟨cq,eq,hq⟩:=apq
  generalize upd Xqq4 P _=Yq at cq eq hq ⊢
  have wq:=cY _ _ (cq _ _ eWB)
  refine⟨_,rfl,.inl ⟨rfl,_,SqL.of eq⟩,_,rfl,_,rfl,_,_,rfl,rfl,b,m+4,by rw [Int.natCast_add];rfl,by omega,fun Xwr swr=>?_⟩
  refine⟨by show 0≤sizeLine;exact szl,fun r1 nr1=>?_⟩
  have mr1:r1≠P:=Ne.symm (aD ((swr) _ _ eq) nr1)
  have tr1:=aC (o:=.lst []) nr1
  have xr1:upd Xwr r1 (.lst []) r1=some (.lst []):=aq
  generalize upd Xwr r1 (.lst [])=Xrr1 at tr1 xr1 ⊢
  refine⟨_,rfl,_,rfl,_,_,rfl,rfl,_,rfl,W,_,rfl,SqL.of (((swr).trans (tr1)) _ _ wq),fun r2 nr2=>?_⟩
  dsimp only
  rw [k3]
  have mr2:r2≠P:=Ne.symm (aD (((swr).trans (tr1)) _ _ eq) nr2)
  have tr2:=aC (o:=.lst ([aG a (2 * m+3)].map V.str)) nr2
  have xr2:upd Xrr1 r2 (.lst ([aG a (2 * m+3)].map V.str)) r2=some (.lst ([aG a (2 * m+3)].map V.str)):=aq
  generalize upd Xrr1 r2 (.lst ([aG a (2 * m+3)].map V.str))=Xrr2 at tr2 xr2 ⊢
  refine⟨by show 0≤sizeLine;exact szl,fun r3 nr3=>?_⟩
  have mr3:r3≠P:=Ne.symm (aD (((swr).trans ((tr1).trans (tr2))) _ _ eq) nr3)
  have tr3:=aC (o:=.lst []) nr3
  have xr3:upd Xrr2 r3 (.lst []) r3=some (.lst []):=aq
  generalize upd Xrr2 r3 (.lst [])=Xrr3 at tr3 xr3 ⊢
  refine⟨by show 5≤sizeLine;exact szl,fun r4 nr4=>?_⟩
  have tr4:=aC (o:=.tup [.str "take",.str (aG b (m+4)),.ref r1,.ref r2,.ref r3]) nr4
  have xr4:upd Xrr3 r4 (.tup [.str "take",.str (aG b (m+4)),.ref r1,.ref r2,.ref r3]) r4=some (.tup [.str "take",.str (aG b (m+4)),.ref r1,.ref r2,.ref r3]):=aq
  generalize upd Xrr3 r4 (.tup [.str "take",.str (aG b (m+4)),.ref r1,.ref r2,.ref r3])=Xrr4 at tr4 xr4 ⊢
  refine⟨P,_,_,rfl,rfl,((swr).trans ((tr1).trans ((tr2).trans ((tr3).trans (tr4))))) _ _ eq,by simp only [lP,List.length_singleton];omega,?_⟩
  have apr:=zf (p:=⟨1,aG b (m+4),[],[aG a (2 * m+3)],[]⟩) cq eq hq ((swr).trans ((tr1).trans ((tr2).trans ((tr3).trans (tr4))))) xr4 (((tr2).trans ((tr3).trans (tr4))) _ _ xr1) (((tr3).trans (tr4)) _ _ xr2) ((tr4) _ _ xr3) mr1 mr2 mr3
  skip
  obtain⟨cr,er,hr⟩:=apr
  generalize upd Xrr4 P _=Yr at cr er hr ⊢
  have wr:=cY _ _ (cr _ _ eWB)
  refine⟨_,rfl,_,rfl,by show 2≤sizeLine;exact szl,fun Tt nT=>?_⟩
  have tT:=aC (o:=.tup [.ref Ll,.ref P]) nT
  have sB:aO H14 (upd Yr Tt (.tup [.ref Ll,.ref P])):=cr.trans (cY.trans tT)
  refine k Tt Ll P _ (s4.trans (s5.trans sB)) aq ⟨⟨zs,sB _ _ (s5 _ _ eLl),hA4.imp fun _ _ h=>h.same (s5.trans sB)⟩,⟨_,tT _ _ er,?_⟩⟩
  have hr:=hr.imp fun _ _ h=>oH.same h (cY.trans tT)
  have ew:∀(X:List PD) (x y z:PD),X ++ [x,y,z]=X ++ [x] ++ [y] ++ [z]:=fun X x y z=>by simp
  unfold oW
  rw [ew]
  exact hr
abbrev XC:List V:=[.str "",.str "abcdefghi",.str "7a",.str "a_b",.str "aB",.non,.int 5]
theorem pickC (m:Int):∃v,atI XC (m % 7)=some v∧gf v:=by
 have h0:=Int.emod_nonneg m (show(7:Int)≠0 by decide)
 have h1:=Int.emod_lt_of_pos m (show(0:Int) <7 by decide)
 have:m % 7=0∨m % 7=1∨m % 7=2∨m % 7=3∨m % 7=4∨m % 7=5∨m % 7=6:=by omega
 rcases this with e | e | e | e | e | e | e <;> rw [e]
 ·exact⟨_,rfl,.inl ⟨_,rfl,by decide +kernel,by decide +kernel⟩⟩
 ·exact⟨_,rfl,.inl ⟨_,rfl,by decide +kernel,by decide +kernel⟩⟩
 ·exact⟨_,rfl,.inl ⟨_,rfl,by decide +kernel,by decide +kernel⟩⟩
 ·exact⟨_,rfl,.inl ⟨_,rfl,by decide +kernel,by decide +kernel⟩⟩
 ·exact⟨_,rfl,.inl ⟨_,rfl,by decide +kernel,by decide +kernel⟩⟩
 ·exact⟨_,rfl,.inr (.inl rfl)⟩
 ·exact⟨_,rfl,.inr (.inr rfl)⟩
def sp__law_called (K:PySem.W.Frag):Sp:=fun vs H Q _=>∃(c:Int) (j:Nat) (N:Addr) (ns:List Str),vs=[.int c,.int (j:Nat),.ref N]∧j≤25∧H N=some (.lst (ns.map V.str))∧1≤ns.length∧ns.length≤24∧(∀z∈ns,nameB z=true)∧∀H' v,aO H H'→gf v→Q v H'
theorem sc__law_called:FnScope ["_law_cell_here", "_law_k", "_law_names", "_law_way"] ["_law_cell_here", "_law_k", "_law_names"] (aA gO):=⟨rfl,rfl,rfl,by decide +kernel,rfl,by decide +kernel,by decide +kernel⟩
theorem uR (T:Txt w K mg t):FnOk P w K mg base CX0 3 t.qW t.pH ["_law_cell_here", "_law_k", "_law_names"] (sp__law_called K):=by
 have sc:=sc__law_called
 refine T.qQ.ok sc (fun vs H Q E h=>?_) (fun cdv A outer s H vs Q E hr h=>?_)
 ·obtain⟨c,j,N,ns,rfl,_⟩:=h
  rfl
 ·obtain⟨c,j,N,ns,rfl,hj,eN,n1,n24,hN,k⟩:=h
  refine⟨_,(az (bD (i:=3) sc.nd rfl (Or.inl rfl) (bj cL (aH (aV T) (hr.mono (by decide)) (by rfl) T.bf T.aZ.kp T.bc .nil aN (aa (pv 0) (aa au ak ao) aj)) au))
   (az (cz (bC gJ (pv 3) au (bW _))
    (aF (bA (bG bN (pv 2) (bj cL (aH (aV T) (hr.mono (by decide)) (by rfl) T.bf T.aZ.kp T.bc .nil aN (aa (pv 0) (aa au ak ao) aj)) (bI cj (by rfl) T.gh dR (aa (pv 2) ak aj))) (fun _ _=>rfl))))
    bJ)
   (az (cz (bC gJ (pv 3) au (bW _))
    (aF (bA (bG bN (bh (aa bx (aa bx (aa bx (aa bx (aa bx (aa pe_non (aa au ak ao) ao) ao) ao) ao) ao) ao)) (bj cL (aH (aV T) (hr.mono (by decide)) (by rfl) T.bf T.aZ.kp T.bc .nil aN (aa (pv 0) (aa au ak ao) aj)) au) (fun _ _=>rfl))))
    bJ)
   (aF (bA (aH (cT T) (hr.mono (by decide)) (by rfl) T.dD T.cZ.kp T.dG .nil aN (aa (aH (aV T) (hr.mono (by decide)) (by rfl) T.bf T.aZ.kp T.bc .nil aN (aa (pv 0) (aa au ak ao) aj)) (aa (pv 1) ak aj) aW))))))),?_⟩
  have hz:sizeLine=16777216:=sizeLine_eq
  refine⟨_,rfl,c,3,rfl,_,_,rfl,rfl,by show(0:Int) <6;decide,?_⟩
  refine⟨_,rfl,rfl,_,rfl,iy (fun _=>?_) (fun _=>?_)⟩
  ·obtain⟨mo,hmo⟩:∃mo:Int,cu c 4=mo:=⟨_,rfl⟩
   have m0:=Int.emod_nonneg mo (show(ns.length:Int)≠0 by omega)
   have m1:=Int.emod_lt_of_pos mo (show(0:Int) <(ns.length:Int) by omega)
   obtain⟨i,hi⟩:∃i:Nat,mo % (ns.length:Int)=(i:Int):=⟨_,(Int.toNat_of_nonneg m0).symm⟩
   have hil:i <ns.length:=by omega
   have hm:nameB ns[i]=true:=hN _ (List.getElem_mem hil)
   refine⟨_,rfl,_,rfl,c,4,rfl,_,rfl,.ref N,ns.length,rfl,.inl ⟨_,SqL.of eN,by rw [lM]⟩,cu c 4,(ns.length:Int),rfl,rfl,by omega,N,ns.map V.str,(i:Int),.str ns[i],rfl,by show V.int (cu c 4 % (ns.length:Int))=_;rw [hmo,hi],SqL.of eN,aQ (by rw [List.getElem?_map,List.getElem?_eq_getElem hil];rfl),?_⟩
   exact k _ _ (aO.refl _) (.inl ⟨_,rfl,vM hm,vI hm⟩)
  ·refine⟨_,rfl,rfl,_,rfl,iy (fun _=>?_) (fun _=>?_)⟩
   ·obtain⟨v,ev,hv⟩:=pickC (cu c 4)
    refine⟨by show 7≤sizeLine;exact szl,fun l0 n0=>⟨_,rfl,c,4,rfl,_,_,rfl,rfl,by show(0:Int) <7;decide,l0,_,_,_,rfl,rfl,SqL.of aq,ev,k _ _ (aC n0) hv⟩⟩
   ·exact⟨_,rfl,c,5,rfl,_,rfl,cu c 5,j,rfl,hj,fun H2 s2=>k _ _ s2 (.inl ⟨_,rfl,word_len _ (by omega),vI (sO _ (by omega))⟩)⟩
def sp__law_is_name:Sp:=fun vs H Q _=>∃v:V,vs=[v]∧gf v∧∀H',aO H H'→Q (.bl (nameV v)) H'
theorem sc__law_is_name:FnScope ["_law_word_here"] ["_law_word_here"] (aA fD):=⟨rfl,rfl,rfl,by decide +kernel,rfl,by decide +kernel,by decide +kernel⟩
theorem ok__law_is_name (T:Txt w K mg t):FnOk P w K mg base CX0 1 t.pL t.oR ["_law_word_here"] (sp__law_is_name):=by
 have sc:=sc__law_is_name
 refine T.uQ.ok sc (fun vs H Q E h=>?_) (fun cdv A outer s H vs Q E hr h=>?_)
 ·obtain⟨v,rfl,_⟩:=h
  rfl
 ·obtain⟨v,rfl,hv,k⟩:=h
  refine⟨_,(az (cz (PW.pt (tY (km (mK (bI xY (by rfl) T.my kY (aa (pv 0) (aa (zy (by rfl) T.n_str bt_str) ak aj) aj)))) (tY (bC xU (bI cj (by rfl) T.gh dR (aa (pv 0) ak aj)) au (bW _)) (tY (bC op_gt (bI cj (by rfl) T.gh dR (aa (pv 0) ak aj)) au (bW _)) (qR (km (pQ pC pC bx (bG Ak (pv 0) au (fun _ _=>rfl)) bx)))))))
    (aF (bA oG))
    bJ)
   (aF (bA (zp (op_eqD hr.units) (rQ [] ["_law_word_here"] (aA fD) rfl (pi_str (pv 0)) (fun _ _ _ _ _=>(pf_one (km (PW.pt (tY (pQ pC pC bx (pv 0) bx) (qR (pQ pC pC bx (pv 0) bx))))))) (fun _ _ _ _ _=>(pv 0))) (bh ak) (bW _))))),?_⟩
  have hl:sizeLine=16777216:=sizeLine_eq
  rcases hv with ⟨z,rfl,hz,ok⟩ | rfl | rfl
  rotate_left
  ·exact⟨_,rfl,.non, "NoneType", "str",false,rfl,rfl,by decide,by decide,false,rfl,kW (kW (k _ (aO.refl _)))⟩
  ·exact⟨_,rfl,.int 5, "int", "str",false,rfl,rfl,by decide,by decide,false,rfl,kW (kW (k _ (aO.refl _)))⟩
  refine⟨_,rfl,.str z, "str", "str",true,rfl,rfl,by decide,by decide,true,rfl,fP ?_⟩
  have k:∀H',aO H H'→Q (.bl (nameB z)) H':=k
  cases e:z.cps.toList with
  | nil=>
   have h0:z.length=0:=by rw [←iJ,e];rfl
   unfold nameB at k
   rw [e] at k
   exact⟨_,rfl,.str z,z.length,rfl,⟨by omega,rfl⟩,_,_,rfl,rfl,_,rfl,tG (by omega) (kW (k _ (aO.refl _)))⟩
  | cons c r=>
  have hlen:z.length=r.length+1:=by rw [←iJ,e];rfl
  have hc0:atI z.cps.toList 0=some c:=by rw [e];exact aQ (xs:=c:: r) (j:=0) rfl
  have k':∀H',aO H H'→Q (.bl (decide (r.length≤7) && (low c && z.cps.toList.all fun d=>low d || fig d))) H':=by
   unfold nameB at k
   rw [e] at k ⊢
   exact k
  clear k
  refine⟨_,rfl,.str z,z.length,rfl,⟨by omega,rfl⟩,_,_,rfl,rfl,_,rfl,dJ (by omega) ?_⟩
  refine⟨_,rfl,.str z,z.length,rfl,⟨by omega,rfl⟩,_,_,rfl,rfl,_,rfl,iy (fun h=>?_) (fun h=>?_)⟩
  ·have h8:8 <(z.length:Int):=of_decide_eq_true h
   rw [decide_eq_false (show ¬r.length≤7 by omega),Bool.false_and] at k'
   exact kW (k' _ (aO.refl _))
  have h8:¬8 <(z.length:Int):=fun q=>h (decide_eq_true q)
  rw [decide_eq_true (show r.length≤7 by omega),Bool.true_and] at k'
  refine⟨_,rfl,z,_,c,rfl,rfl,by omega,hc0,_,_,rfl,rfl,_,rfl,?_⟩
  have lc:∀d,(!decide ((⟨#[d]⟩:Str).cps.toList <("a" :Str).cps.toList))=decide (97≤d):=fun d=>by rw [code_a];exact zc 97 d
  have lc2:∀d,(!decide (("z" :Str).cps.toList <(⟨#[d]⟩:Str).cps.toList))=decide (d≤122):=fun d=>by rw [code_z];exact zc d 122
  rw [lc]
  refine iy (fun h1=>?_) (fun h1=>?_)
  rotate_left
  ·have:low c=false:=by unfold low;rw [show decide (97≤c)=false by simpa using h1];rfl
   rw [this,Bool.false_and] at k'
   exact⟨_,rfl,kW (k' _ (aO.refl _))⟩
  refine⟨_,_,rfl,rfl,_,rfl,?_⟩
  rw [lc2]
  refine iy (fun h2=>?_) (fun h2=>?_)
  ·have:low c=false:=by unfold low;rw [show decide (c≤122)=false by simpa using h2,Bool.and_false]
   rw [this,Bool.false_and] at k'
   exact k' _ (aO.refl _)
  have hlow:low c=true:=by unfold low;rw [h1,show decide (c≤122)=true by simpa using h2];rfl
  rw [hlow,Bool.true_and] at k'
  refine⟨_,rfl,z,rfl,comp_str (fun i ys H'=>H'=H∧ys=(((z.cps.toList.take i).filter fun d=>!(low d || fig d)).map fun d=>(⟨#[d]⟩:Str)).map V.str) (by simp only [Str.length] at hz;omega) ⟨rfl,by simp⟩ (fun i ys H' ⟨_,e⟩=>by rw [e,lM,lM];exact Nat.le_trans (List.length_filter_le _ _) (by rw [List.length_take];omega)) ?_ ?_⟩
  ·rintro i d ys H' hd ⟨rfl,rfl⟩
   have hd':z.cps.toList[i]?=some d:=by simpa using hd
   have f3:(!decide ((⟨#[d]⟩:Str).cps.toList <("0" :Str).cps.toList))=decide (48≤d):=by rw [code_0];exact zc 48 d
   have f4:(!decide (("9" :Str).cps.toList <(⟨#[d]⟩:Str).cps.toList))=decide (d≤57):=by rw [code_9];exact zc d 57
   rw [List.take_add_one,hd',Option.toList_some,List.filter_append,List.map_append,List.map_append]
   have yes':∀b:Bool,(low d || fig d)=b→[d].filter (fun d=>!(low d || fig d))=if b then [] else [d]:=fun b hb=>by
    rw [List.filter_cons,hb]
    cases b <;> rfl
   refine⟨_,rfl,_,_,rfl,rfl,_,rfl,?_⟩
   rw [lc]
   have keep:(low d || fig d)=true→List.map V.str (List.map (fun d=>(⟨#[d]⟩:Str)) ([d].filter fun d=>!(low d || fig d)))=[]:=fun h=>by rw [yes' true h];rfl
   have grow:(low d || fig d)=false→List.map V.str (List.map (fun d=>(⟨#[d]⟩:Str)) ([d].filter fun d=>!(low d || fig d)))=[.str ⟨#[d]⟩]:=fun h=>by rw [yes' false h];rfl
   have good:(low d || fig d)=true→∀l:List V,H'=H'∧l=l ++ List.map V.str (List.map (fun d=>(⟨#[d]⟩:Str)) ([d].filter fun d=>!(low d || fig d))):=fun h l=>⟨rfl,by rw [keep h,List.append_nil]⟩
   have bad:(low d || fig d)=false→∀l:List V,H'=H'∧l ++ [.str ⟨#[d]⟩]=l ++ List.map V.str (List.map (fun d=>(⟨#[d]⟩:Str)) ([d].filter fun d=>!(low d || fig d))):=fun h l=>⟨rfl,by rw [grow h]⟩
   refine iy (fun g1=>?_) (fun g1=>?_)
   ·refine⟨_,_,rfl,rfl,_,rfl,?_⟩
    rw [lc2]
    refine iy (fun g2=>?_) (fun g2=>?_)
    ·refine fP (good ?_ _)
     have:low d=true:=by unfold low;rw [g1,g2];rfl
     rw [this];rfl
    ·have hlow:low d=false:=by unfold low;have:decide (d≤122)=false:=(by simpa using g2);rw [this,Bool.and_false]
     refine⟨_,rfl,_,_,rfl,rfl,_,rfl,?_⟩
     rw [f3]
     refine iy (fun g3=>?_) (fun g3=>?_)
     ·refine⟨_,_,rfl,rfl,_,rfl,?_⟩
      rw [f4]
      refine iy (fun g4=>?_) (fun g4=>?_)
      ·have:decide (d≤57)=false:=by simpa using g4
       exact⟨_,rfl,bad (by rw [hlow];unfold fig;rw [this,Bool.and_false];rfl) _⟩
      ·have:decide (d≤57)=true:=by simpa using g4
       exact good (by rw [hlow];unfold fig;rw [g3,this];rfl) _
     ·have:decide (48≤d)=false:=by simpa using g3
      exact⟨_,rfl,kW ⟨_,rfl,bad (by rw [hlow];unfold fig;rw [this];rfl) _⟩⟩
   ·have hlow:low d=false:=by unfold low;have:decide (97≤d)=false:=(by simpa using g1);rw [this];rfl
    refine⟨_,rfl,fP ?_⟩
    refine⟨_,rfl,_,_,rfl,rfl,_,rfl,?_⟩
    rw [f3]
    refine iy (fun g3=>?_) (fun g3=>?_)
    ·refine⟨_,_,rfl,rfl,_,rfl,?_⟩
     rw [f4]
     refine iy (fun g4=>?_) (fun g4=>?_)
     ·have:decide (d≤57)=false:=by simpa using g4
      exact⟨_,rfl,bad (by rw [hlow];unfold fig;rw [this,Bool.and_false];rfl) _⟩
     ·have:decide (d≤57)=true:=by simpa using g4
      exact good (by rw [hlow];unfold fig;rw [g3,this];rfl) _
    ·have:decide (48≤d)=false:=by simpa using g3
     exact⟨_,rfl,kW ⟨_,rfl,bad (by rw [hlow];unfold fig;rw [this];rfl) _⟩⟩
  ·rintro ys H' ⟨rfl,rfl⟩ D hD
   have efl:(z.cps.toList.take z.cps.size).filter (fun d=>!(low d || fig d))=z.cps.toList.filter fun d=>!(low d || fig d):=by rw [List.take_of_length_le (by simp)]
   rw [efl]
   have s1:=aC (o:=.lst ((((z.cps.toList.filter fun d=>!(low d || fig d)).map fun d=>(⟨#[d]⟩:Str))).map V.str)) hD
   refine⟨by show 0≤sizeLine;exact szl,fun D2 nD2=>?_⟩
   have s2:=aC (o:=.lst []) nD2
   have sOk:∀x∈(z.cps.toList.filter fun d=>!(low d || fig d)).map fun d=>(⟨#[d]⟩:Str),PyData.strOk x=true:=fun x hx=>by
    obtain⟨d,hd,rfl⟩:=List.mem_map.mp hx
    have hd2:=(List.mem_filter.mp hd).1
    unfold PyData.strOk at ok ⊢
    rw [Array.all_eq_true'] at ok ⊢
    intro c' hc'
    have:c'=d:=by simpa using hc'
    rw [this]
    exact ok d (by simpa using hd2)
   refine⟨_,_,.list (SqL.of (s2 _ _ aq)) (zx _),.list (SqL.of aq) .nil,(Gd.list (.strs 0 sOk)).shaped (by decide),(Gd.list (n:=0) (by simp)).shaped (by decide),?_⟩
   have kk:=k' _ (s1.trans s2)
   have ea:PyData.eqv (.list (((z.cps.toList.filter fun d=>!(low d || fig d)).map fun d=>(⟨#[d]⟩:Str)).map PyData.str)) (.list [])=z.cps.toList.all fun d=>low d || fig d:=by
    rw [Bool.eq_iff_iff,List.all_eq_true]
    constructor
    ·intro he d hd
     cases hb:(low d || fig d) with
     | true=>rfl
     | false=>
      exfalso
      have hm:d∈z.cps.toList.filter fun d=>!(low d || fig d):=List.mem_filter.mpr ⟨hd,by rw [hb];rfl⟩
      cases hf:z.cps.toList.filter fun d=>!(low d || fig d) with
      | nil=>rw [hf] at hm;cases hm
      | cons a r'=>
       rw [hf] at he
       simp [PyData.eqv,PyData.eqvAll] at he
    ·intro ha
     have:z.cps.toList.filter (fun d=>!(low d || fig d))=[]:=List.filter_eq_nil_iff.mpr fun d hd=>by rw [ha d hd];decide
     rw [this]
     simp [PyData.eqv,PyData.eqvAll]
   rw [ea]
   exact kk
def tagD:Nat→Str
 | 1=> "such"
 | 2=> "name"
 | 4=> "name"
 | _=> "doubled"
def Al (H:Hp) (r:V) (c:Nat) (x:Str) (v w:V):Prop:=(c=0∧r=.non)∨(c=6∧∃p,r=.ref p∧H p=some (.lst [.str "many"]))∨(1≤c∧c≤5∧∃p,r=.ref p∧H p=some (.lst [.str (tagD c),zV x v w c]))
theorem Al.same {H H':Hp} {r:V} {c:Nat} {x:Str} {v w:V} (h:Al H r c x v w) (s:aO H H'):Al H' r c x v w:=by
 rcases h with h | ⟨h,p,e,hp⟩ | ⟨h1,h2,p,e,hp⟩
 ·exact .inl h
 ·exact .inr (.inl ⟨h,p,e,s _ _ hp⟩)
 ·exact .inr (.inr ⟨h1,h2,p,e,s _ _ hp⟩)
def sp__law_due (K:PySem.W.Frag):Sp:=fun vs H Q _=>∃(L P:Addr) (ls:List LaneD) (ps:List PD) (x:Str) (v w:V),vs=[.ref L,.ref P,.str x,v,w]∧NetAt H L P ls ps∧ls.length≤24∧ps.length≤16∧gf v∧gf w∧∀H' r,aO H H'→Al H' r (qd (ls.map (·.name)) (ps.map (·.name)) x v w) x v w→Q r H'
theorem sc__law_due:FnScope ["_law_lanes", "_law_parts", "_law_lane_here", "_law_slot", "_law_fresh", "_law_names", "_law_members", "_law_word_here", "_law_known"] ["_law_lanes", "_law_parts", "_law_lane_here", "_law_slot", "_law_fresh"] (aA iw):=⟨rfl,rfl,rfl,by decide +kernel,rfl,by decide +kernel,by decide +kernel⟩
theorem ok__law_due (T:Txt w K mg t):FnOk P w K mg base CX0 2 t.wD t.vf ["_law_lanes", "_law_parts", "_law_lane_here", "_law_slot", "_law_fresh"] (sp__law_due K):=by
 have sc:=sc__law_due
 refine T.zM.ok sc (fun vs H Q E h=>?_) (fun cdv A outer s H vs Q E hr h=>?_)
 ·obtain⟨L,P,ls,ps,x,v,w,rfl,_⟩:=h
  rfl
 ·obtain⟨L,P,ls,ps,x,v,w,rfl,A,l24,p16,hv,hw,k⟩:=h
  refine⟨_,(az (nU (i:=5) [] ["_law_lanes", "_law_parts", "_law_lane_here", "_law_slot", "_law_fresh", "_law_names", "_law_members", "_law_word_here", "_law_known"] (aA iw) rfl sc.nd rfl (fG (pv 0)) (fun _ _ _ _ _=>fW) (fun _ _ _ _ _=>(bG (zu (K:=K) rfl) (pv 0) au (fun _ _=>rfl))))
   (az (nU (i:=6) [] ["_law_lanes", "_law_parts", "_law_lane_here", "_law_slot", "_law_fresh", "_law_names", "_law_members", "_law_word_here", "_law_known"] (aA iw) rfl sc.nd rfl (fG (pv 1)) (fun _ _ _ _ _=>fW) (fun _ _ _ _ _=>(bG (zu (K:=K) rfl) (pv 0) au (fun _ _=>rfl))))
   (az (cz (bC xJ (pv 2) (pv 5) (by with_unfolding_all rfl))
    (aF (bA (bh (aa bx (aa (pv 2) ak aj) ao))))
    bJ)
   (az (lB PassesOwn.never rfl (fG (bh (aa (cM (aa (pv 3) (aa (pv 6) ak aj) aj)) (aa (cM (aa (pv 4) (aa (pv 5) ak aj) aj)) ak cg) cg))) (uC rfl (bU (bL (i:=7) sc.nd rfl (Or.inl rfl)) (bU (bL (i:=8) sc.nd rfl (Or.inl rfl)) kZ)))
    (az (cz (km (mK (aH (ok__law_is_name T) (hr.mono (by decide)) (by rfl) T.m__law_is_name T.uQ.kp T.b__law_is_name .nil aN (aa (pv 7) ak aj))))
     (aF (bA (bh (aa bx (aa (pv 7) ak aj) ao))))
     bJ)
    (aF (cz (bC op_in_seq (pv 7) (pv 8) (by with_unfolding_all rfl))
     (aF (bA (bh (aa bx (aa (pv 7) ak aj) ao))))
     bJ))))
   (az (cz (PW.pt (tY (bC op_gt (bI cj (by rfl) T.gh dR (aa (pv 1) ak aj)) au (bW _)) (qR (bC op_gt (bI cj (by rfl) T.gh dR (aa (pv 0) ak aj)) au (bW _)))))
    (aF (bA (bh (aa bx ak ao))))
    bJ)
   (aF (bA pe_non))))))),?_⟩
  have hz:sizeLine=16777216:=sizeLine_eq
  obtain⟨⟨xs,eL,aL⟩,⟨ys,eP,aP⟩⟩:=A
  have lx:=aL.length
  have ly:=aP.length
  refine⟨_,rfl,L,rfl,⟨_,SqL.of eL⟩,?_⟩
  refine pG (K:=K) (a:=L) (xs:=xs) (fun j zs H'=>H'=H∧zs=((ls.take j).map (·.name)).map V.str) (by omega) ⟨rfl,rfl⟩ (fun j zs H' ⟨_,e⟩=>by rw [e,lM,lM,List.length_take];omega) (fun j zs H' _ ⟨e,_⟩=>by rw [e];exact SqL.of eL) ?_ ?_
  ·rintro j y zs H' hy ⟨rfl,rfl⟩
   obtain⟨l,hlj,q,f,rfl,hq,hf⟩:=aL.get hy
   refine yes ⟨_,rfl,q,_,0,_,rfl,rfl,SqT.of hq,aQ (j:=0) rfl,rfl,?_⟩
   rw [List.take_succ,hlj,Option.toList_some,List.map_append,List.map_append]
   rfl
  rintro zs H' ⟨rfl,rfl⟩ Ln nLn
  rw [lx,List.take_length]
  have t1:=aC (o:=.lst ((ls.map (·.name)).map V.str)) nLn
  have eLn:upd H' Ln (.lst ((ls.map (·.name)).map V.str)) Ln=some (.lst ((ls.map (·.name)).map V.str)):=aq
  have eP1:=t1 _ _ eP
  have aP1:=aP.imp fun _ _ h=>oH.same h t1
  generalize upd H' Ln (.lst ((ls.map (·.name)).map V.str))=H1 at t1 eLn eP1 aP1 ⊢
  refine⟨_,rfl,P,rfl,⟨_,SqL.of eP1⟩,?_⟩
  refine pG (K:=K) (a:=P) (xs:=ys) (fun j zs H'=>H'=H1∧zs=((ps.take j).map (·.name)).map V.str) (by omega) ⟨rfl,rfl⟩ (fun j zs H' ⟨_,e⟩=>by rw [e,lM,lM,List.length_take];omega) (fun j zs H' _ ⟨e,_⟩=>by rw [e];exact SqL.of eP1) ?_ ?_
  ·rintro j y zs H' hy ⟨rfl,rfl⟩
   obtain⟨p,hpj,q,b1,b2,b3,rfl,hq,_⟩:=aP1.get hy
   refine yes ⟨_,rfl,q,_,1,_,rfl,rfl,SqT.of hq,aQ (j:=1) rfl,rfl,?_⟩
   rw [List.take_succ,hpj,Option.toList_some,List.map_append,List.map_append]
   rfl
  rintro zs H2 ⟨rfl,rfl⟩ Pn nPn
  rw [ly,List.take_length]
  have t2:=aC (o:=.lst ((ps.map (·.name)).map V.str)) nPn
  have ePn:upd H2 Pn (.lst ((ps.map (·.name)).map V.str)) Pn=some (.lst ((ps.map (·.name)).map V.str)):=aq
  have eLn2:=t2 _ _ eLn
  have s2:=t1.trans t2
  generalize upd H2 Pn (.lst ((ps.map (·.name)).map V.str))=H3 at t2 ePn eLn2 s2 ⊢
  have eL3:=s2 _ _ eL
  have eP3:=s2 _ _ eP
  refine⟨_,rfl,_,rfl,Ln,_,rfl,.inl (SqL.of eLn2),rfl,yr _,?_⟩
  rw [in_strs]
  by_cases hx:x∉ls.map (·.name)
  ·rw [decide_eq_false hx]
   have e:qd (ls.map (·.name)) (ps.map (·.name)) x v w=1:=if_pos hx
   rw [e] at k
   exact⟨_,rfl,kW ⟨_,rfl,by show 2≤sizeLine;exact szl,fun p np=>k _ _ (s2.trans (aC np)) (.inr (.inr ⟨by decide,by decide,p,rfl,aq⟩))⟩⟩
  have hx':=Classical.not_not.mp hx
  rw [decide_eq_true hx']
  refine⟨_,rfl,fP ?_⟩
  refine⟨_,rfl,_,rfl,by show 2≤sizeLine;exact szl,fun q1 n1=>?_⟩
  have t4:=aC (o:=.tup [v,.ref Pn]) n1
  have e1:upd H3 q1 (.tup [v,.ref Pn]) q1=some (.tup [v,.ref Pn]):=aq
  generalize upd H3 q1 (.tup [v,.ref Pn])=H4 at t4 e1 ⊢
  refine⟨_,rfl,_,rfl,by show 2≤sizeLine;exact szl,fun q2 n2=>⟨by show 2≤sizeLine;exact szl,fun D nD=>⟨D,rfl,⟨_,SqL.of aq⟩,?_⟩⟩⟩
  have t5:=aC (o:=.tup [w,.ref Ln]) n2
  have e2:upd H4 q2 (.tup [w,.ref Ln]) q2=some (.tup [w,.ref Ln]):=aq
  generalize upd H4 q2 (.tup [w,.ref Ln])=H5 at t5 e2 nD ⊢
  have t6:=aC (o:=.lst [.ref q1,.ref q2]) nD
  have eD:upd H5 D (.lst [.ref q1,.ref q2]) D=some (.lst [.ref q1,.ref q2]):=aq
  generalize upd H5 D (.lst [.ref q1,.ref q2])=H6 at t6 eD ⊢
  have t56:=t5.trans t6
  have t46:=t4.trans t56
  have s6:=s2.trans t46
  have dn1:∀{c:Nat},(if nameV v=false then 2 else if gK v∈ps.map (·.name) then 3 else if nameV w=false then 4 else if gK w∈ls.map (·.name) then 5 else if 15 <(ps.map (·.name)).length∨23 <(ls.map (·.name)).length then 6 else 0)=c→qd (ls.map (·.name)) (ps.map (·.name)) x v w=c:=fun h=>(if_neg hx).trans h
  have dn2:nameV v=true→gK v∉ps.map (·.name)→∀{c:Nat},(if nameV w=false then 4 else if gK w∈ls.map (·.name) then 5 else if 15 <(ps.map (·.name)).length∨23 <(ls.map (·.name)).length then 6 else 0)=c→qd (ls.map (·.name)) (ps.map (·.name)) x v w=c:=fun h1 h2 {c} h=>dn1 ((if_neg (by simp [h1])).trans ((if_neg h2).trans h))
  refine oh (K:=K) (a:=D) (xs:=[.ref q1,.ref q2]) (fun j σ H'=>aO H6 H'∧(∃v7 v8,σ=[some (.ref L),some (.ref P),some (.str x),some v,some w,some (.ref Ln),some (.ref Pn),v7,v8])∧(1≤j→nameV v=true∧gK v∉ps.map (·.name))∧(2≤j→nameV w=true∧gK w∉ls.map (·.name))) ⟨aO.refl _,⟨_,_,rfl⟩,by omega,by omega⟩ (fun j σ H' _ h=>SqL.of (h.1 _ _ eD)) ?_ ?_
  ·rintro j y σ H7 hy ⟨s7,⟨v7,v8,rfl⟩,i1,i2⟩
   obtain⟨u,Kn,ns,q,rfl,hq,hK,hu,kB,kD,kN⟩:∃(u:V) (Kn:Addr) (ns:List Str) (q:Addr),y=.ref q∧H6 q=some (.tup [u,.ref Kn])∧H6 Kn=some (.lst (ns.map V.str))∧gf u∧(nameV u=false→∀H9 p,aO H' H9→H9 p=some (.lst [.str "name",u])→Q (.ref p) H9)∧(nameV u=true→gK u∈ns→∀H9 p,aO H' H9→H9 p=some (.lst [.str "doubled",u])→Q (.ref p) H9)∧(nameV u=true→gK u∉ns→(1≤j+1→nameV v=true∧gK v∉ps.map (·.name))∧(2≤j+1→nameV w=true∧gK w∉ls.map (·.name))):=by
    have hj:j <2:=(List.getElem?_eq_some_iff.mp hy).1
    obtain rfl | rfl:j=0∨j=1:=by omega
    ·cases hy
     refine⟨v,Pn,ps.map (·.name),q1,rfl,t56 _ _ e1,t46 _ _ ePn,hv,fun h H9 p s9 ep=>?_,fun h1 h2 H9 p s9 ep=>?_,fun h1 h2=>⟨fun _=>⟨h1,h2⟩,by omega⟩⟩
     ·rw [dn1 (c:=2) (if_pos h)] at k
      exact k _ _ s9 (.inr (.inr ⟨by decide,by decide,p,rfl,ep⟩))
     ·rw [dn1 (c:=3) ((if_neg (by simp [h1])).trans (if_pos h2))] at k
      exact k _ _ s9 (.inr (.inr ⟨by decide,by decide,p,rfl,ep⟩))
    ·cases hy
     obtain⟨a1,a2⟩:=i1 (by omega)
     refine⟨w,Ln,ls.map (·.name),q2,rfl,t6 _ _ e2,t46 _ _ eLn2,hw,fun h H9 p s9 ep=>?_,fun h1 h2 H9 p s9 ep=>?_,fun h1 h2=>⟨fun _=>⟨a1,a2⟩,fun _=>⟨h1,h2⟩⟩⟩
     ·rw [dn2 a1 a2 (c:=4) (if_pos h)] at k
      exact k _ _ s9 (.inr (.inr ⟨by decide,by decide,p,rfl,ep⟩))
     ·rw [dn2 a1 a2 (c:=5) ((if_neg (by simp [h1])).trans (if_pos h2))] at k
      exact k _ _ s9 (.inr (.inr ⟨by decide,by decide,p,rfl,ep⟩))
   clear k dn1 dn2
   refine⟨q,_,rfl,SqT.of (s7 _ _ hq),rfl,_,_,rfl,_,_,rfl,rfl,?_⟩
   refine⟨_,rfl,u,rfl,hu,fun H8 s8=>?_⟩
   have s68:=s7.trans s8
   refine⟨_,rfl,?_⟩
   cases hn:nameV u with
   | false=>exact kW ⟨_,rfl,by show 2≤sizeLine;exact szl,fun p np=>kB hn _ p (s6.trans (s68.trans (aC np))) aq⟩
   | true=>
    refine fP ?_
    obtain⟨eu,_,_⟩:=hu.good hn
    generalize gK u=z at eu kD kN
    subst eu
    refine⟨_,rfl,_,rfl,Kn,_,rfl,.inl (SqL.of (s68 _ _ hK)),rfl,yr _,?_⟩
    rw [in_strs]
    by_cases hz':z∈ns
    ·rw [decide_eq_true hz']
     exact⟨_,rfl,kW ⟨_,rfl,by show 2≤sizeLine;exact szl,fun p np=>kD hn hz' _ p (s6.trans (s68.trans (aC np))) aq⟩⟩
    ·rw [decide_eq_false hz']
     exact⟨_,rfl,fP ⟨s68,⟨_,_,rfl⟩,kN hn hz'⟩⟩
  rintro σ H7 ⟨s7,⟨v7,v8,rfl⟩,i1,i2⟩
  obtain⟨a1,a2⟩:=i1 (by show 1≤2;omega)
  obtain⟨b1,b2⟩:=i2 (Nat.le_refl 2)
  have dn3:∀{c:Nat},(if 15 <(ps.map (·.name)).length∨23 <(ls.map (·.name)).length then 6 else 0)=c→qd (ls.map (·.name)) (ps.map (·.name)) x v w=c:=fun h=>dn2 a1 a2 ((if_neg (by simp [b1])).trans ((if_neg b2).trans h))
  rw [lM,lM] at dn3
  have s67:=s6.trans s7
  have many:15 <ps.length∨23 <ls.length→∀p,H7 p=none→Q (.ref p) (upd H7 p (.lst [.str "many"])):=fun h p np=>by
   rw [dn3 (if_pos h)] at k
   exact k _ _ (s67.trans (aC np)) (.inr (.inl ⟨rfl,p,rfl,aq⟩))
  refine⟨_,rfl,.ref P,ps.length,rfl,.inl ⟨_,SqL.of (s67 _ _ eP),ly.symm⟩,_,_,rfl,rfl,_,rfl,iy (fun h=>?_) (fun h=>?_)⟩
  ·have h':15 <ps.length:=by have:=of_decide_eq_true h;omega
   exact kW ⟨by show 1≤sizeLine;exact szl,many (.inl h')⟩
  have h':¬15 <ps.length:=fun z=>h (decide_eq_true (by omega))
  refine⟨_,rfl,.ref L,ls.length,rfl,.inl ⟨_,SqL.of (s67 _ _ eL),lx.symm⟩,_,_,rfl,rfl,_,rfl,iy (fun g=>?_) (fun g=>?_)⟩
  ·have g':23 <ls.length:=by have:=of_decide_eq_true g;omega
   exact⟨by show 1≤sizeLine;exact szl,many (.inr g')⟩
  have g':¬23 <ls.length:=fun z=>g (decide_eq_true (by omega))
  rw [dn3 (if_neg (fun z=>z.elim h' g'))] at k
  exact k _ _ s67 (.inl ⟨rfl,rfl⟩)
def sp__law_slotted (K:PySem.W.Frag):Sp:=fun vs H Q _=>∃(L P:Addr) (ls:List LaneD) (ps:List PD) (zv zw:Str) (l0:LaneD),vs=[.ref L,.ref P,.str l0.name,.str zv,.str zw]∧NetAt H L P ls ps∧ls.length≤24∧ps.length≤16∧l0∈ls∧(ls.map (·.name)).Nodup∧(∀p∈ps,p.ins.length≤3)∧∀T L' P' H',aO H H'→H' T=some (.tup [.ref L',.ref P'])→NetAt H' L' P' (qY l0.name zw l0 ls) (kj l0.name zv zw ps)→Q (.ref T) H'
theorem sc__law_slotted:FnScope ["_law_lanes", "_law_parts", "_law_lane_here", "_law_slot", "_law_fresh", "_law_rows", "_law_last", "_law_name", "_law_room", "_law_first", "_law_some", "_law_kind", "_law_numbers", "_law_ins", "_law_outs", "_law_changed", "_law_one"] ["_law_lanes", "_law_parts", "_law_lane_here", "_law_slot", "_law_fresh"] (aA fX):=⟨rfl,rfl,rfl,by decide +kernel,rfl,by decide +kernel,by decide +kernel⟩
theorem ok__law_slotted (T:Txt w K mg t):FnOk P w K mg base CX0 1 t.pM t.oO ["_law_lanes", "_law_parts", "_law_lane_here", "_law_slot", "_law_fresh"] (sp__law_slotted K):=by
 have sc:=sc__law_slotted
 refine T.uV.ok sc (fun vs H Q E h=>?_) (fun cdv A outer s H vs Q E hr h=>?_)
 ·obtain⟨L,P,ls,ps,zv,zw,l0,rfl,_⟩:=h
  rfl
 ·obtain⟨L,P,ls,ps,zv,zw,l0,rfl,A,l24,p16,hl0,nd,h3,k⟩:=h
  refine⟨_,(az (bD (i:=5) sc.nd rfl (Or.inl rfl) (bh ak))
   (az (bD (i:=6) sc.nd rfl (Or.inl rfl) (cM ak))
   (az (lB PassesOwn.never rfl (fG (pv 0)) (uC rfl (bU (bL (i:=7) sc.nd rfl (Or.inl rfl)) (bU (bL (i:=8) sc.nd rfl (Or.inl rfl)) (bU (bL (i:=9) sc.nd rfl (Or.inl rfl)) kZ))))
    (aF (fH (cz (bC gJ (pv 7) (pv 2) (bW _))
     (az (bz (ir PySem.F.plainAttrs_list PySem.F.slot_list_append PySem.F.type_list_append dh (pv 5) (aa (cM (aa (pv 7) (aa (pv 8) (aa (bh ak) ak aR) aj) aj)) ak cg)))
     (aF (bD (i:=6) sc.nd rfl (Or.inl rfl) (cM (aa (pv 4) (aa (pv 8) (aa (pv 9) ak aj) aj) aj)))))
     (aF (bz (ir PySem.F.plainAttrs_list PySem.F.slot_list_append PySem.F.type_list_append dh (pv 5) (aa (cM (aa (pv 7) (aa (pv 8) (aa (pv 9) ak aj) aj) aj)) ak cg))))))))
   (az (bD (i:=10) sc.nd rfl (Or.inl rfl) (bh ak))
   (az (lB PassesOwn.never rfl (fG (pv 1)) (uC rfl (bU (bL (i:=11) sc.nd rfl (Or.inl rfl)) (bU (bL (i:=7) sc.nd rfl (Or.inl rfl)) (bU (bL (i:=12) sc.nd rfl (Or.inl rfl)) (bU (bL (i:=13) sc.nd rfl (Or.inl rfl)) (bU (bL (i:=14) sc.nd rfl (Or.inl rfl)) kZ))))))
    (az (bD (i:=15) sc.nd rfl (Or.inl rfl) (bh ak))
    (az (lB PassesOwn.never rfl (fG (pv 13)) (bL (i:=16) sc.nd rfl (Or.inl rfl))
     (aF (fH (cz (bC gJ (pv 16) (pv 2) (bW _))
      (aF (bz (ir PySem.F.plainAttrs_list PySem.F.slot_list_append PySem.F.type_list_append dh (pv 15) (aa (pv 4) ak aj))))
      (aF (bz (ir PySem.F.plainAttrs_list PySem.F.slot_list_append PySem.F.type_list_append dh (pv 15) (aa (pv 16) ak aj))))))))
    (aF (bz (ir PySem.F.plainAttrs_list PySem.F.slot_list_append PySem.F.type_list_append dh (pv 10) (aa (cM (aa (pv 11) (aa (pv 7) (aa (pv 12) (aa (pv 15) (aa (pv 14) ak aj) aj) aj) aj) aj)) ak cg)))))))
   (az (bz (ir PySem.F.plainAttrs_list PySem.F.slot_list_append PySem.F.type_list_append dh (pv 10) (aa (cM (aa bx (aa (pv 3) (aa (bh ak) (aa (bh (aa (pv 2) ak aj)) (aa (bh (aa (pv 4) ak aj)) ak aR) aR) aR) aj) ao)) ak cg)))
   (aF (bA (cM (aa (bj op_cat (pv 5) (bh (aa (pv 6) ak aj))) (aa (pv 10) ak aj) bZ)))))))))),?_⟩
  have hz:sizeLine=16777216:=sizeLine_eq
  obtain⟨⟨xs,eL,aL⟩,⟨ys,eP,aP⟩⟩:=A
  have lx:=aL.length
  have ly:=aP.length
  refine⟨by show 0≤sizeLine;exact szl,fun D nD=>⟨by show 0≤sizeLine;exact szl,fun u nu=>?_⟩⟩
  have t0:=aC (o:=.lst []) nD
  have eD0:upd H D (.lst []) D=some (.lst []):=aq
  generalize upd H D (.lst [])=H0 at t0 eD0 nu ⊢
  have t1:=aC (o:=.tup []) nu
  have eD1:=t1 _ _ eD0
  have c1:=off_new (t0.trans t1) nD
  generalize upd H0 u (.tup [])=H1 at t1 eD1 c1 ⊢
  refine⟨_,rfl,L,rfl,⟨_,SqL.of (cY _ _ (c1 _ _ eL))⟩,?_⟩
  refine oh (K:=K) (a:=L) (xs:=xs) (fun j σ H'=>aO H (bR [D] H')∧∃zs vl,H' D=some (.lst zs)∧All2 (qM (bR [D] H')) zs ((ls.take j).map (qO l0.name))∧(l0∈ls.take j→qM (bR [D] H') vl ⟨zw,l0.room,l0.first⟩)∧∃v7 v8 v9,σ=[some (.ref L),some (.ref P),some (.str l0.name),some (.str zv),some (.str zw),some (.ref D),some vl,v7,v8,v9,none,none,none,none,none,none,none]) ⟨c1,[],_,eD1,.nil,by simp,_,_,_,rfl⟩ (fun j σ H' _ h=>SqL.of (cY _ _ (h.1 _ _ eL))) ?_ ?_
  ·rintro j y σ H2 hy ⟨c2,zs,vl,eD,hA,hl,v7,v8,v9,rfl⟩
   obtain⟨l,hlj,q,f,rfl,hq,hf⟩:=aL.get hy
   have lz:=hA.length
   rw [lM,List.length_take] at lz
   refine⟨q,_,rfl,SqT.of (cY _ _ (c2 _ _ hq)),rfl,_,_,rfl,_,_,rfl,_,_,rfl,rfl,?_⟩
   refine⟨_,?_,fun _ _ h=>h⟩
   rw [List.take_succ,hlj,Option.toList_some,List.map_append,List.map_singleton]
   refine⟨_,rfl,_,rfl,rfl,_,rfl,?_⟩
   by_cases e:l.name=l0.name
   ·have el:l=l0:=by
     obtain⟨i0,hi0,ei0⟩:=List.mem_iff_getElem.mp hl0
     have hj:=(List.getElem?_eq_some_iff.mp hlj)
     have:(ls.map (·.name))[j]'(by rw [lM];exact hj.1)=(ls.map (·.name))[i0]'(by rw [lM];exact hi0):=by rw [List.getElem_map,List.getElem_map,hj.2,ei0,e]
     have:=(List.getElem_inj nd).mp this
     subst this
     rw [←hj.2,ei0]
    subst el
    refine tG rfl ⟨_,rfl,.inl ⟨rfl,_,SqL.of eD⟩,_,rfl,_,rfl,by show 0≤sizeLine;exact szl,fun e0 n0=>⟨by show 3≤sizeLine;exact szl,fun r nr=>?_⟩⟩
    have g0:=aC (o:=.lst []) n0
    have x0:upd H2 e0 (.lst []) e0=some (.lst []):=aq
    generalize upd H2 e0 (.lst [])=H3 at g0 x0 nr ⊢
    have gr:=aC (o:=.tup [.str l.name,.int l.room,.ref e0]) nr
    have xr:upd H3 r (.tup [.str l.name,.int l.room,.ref e0]) r=some (.tup [.str l.name,.int l.room,.ref e0]):=aq
    have eD3:=(g0.trans gr) _ _ eD
    have n0D:e0≠D:=Ne.symm (aD eD n0)
    have nrD:r≠D:=Ne.symm (aD (g0 _ _ eD) nr)
    have c3:=pW (g0.trans gr) eD
    generalize upd H3 r (.tup [.str l.name,.int l.room,.ref e0])=H4 at gr xr eD3 c3 ⊢
    refine⟨D,zs,_,rfl,rfl,eD3,by omega,?_⟩
    have k4:bR [D] (upd H4 D (.lst (zs ++ [.ref r])))=bR [D] H4:=dN (by simp)
    have e4:upd H4 D (.lst (zs ++ [.ref r])) D=some (.lst (zs ++ [.ref r])):=aq
    generalize upd H4 D (.lst (zs ++ [.ref r]))=H5 at k4 e4 ⊢
    refine⟨_,rfl,_,rfl,_,rfl,by show 3≤sizeLine;exact szl,fun r2 nr2=>?_⟩
    have g5:=aC (o:=.tup [.str zw,.int l.room,.ref f]) nr2
    have x5:upd H5 r2 (.tup [.str zw,.int l.room,.ref f]) r2=some (.tup [.str zw,.int l.room,.ref f]):=aq
    have n5D:r2≠D:=Ne.symm (aD e4 nr2)
    have c5:=pW g5 e4
    have e5:=g5 _ _ e4
    generalize upd H5 r2 (.tup [.str zw,.int l.room,.ref f])=H6 at g5 x5 c5 e5 ⊢
    rw [k4] at c5
    have c25:=c3.trans c5
    refine⟨c2.trans c25,_,_,e5,(hA.imp fun _ _ h=>h.same c25).app (.cons ?_ .nil),fun _=>⟨r2,f,rfl,dM x5 (by simp [n5D]),c25 _ _ (c2 _ _ hf)⟩,_,_,_,rfl⟩
    rw [show qO l.name l=⟨l.name,l.room,[]⟩ from if_pos rfl]
    exact⟨r,e0,rfl,c5 _ _ (dM xr (by simp [nrD])),c5 _ _ (dM (gr _ _ x0) (by simp [n0D]))⟩
   ·refine dJ (fun z=>e (V.str.inj z)) ⟨_,rfl,.inl ⟨rfl,_,SqL.of eD⟩,_,rfl,_,rfl,_,rfl,by show 3≤sizeLine;exact szl,fun r nr=>?_⟩
    have gr:=aC (o:=.tup [.str l.name,.int l.room,.ref f]) nr
    have xr:upd H2 r (.tup [.str l.name,.int l.room,.ref f]) r=some (.tup [.str l.name,.int l.room,.ref f]):=aq
    have eD3:=gr _ _ eD
    have nrD:r≠D:=Ne.symm (aD eD nr)
    have c3:=pW gr eD
    generalize upd H2 r (.tup [.str l.name,.int l.room,.ref f])=H4 at gr xr eD3 c3 ⊢
    refine⟨D,zs,_,rfl,rfl,eD3,by omega,?_⟩
    have k4:bR [D] (upd H4 D (.lst (zs ++ [.ref r])))=bR [D] H4:=dN (by simp)
    have e4:upd H4 D (.lst (zs ++ [.ref r])) D=some (.lst (zs ++ [.ref r])):=aq
    have xr:=dM (E:=[D]) xr (by simp [nrD])
    rw [←k4] at c3 xr
    generalize upd H4 D (.lst (zs ++ [.ref r]))=H5 at k4 e4 c3 xr ⊢
    refine⟨c2.trans c3,_,_,e4,(hA.imp fun _ _ h=>h.same c3).app (.cons ?_ .nil),fun hm=>?_,_,_,_,rfl⟩
    ·rw [show qO l0.name l=l from if_neg e]
     exact⟨r,f,rfl,xr,c3 _ _ (c2 _ _ hf)⟩
    ·rcases List.mem_append.mp hm with h | h
     ·exact(hl h).same c3
     ·rw [List.mem_singleton] at h
      exact absurd (by rw [h]) e
  rintro σ H2 ⟨c2,zs,vl,eD,hA,hl,v7,v8,v9,rfl⟩
  rw [lx,List.take_length] at hA hl
  have hl:=hl hl0
  have lz:=hA.length
  rw [lM] at lz
  refine⟨by show 0≤sizeLine;exact szl,fun S nS=>?_⟩
  have c3:=off_new (aC (o:=.lst []) nS) nS
  have eS:upd H2 S (.lst []) S=some (.lst []):=aq
  generalize upd H2 S (.lst [])=H3 at c3 eS ⊢
  have c02:aO H H2:=c2.trans cY
  have eP3:=c02 _ _ eP
  refine⟨_,rfl,P,rfl,⟨_,SqL.of (cY _ _ (c3 _ _ eP3))⟩,?_⟩
  refine oh (K:=K) (a:=P) (xs:=ys) (fun j σ H'=>aO H2 (bR [S] H')∧∃ws,H' S=some (.lst ws)∧All2 (oH (bR [S] H')) ws ((ps.take j).map (yC l0.name zw))∧∃v7 v8 v9 v11 v12 v13 v14 v15 v16,σ=[some (.ref L),some (.ref P),some (.str l0.name),some (.str zv),some (.str zw),some (.ref D),some vl,v7,v8,v9,some (.ref S),v11,v12,v13,v14,v15,v16]) ⟨c3,[],eS,.nil,_,_,_,_,_,_,_,_,_,rfl⟩ (fun j σ H' _ h=>SqL.of (cY _ _ (h.1 _ _ eP3))) ?_ ?_
  ·rintro j y σ H4 hy ⟨c4,ws,eS,hB,v7,v8,v9,v11,v12,v13,v14,v15,v16,rfl⟩
   obtain⟨p,hpj,q,a1,a2,a3,rfl,hq,q1,q2,q3⟩:=aP.get hy
   have hp3:=h3 p (List.mem_of_getElem? hpj)
   have lw:=hB.length
   rw [lM,List.length_take] at lw
   have c04:aO H (bR [S] H4):=c02.trans c4
   refine⟨q,_,rfl,SqT.of (cY _ _ (c04 _ _ hq)),rfl,_,_,rfl,_,_,rfl,_,_,rfl,_,_,rfl,_,_,rfl,rfl,?_⟩
   refine⟨by show 0≤sizeLine;exact szl,fun C nC=>?_⟩
   have sC:∀{x:HO},aO H4 (upd H4 C x):=fun {x}=>aC nC
   have eI:=cY _ _ (c04 _ _ q2)
   refine⟨_,rfl,a2,rfl,⟨_,SqL.of (sC _ _ eI)⟩,?_⟩
   refine oh (K:=K) (a:=a2) (xs:=p.ins.map V.str) (fun i σ H'=>H'=upd H4 C (.lst (((p.ins.take i).map (qb l0.name zw)).map V.str))∧∃v16,σ=[some (.ref L),some (.ref P),some (.str l0.name),some (.str zv),some (.str zw),some (.ref D),some vl,some (.str p.name),v8,v9,some (.ref S),some (.str (dZ p.kind)),some (.ref a1),some (.ref a2),some (.ref a3),some (.ref C),v16]) ⟨rfl,_,rfl⟩ (fun i σ H' _ ⟨e,_⟩=>by rw [e];exact SqL.of (sC _ _ eI)) ?_ ?_
   ·rintro i y σ H' hy2 ⟨rfl,v16,rfl⟩
    rw [List.getElem?_map] at hy2
    obtain⟨z,hz',rfl⟩:=Option.map_eq_some_iff.mp hy2
    have hi:=(List.getElem?_eq_some_iff.mp hz').1
    refine⟨_,?_,fun _ _ h=>h⟩
    rw [List.take_succ,hz',Option.toList_some,List.map_append,List.map_append]
    refine⟨_,rfl,_,rfl,rfl,_,rfl,?_⟩
    by_cases e:z=l0.name
    ·refine tG (by rw [e]) ⟨_,rfl,.inl ⟨rfl,_,SqL.of aq⟩,_,rfl,C,_,_,rfl,rfl,aq,by rw [lM,lM,List.length_take];omega,?_⟩
     rw [vL,List.map_singleton,show qb l0.name zw z=zw from if_pos e]
     exact⟨rfl,_,rfl⟩
    ·refine dJ (fun z=>e (V.str.inj z)) ⟨_,rfl,.inl ⟨rfl,_,SqL.of aq⟩,_,rfl,C,_,_,rfl,rfl,aq,by rw [lM,lM,List.length_take];omega,?_⟩
     rw [vL,List.map_singleton,show qb l0.name zw z=z from if_neg e]
     exact⟨rfl,_,rfl⟩
   rintro σ H' ⟨rfl,v16,rfl⟩
   rw [lM,List.take_length]
   have g5:=sC (x:=.lst ((p.ins.map (qb l0.name zw)).map V.str))
   have eC:upd H4 C (.lst ((p.ins.map (qb l0.name zw)).map V.str)) C=some (.lst ((p.ins.map (qb l0.name zw)).map V.str)):=aq
   generalize upd H4 C (.lst ((p.ins.map (qb l0.name zw)).map V.str))=H5 at g5 eC ⊢
   have nCS:C≠S:=Ne.symm (aD eS nC)
   refine⟨_,rfl,.inl ⟨rfl,_,SqL.of (g5 _ _ eS)⟩,_,rfl,_,rfl,_,rfl,_,rfl,_,rfl,by show 5≤sizeLine;exact szl,fun r nr=>?_⟩
   have gr:=aC (o:=.tup [.str (dZ p.kind),.str p.name,.ref a1,.ref C,.ref a3]) nr
   have xr:upd H5 r (.tup [.str (dZ p.kind),.str p.name,.ref a1,.ref C,.ref a3]) r=some (.tup [.str (dZ p.kind),.str p.name,.ref a1,.ref C,.ref a3]):=aq
   have eS6:=(g5.trans gr) _ _ eS
   have nrS:r≠S:=Ne.symm (aD (g5 _ _ eS) nr)
   have c6:=pW (g5.trans gr) eS
   generalize upd H5 r (.tup [.str (dZ p.kind),.str p.name,.ref a1,.ref C,.ref a3])=H6 at gr xr eS6 c6 ⊢
   refine⟨S,ws,_,rfl,rfl,eS6,by omega,?_⟩
   have k6:bR [S] (upd H6 S (.lst (ws ++ [.ref r])))=bR [S] H6:=dN (by simp)
   have e6:upd H6 S (.lst (ws ++ [.ref r])) S=some (.lst (ws ++ [.ref r])):=aq
   have xr:=dM (E:=[S]) xr (by simp [nrS])
   have xC:=dM (E:=[S]) (gr _ _ eC) (by simp [nCS])
   rw [←k6] at c6 xr xC
   generalize upd H6 S (.lst (ws ++ [.ref r]))=H7 at k6 e6 c6 xr xC ⊢
   have tk:ps.take (j+1)=ps.take j ++ [p]:=by rw [List.take_succ,hpj];rfl
   refine⟨c4.trans c6,_,e6,?_,_,_,_,_,_,_,_,_,_,rfl⟩
   rw [tk,List.map_append,List.map_singleton]
   exact((hB.imp fun _ _ h=>h.same c6).app (.cons ⟨r,a1,C,a3,rfl,xr,c6 _ _ (c04 _ _ q1),xC,c6 _ _ (c04 _ _ q3)⟩ .nil))
  rintro σ H4 ⟨c4,ws,eS,hB,v7,v8,v9,v11,v12,v13,v14,v15,v16,rfl⟩
  rw [ly,List.take_length] at hB
  have lw:=hB.length
  rw [lM] at lw
  refine⟨_,rfl,.inl ⟨rfl,_,SqL.of eS⟩,_,rfl,by show 0≤sizeLine;exact szl,fun u1 n1=>?_⟩
  have t1:=aC (o:=.lst []) n1
  have e1:upd H4 u1 (.lst []) u1=some (.lst []):=aq
  have m1:u1≠S:=Ne.symm (aD eS n1)
  generalize upd H4 u1 (.lst [])=H5 at t1 e1 ⊢
  refine⟨_,rfl,by show 1≤sizeLine;exact szl,fun u2 n2=>?_⟩
  have t2:=aC (o:=.lst [.str l0.name]) n2
  have e2:upd H5 u2 (.lst [.str l0.name]) u2=some (.lst [.str l0.name]):=aq
  have m2:u2≠S:=Ne.symm (aD (t1 _ _ eS) n2)
  generalize upd H5 u2 (.lst [.str l0.name])=H6 at t2 e2 ⊢
  refine⟨_,rfl,by show 1≤sizeLine;exact szl,fun u3 n3=>⟨by show 5≤sizeLine;exact szl,fun r nr=>?_⟩⟩
  have t3:=aC (o:=.lst [.str zw]) n3
  have e3:upd H6 u3 (.lst [.str zw]) u3=some (.lst [.str zw]):=aq
  have m3:u3≠S:=Ne.symm (aD (t2 _ _ (t1 _ _ eS)) n3)
  generalize upd H6 u3 (.lst [.str zw])=H7 at t3 e3 nr ⊢
  have t4:=aC (o:=.tup [.str "pass",.str zv,.ref u1,.ref u2,.ref u3]) nr
  have e4:upd H7 r (.tup [.str "pass",.str zv,.ref u1,.ref u2,.ref u3]) r=some (.tup [.str "pass",.str zv,.ref u1,.ref u2,.ref u3]):=aq
  have m4:r≠S:=Ne.symm (aD (t3 _ _ (t2 _ _ (t1 _ _ eS))) nr)
  generalize upd H7 r (.tup [.str "pass",.str zv,.ref u1,.ref u2,.ref u3])=H8 at t4 e4 ⊢
  have t34:=t3.trans t4
  have t24:=t2.trans t34
  have t14:=t1.trans t24
  have eS8:=t14 _ _ eS
  refine⟨S,ws,_,rfl,rfl,eS8,by omega,?_⟩
  have c8:=pW t14 eS
  have k8:bR [S] (upd H8 S (.lst (ws ++ [.ref r])))=bR [S] H8:=dN (by simp)
  have hB':All2 (oH (bR [S] (upd H8 S (.lst (ws ++ [.ref r]))))) (ws ++ [.ref r]) (kj l0.name zv zw ps):=by
   rw [k8]
   exact(hB.imp fun _ _ h=>h.same c8).app (.cons ⟨r,u1,u2,u3,rfl,dM e4 (by simp [m4]),dM (t24 _ _ e1) (by simp [m1]),dM (t34 _ _ e2) (by simp [m2]),dM (t4 _ _ e3) (by simp [m3])⟩ .nil)
  have c9:=c4.trans c8
  rw [←k8] at c9
  have eS9:upd H8 S (.lst (ws ++ [.ref r])) S=some (.lst (ws ++ [.ref r])):=aq
  generalize upd H8 S (.lst (ws ++ [.ref r]))=H9 at hB' c9 eS9 ⊢
  have s9:aO H2 H9:=c9.trans cY
  have hB':=hB'.imp fun _ _ h=>oH.same h cY
  refine⟨_,rfl,_,rfl,by show 1≤sizeLine;exact szl,fun La na=>?_⟩
  have t10:=aC (o:=.lst [vl]) na
  have eLa:upd H9 La (.lst [vl]) La=some (.lst [vl]):=aq
  generalize upd H9 La (.lst [vl])=HA at t10 eLa ⊢
  refine⟨D,La,_,_,rfl,rfl,t10 _ _ (s9 _ _ eD),eLa,by rw [List.length_singleton];omega,fun Lb nb=>?_⟩
  have t11:=aC (o:=.lst (zs ++ [vl])) nb
  have eLb:upd HA Lb (.lst (zs ++ [vl])) Lb=some (.lst (zs ++ [vl])):=aq
  generalize upd HA Lb (.lst (zs ++ [vl]))=HB at t11 eLb ⊢
  refine⟨_,rfl,by show 2≤sizeLine;exact szl,fun Tt nT=>?_⟩
  have tT:=aC (o:=.tup [.ref Lb,.ref S]) nT
  have s9T:=t10.trans (t11.trans tT)
  have s2T:=s9.trans s9T
  have sc2:aO (bR [D] H2) (upd HB Tt (.tup [.ref Lb,.ref S])):=cY.trans s2T
  exact k Tt Lb S _ (c02.trans s2T) aq ⟨⟨_,tT _ _ eLb,(hA.imp fun _ _ h=>h.same sc2).app (.cons (hl.same sc2) .nil)⟩,⟨_,s9T _ _ eS9,hB'.imp fun _ _ h=>h.same s9T⟩⟩
def sp__law_asked (K:PySem.W.Frag) (t:Adr):Sp:=fun vs H Q _=>∃(n:Addr) (ls:List LaneD) (ps:List PD) (x:Str) (v w:V),vs=[.ref n,.str x,v,w]∧vg K t H n ls ps∧gf v∧gf w∧∀H' r f g,aO H H'→H' r=some (.lst [f,g])→Al H' g (qd (ls.map (·.name)) (ps.map (·.name)) x v w) x v w→(qd (ls.map (·.name)) (ps.map (·.name)) x v w=0→∃l0∈ls,∃n',l0.name=x∧f=.ref n'∧vg K t H' n' (qY x (gK w) l0 ls) (kj x (gK v) (gK w) ps))→Q (.ref r) H'
theorem sc__law_asked:FnScope ["_law_net_one", "_law_lane_here", "_law_slot", "_law_fresh", "_law_found", "_law_told", "e"] ["_law_net_one", "_law_lane_here", "_law_slot", "_law_fresh"] (aA iM):=⟨rfl,rfl,rfl,by decide +kernel,rfl,by decide +kernel,by decide +kernel⟩
theorem ok__law_asked (T:Txt w K mg t):FnOk P w K mg base CX0 9 t.tL t.qC ["_law_net_one", "_law_lane_here", "_law_slot", "_law_fresh"] (sp__law_asked K t):=by
 have sc:=sc__law_asked
 refine T.xV.ok sc (fun vs H Q E h=>?_) (fun cdv A outer s H vs Q E hr h=>?_)
 ·obtain⟨n,ls,ps,x,v,w,rfl,_⟩:=h
  rfl
 ·obtain⟨n,ls,ps,x,v,w,rfl,N,hv,hw,k⟩:=h
  refine⟨_,(az (bD (i:=4) sc.nd rfl (Or.inl rfl) pe_non)
   (az (bD (i:=5) sc.nd rfl (Or.inl rfl) pe_non)
   (az (fH (ps_try2 rfl rfl rfl (fun _ _ _ hx=>(aF (bD (i:=4) sc.nd rfl (Or.inl rfl) (pe_callR (ok_with_slot T) (hr.mono (by decide)) (by rfl) T.m_with_slot T.yW.kp T.b_with_slot hx (aa (pv 0) (aa (pv 1) (aa (pv 2) (aa (pv 3) ak aj) aj) aj) aj)))))
    (ph_c (K:=K) (i:=6) rfl sc.nd rfl rfl (by rfl) T.mc_NoSuch T.xa_NoSuch (fun _=>(aF (bD (i:=5) sc.nd rfl (Or.inl rfl) (bh (aa bx (aa (pe_fldG (K:=K) rfl (pv 6) rfl) ak aY) ao)))))
    (ph_c (K:=K) (i:=6) rfl sc.nd rfl rfl (by rfl) T.z6 T.xa_BadName (fun _=>(aF (bD (i:=5) sc.nd rfl (Or.inl rfl) (bh (aa bx (aa (pe_fldG (K:=K) rfl (pv 6) rfl) ak aY) ao)))))
    (ph_c (K:=K) (i:=6) rfl sc.nd rfl rfl (by rfl) T.Aq T.xa_Doubled (fun _=>(aF (bD (i:=5) sc.nd rfl (Or.inl rfl) (bh (aa bx (aa (pe_fldG (K:=K) rfl (pv 6) rfl) ak aY) ao)))))
    (ph_c (K:=K) (i:=6) rfl sc.nd rfl rfl (by rfl) T.xm T.xa_TooMany (fun _=>(az (bD (i:=5) sc.nd rfl (Or.inl rfl) (bh (aa bx ak ao)))
    (aF (fH (cz (km (mK (bI (call_isiZ (K:=K) rfl) (by rfl) T.my kY (aa (pv 6) (aa (zg (v:=.ref _) (by rfl) T.ph rfl) ak aj) aj))))
     (aF (bD (i:=5) sc.nd rfl (Or.inl rfl) (bh ak)))
     bJ)))))
    ph_nil))))))
   (aF (bA (bh (aa (pv 4) (aa (pv 5) ak aj) aj))))))),?_⟩
  have hz:sizeLine=16777216:=sizeLine_eq
  obtain⟨c,hc⟩:∃c,qd (ls.map (·.name)) (ps.map (·.name)) x v w=c:=⟨_,rfl⟩
  rw [hc] at k
  refine⟨fun σ H'=>∃f g,σ=[some (.ref n),some (.str x),some v,some w,some f,some g,none]∧aO H H'∧Al H' g c x v w∧(c=0→∃l0∈ls,∃n',l0.name=x∧f=.ref n'∧vg K t H' n' (qY x (gK w) l0 ls) (kj x (gK v) (gK w) ps)),?_,?_⟩
  rotate_left
  ·rintro σ H' ⟨f,g,rfl,s',hg,hf⟩
   refine⟨_,rfl,_,rfl,by show 2≤sizeLine;exact szl,fun r nr=>?_⟩
   have tr:=aC (o:=.lst [f,g]) nr
   exact k _ r f g (s'.trans tr) aq (hg.same tr) fun h0=>by
    obtain⟨l0,hl,n',e1,e2,N'⟩:=hf h0
    exact⟨l0,hl,n',e1,e2,N'.same tr⟩
  refine⟨fun σ' cls dd H'=>σ'=[some (.ref n),some (.str x),some v,some w,some .non,some .non,none]∧aO H H'∧((cls=.ref t.bT∧dd=none∧c=6)∨∃dx,dd=some dx∧cls=.ref (clsD t c)∧1≤c∧c≤5∧H' dx=some (.xd [("name",zV x v w c)])),?_,?_⟩
  ·rintro σ' cls dd H' ⟨rfl,s',h⟩
   rcases h with ⟨rfl,rfl,rfl⟩ | ⟨dx,rfl,rfl,a1,a5,ed⟩
   ·refine .inr ⟨_,rfl,T.sb_TooMany_NoSuch,.inr ⟨_,rfl,T.sb_TooMany_BadName,.inr ⟨_,rfl,T.sb_TooMany_Doubled,.inl ⟨rfl,fun y ny=>?_⟩⟩⟩⟩
    refine⟨by show 1≤sizeLine;exact szl,fun u nu=>?_⟩
    have ey:upd (upd H' y (caught y t.bT none)) u (.lst [.str "many"]) y=some (caught y t.bT none):=aC nu _ _ aq
    refine⟨_,⟨_,rfl,y,_,none,_,true,rfl,ey,T.xc_TooMany,T.ko_TooMany_LaneError,_,rfl,fP ?_⟩,fun _ _ h=>h⟩
    exact⟨_,_,rfl,s'.trans ((aC ny).trans (aC nu)),.inr (.inl ⟨rfl,u,rfl,aq⟩),by intro z;cases z⟩
   ·obtain rfl | rfl | rfl | rfl | rfl:c=1∨c=2∨c=3∨c=4∨c=5:=by omega
    ·refine .inl ⟨rfl,fun y ny=>?_⟩
     have e1:(upd H' y (caught y t.bV (some dx))) dx=some (.xd [("name",zV x v w 1)]):=by rw [aK (aD ed ny)];exact ed
     refine⟨_,rfl,y,_,dx,_,_,rfl,aq,e1,T.xf_NoSuch,T.na_NoSuch,rfl,by show 2≤sizeLine;exact szl,fun u nu=>?_⟩
     exact⟨_,_,rfl,s'.trans ((aC ny).trans (aC nu)),.inr (.inr ⟨by decide,by decide,u,rfl,aq⟩),by intro z;cases z⟩
    ·refine .inr ⟨_,rfl,T.qy,.inl ⟨rfl,fun y ny=>?_⟩⟩
     have e1:(upd H' y (caught y t.bM (some dx))) dx=some (.xd [("name",zV x v w 2)]):=by rw [aK (aD ed ny)];exact ed
     refine⟨_,rfl,y,_,dx,_,_,rfl,aq,e1,T.xj,T.wz,rfl,by show 2≤sizeLine;exact szl,fun u nu=>?_⟩
     exact⟨_,_,rfl,s'.trans ((aC ny).trans (aC nu)),.inr (.inr ⟨by decide,by decide,u,rfl,aq⟩),by intro z;cases z⟩
    ·refine .inr ⟨_,rfl,T.ql,.inr ⟨_,rfl,T.pZ,.inl ⟨rfl,fun y ny=>?_⟩⟩⟩
     have e1:(upd H' y (caught y t.bQ (some dx))) dx=some (.xd [("name",zV x v w 3)]):=by rw [aK (aD ed ny)];exact ed
     refine⟨_,rfl,y,_,dx,_,_,rfl,aq,e1,T.xq,T.wA,rfl,by show 2≤sizeLine;exact szl,fun u nu=>?_⟩
     exact⟨_,_,rfl,s'.trans ((aC ny).trans (aC nu)),.inr (.inr ⟨by decide,by decide,u,rfl,aq⟩),by intro z;cases z⟩
    ·refine .inr ⟨_,rfl,T.qy,.inl ⟨rfl,fun y ny=>?_⟩⟩
     have e1:(upd H' y (caught y t.bM (some dx))) dx=some (.xd [("name",zV x v w 4)]):=by rw [aK (aD ed ny)];exact ed
     refine⟨_,rfl,y,_,dx,_,_,rfl,aq,e1,T.xj,T.wz,rfl,by show 2≤sizeLine;exact szl,fun u nu=>?_⟩
     exact⟨_,_,rfl,s'.trans ((aC ny).trans (aC nu)),.inr (.inr ⟨by decide,by decide,u,rfl,aq⟩),by intro z;cases z⟩
    ·refine .inr ⟨_,rfl,T.ql,.inr ⟨_,rfl,T.pZ,.inl ⟨rfl,fun y ny=>?_⟩⟩⟩
     have e1:(upd H' y (caught y t.bQ (some dx))) dx=some (.xd [("name",zV x v w 5)]):=by rw [aK (aD ed ny)];exact ed
     refine⟨_,rfl,y,_,dx,_,_,rfl,aq,e1,T.xq,T.wA,rfl,by show 2≤sizeLine;exact szl,fun u nu=>?_⟩
     exact⟨_,_,rfl,s'.trans ((aC ny).trans (aC nu)),.inr (.inr ⟨by decide,by decide,u,rfl,aq⟩),by intro z;cases z⟩
  ·refine⟨_,rfl,_,rfl,_,rfl,_,rfl,n,ls,ps,x,v,w,rfl,N,hv,hw,?_⟩
   rw [hc]
   refine⟨fun a1 a5 dx H' s' ed=>⟨rfl,s',.inr ⟨dx,rfl,rfl,a1,a5,ed⟩⟩,fun h6 H' s'=>⟨rfl,s',.inl ⟨rfl,rfl,h6⟩⟩,fun h0 l0 hl0 hn H' n' s' N'=>?_⟩
   exact⟨_,_,rfl,s',.inl ⟨h0,rfl⟩,fun _=>⟨l0,hl0,n',hn,rfl,N'⟩⟩
theorem wide_eqs {a b:Int} {m:Nat} (m7:7≤m) (m10:m≤10):(oW a b m).map (·.name)=(List.range (m+5)).map (aG b)∧(oW a b m).flatMap (·.outs)=(List.range (2 * m+4)).map (aG a)∧(oW a b m).flatMap (·.ins)=(List.range (2 * m+4)).map (aG a):=by
 obtain rfl | rfl | rfl | rfl:m=7∨m=8∨m=9∨m=10:=by omega
 all_goals exact⟨rfl,rfl,rfl⟩
theorem vB (a:Int) (m:Nat):(zA a m).map (·.name)=(List.range (2 * m+4)).map (aG a):=by
 unfold zA
 rw [List.map_map]
 rfl
theorem wideP_mem {a b:Int} {m:Nat} {q:PD} (h:q∈oW a b m):(q=⟨0,aG b 0,[],[],[aG a 0]⟩∨q=⟨0,aG b 1,[],[],[aG a 1]⟩)∨(∃k,k <m∧q=vU a b k)∨q=⟨6,aG b (m+2),[],[aG a (2 * m),aG a (2 * m+1)],[aG a (2 * m+2)]⟩∨q=⟨2,aG b (m+3),[],[aG a (2 * m+2)],[aG a (2 * m+3)]⟩∨q=⟨1,aG b (m+4),[],[aG a (2 * m+3)],[]⟩:=by
 rcases List.mem_append.mp h with h | h
 ·rcases List.mem_append.mp h with h | h
  ·simp only [List.mem_cons,List.not_mem_nil,or_false] at h
   exact .inl h
  ·obtain⟨k,hk,rfl⟩:=List.mem_map.mp h
   exact .inr (.inl ⟨k,List.mem_range.mp hk,rfl⟩)
 ·simp only [List.mem_cons,List.not_mem_nil,or_false] at h
  exact .inr (.inr h)
theorem wide_hang {a b:Int} {m:Nat} (m7:7≤m):∃y,∀q∈oW a b m,∃x∈q.ins ++ q.outs,Drawn.Conn (oW a b m) x y:=by
 have ord:∀k,k <m→vU a b k∈oW a b m:=fun k hk=>List.mem_append.mpr (.inl (List.mem_append.mpr (.inr (List.mem_map.mpr ⟨k,List.mem_range.mpr hk,rfl⟩))))
 have link:∀k,k <m→∀x∈(vU a b k).ins ++ (vU a b k).outs,∀y∈(vU a b k).ins ++ (vU a b k).outs,Drawn.Conn (oW a b m) x y:=fun k hk x hx y hy=>Drawn.Conn.part (ord k hk) hx hy
 have con:∀k,k≤m→Drawn.Conn (oW a b m) (aG a (2 * k)) (aG a 0)∧Drawn.Conn (oW a b m) (aG a (2 * k+1)) (aG a 0):=by
  intro k
  induction k with
  | zero=>exact fun _=>⟨.refl _,link 0 (by omega) _ (by simp [vU]) _ (by simp [vU])⟩
  | succ k ih=>
   intro hk
   obtain⟨h1,_⟩:=ih (by omega)
   exact⟨(link k (by omega) _ (by simp [vU,Nat.mul_succ]) _ (by simp [vU])).trans h1,(link k (by omega) (aG a (2 * (k+1)+1)) (by simp [vU,Nat.mul_succ]) _ (by simp [vU])).trans h1⟩
 have e6:Drawn.Conn (oW a b m) (aG a (2 * m+2)) (aG a 0):=(Drawn.Conn.part (p:=⟨6,aG b (m+2),[],[aG a (2 * m),aG a (2 * m+1)],[aG a (2 * m+2)]⟩) (List.mem_append.mpr (.inr (by simp))) (by simp) (by simp)).trans (con m (Nat.le_refl m)).1
 have e2:Drawn.Conn (oW a b m) (aG a (2 * m+3)) (aG a 0):=(Drawn.Conn.part (p:=⟨2,aG b (m+3),[],[aG a (2 * m+2)],[aG a (2 * m+3)]⟩) (List.mem_append.mpr (.inr (by simp))) (by simp) (by simp)).trans e6
 refine⟨aG a 0,fun q hq=>?_⟩
 rcases wideP_mem hq with (rfl | rfl) | ⟨k,hk,rfl⟩ | rfl | rfl | rfl
 ·exact⟨_,by simp,.refl _⟩
 ·exact⟨aG a 1,by simp,(con 0 (by omega)).2⟩
 ·exact⟨aG a (2 * k),by simp [vU],(con k (by omega)).1⟩
 ·exact⟨aG a (2 * m),by simp,(con m (Nat.le_refl m)).1⟩
 ·exact⟨aG a (2 * m+2),by simp,e6⟩
 ·exact⟨aG a (2 * m+3),by simp,e2⟩
theorem wide_fit {a b:Int} {m:Nat} (m7:7≤m) (m10:m≤10):Fit (zA a m) (oW a b m):=by
 obtain⟨w1,w2,w3⟩:=wide_eqs (a:=a) (b:=b) m7 m10
 have pl:(oW a b m).length=m+5:=by
  have:=congrArg List.length w1
  rwa [lM,lM,List.length_range] at this
 have ll:(zA a m).length=2 * m+4:=by unfold zA;rw [lM,List.length_range]
 refine⟨fun l hl=>?_,fun p hp=>?_,fun l hl=>?_,fun p hp=>?_,?_,⟨?_,?_,?_,wide_hang m7⟩,by omega,by omega,by omega,by omega⟩
 ·obtain⟨k,hk,rfl⟩:=List.mem_map.mp hl
  exact⟨by show(1:Int)≤1+((k % 3:Nat):Int);omega,by show 1+((k % 3:Nat):Int)≤199;omega,by show((0:Nat):Int)≤1+((k % 3:Nat):Int);omega,by simp⟩
 ·rcases wideP_mem hp with (rfl | rfl) | ⟨k,hk,rfl⟩ | rfl | rfl | rfl <;> exact⟨Nat.le_of_ble_eq_true rfl,rfl,rfl,rfl,by simp [vU]⟩
 ·obtain⟨k,hk,rfl⟩:=List.mem_map.mp hl
  exact sO _ (by have:=List.mem_range.mp hk;omega)
 ·have:p.name∈(List.range (m+5)).map (aG b):=by rw [←w1];exact List.mem_map.mpr ⟨p,hp,rfl⟩
  obtain⟨k,hk,e⟩:=List.mem_map.mp this
  rw [←e]
  exact sO _ (by have:=List.mem_range.mp hk;omega)
 ·rw [w1];exact qi _ (by omega)
 ·rw [vB];exact qi _ (by omega)
 ·rw [vB,w2]
 ·rw [vB,w3]
theorem gf.dt {v:V} (h:gf v):∃d,(∀H:Hp,Dt K H v d)∧Gd 0 d:=by
 rcases h with ⟨z,rfl,_,ok⟩ | rfl | rfl
 ·exact⟨_,fun _=>.str z,.str 0 ok⟩
 ·exact⟨_,fun _=>.non,by simp [PyData.eqv],by simp [PyData.canLay0],by simp [PyData.depth]⟩
 ·exact⟨_,fun _=>.int 5,.int 0 5⟩
theorem due_dt {x:Str} {v w:V} (hx:PyData.strOk x=true) (hl:x.length≤100) (hv:gf v) (hw:gf w) (c:Nat) (hc:c≤6):∃d,(∀(H:Hp) (r:V),Al H r c x v w→Dt K H r d)∧Gd 1 d:=by
 have two:∀(s:Str) (u:V),PyData.strOk s=true→gf u→∃d,(∀(H:Hp) (p:Addr),H p=some (.lst [.str s,u])→Dt K H (.ref p) d)∧Gd 1 d:=fun s u hs hu=>by
  obtain⟨d,h1,h2⟩:=hu.dt (K:=K)
  refine⟨.list [.str s,d],fun H p hp=>.list (SqL.of hp) (.cons (.str s) (.cons (h1 H) .nil)),.list fun y hy=>?_⟩
  simp only [List.mem_cons,List.not_mem_nil,or_false] at hy
  rcases hy with rfl | rfl
  ·exact .str 0 hs
  ·exact h2
 have hval:∀c,gf (zV x v w c):=fun c=>by
  unfold zV
  split
  ·exact .inl ⟨x,rfl,hl,hx⟩
  ·exact hv
  ·exact hv
  ·exact hw
 have htag:∀c,PyData.strOk (tagD c)=true:=fun c=>by
  unfold tagD
  split <;> decide +kernel
 by_cases h0:c=0
 ·subst h0
  refine⟨.none,fun H r h=>?_,by simp [PyData.eqv],by simp [PyData.canLay0],by simp [PyData.depth]⟩
  rcases h with ⟨_,rfl⟩ | ⟨z,_⟩ | ⟨z,_⟩
  ·exact .non
  ·cases z
  ·cases z
 by_cases h6:c=6
 ·subst h6
  refine⟨.list [.str "many"],fun H r h=>?_,.list fun y hy=>?_⟩
  ·rcases h with ⟨z,_⟩ | ⟨_,p,rfl,hp⟩ | ⟨_,z,_⟩
   ·cases z
   ·exact .list (SqL.of hp) (.cons (.str _) .nil)
   ·exact absurd z (by decide)
  ·simp only [List.mem_cons,List.not_mem_nil,or_false] at hy
   subst hy
   exact .str 0 (by decide +kernel)
 obtain⟨d,h1,h2⟩:=two (tagD c) (zV x v w c) (htag c) (hval c)
 refine⟨d,fun H r h=>?_,h2⟩
 rcases h with ⟨z,_⟩ | ⟨z,_⟩ | ⟨_,_,p,rfl,hp⟩
 ·exact absurd z h0
 ·exact absurd z h6
 ·exact h1 H p hp
theorem due_le (ln pn:List Str) (x:Str) (v w:V):qd ln pn x v w≤6:=by
 unfold qd
 repeat' split
 all_goals omega
theorem due_0 {ln pn:List Str} {x:Str} {v w:V} (h:qd ln pn x v w=0):x∈ln∧nameV v=true∧gK v∉pn∧nameV w=true∧gK w∉ln∧pn.length≤15∧ln.length≤23:=by
 unfold qd at h
 split at h
 ·cases h
 rename_i h1
 split at h
 ·cases h
 rename_i h2
 split at h
 ·cases h
 rename_i h3
 split at h
 ·cases h
 rename_i h4
 split at h
 ·cases h
 rename_i h5
 split at h
 ·cases h
 rename_i h6
 exact⟨Classical.not_not.mp h1,by simpa using h2,h3,by simpa using h4,h5,by omega,by omega⟩
def sp_law (K:PySem.W.Frag):Sp:=fun vs H Q _=>∃(a:Addr) (ns:List Int),vs=[.ref a]∧SqL K H a (ns.map V.int)∧ns.length≤63∧∀H',Q (.bl true) H'
theorem sc_law:FnScope ["_law_script", "_law_lanes", "_law_parts", "_law_many", "_law_net_one", "_law_k", "_law_cell_here", "_law_lane_here", "_law_slot", "_law_fresh", "_law_found", "_law_told", "_law_due_here"] ["_law_script"] (aA yJ):=⟨rfl,rfl,rfl,by decide +kernel,rfl,by decide +kernel,by decide +kernel⟩
theorem ok_law (T:Txt w K mg t):FnOk P w K mg base CX0 10 t.f_law t.fd_law ["_law_script"] (sp_law K):=by
 have sc:=sc_law
 refine T.F_law.ok sc (fun vs H Q E h=>?_) (fun cdv A outer s H vs Q E hr h=>?_)
 ·obtain⟨a,ns,rfl,_⟩:=h
  rfl
 ·obtain⟨a,ns,rfl,hS,hlen,k⟩:=h
  refine⟨_,(az (ps_asg (aH (ok__law_net T) (hr.mono (by decide)) (by rfl) T.m__law_net T.zX.kp T.b__law_net .nil aN (aa (pv 0) (aa au (aa (bj cL (aH (fO T) (hr.mono (by decide)) (by rfl) T.gA T.fM.kp T.gm .nil aN (aa (pv 0) (aa au ak ao) aj)) au) (aa oG ak ao) bZ) ao) aj)) (uC rfl (bU (bL (i:=1) sc.nd rfl (Or.inl rfl)) (bU (bL (i:=2) sc.nd rfl (Or.inl rfl)) kZ))))
   (az (fH (cz (bC gJ (bj cL (aH (fO T) (hr.mono (by decide)) (by rfl) T.gA T.fM.kp T.gm .nil aN (aa (pv 0) (aa au ak ao) aj)) au) au (bW _))
    (az (bD (i:=3) sc.nd rfl (Or.inl rfl) (bj cQ au (bj cL (bj op_fdivB (aH (fO T) (hr.mono (by decide)) (by rfl) T.gA T.fM.kp T.gm .nil aN (aa (pv 0) (aa au ak ao) aj)) au) au)))
    (aF (ps_asg (aH (ok__law_wide T) (hr.mono (by decide)) (by rfl) T.m__law_wide T.yS.kp T.b__law_wide .nil aN (aa (aH (fO T) (hr.mono (by decide)) (by rfl) T.gA T.fM.kp T.gm .nil aN (aa (pv 0) (aa au ak ao) aj)) (aa (aH (fO T) (hr.mono (by decide)) (by rfl) T.gA T.fM.kp T.gm .nil aN (aa (pv 0) (aa au ak ao) aj)) (aa (pv 3) ak aj) aW) aW)) (uC rfl (bU (bL (i:=1) sc.nd rfl (Or.inl rfl)) (bU (bL (i:=2) sc.nd rfl (Or.inl rfl)) kZ))))))
    bJ))
   (az (bD (i:=4) sc.nd rfl (Or.inl rfl) (iZ T.M_Net (tZ T) (hr.mono (by decide)) (by rfl) T.mc_Net T.ur .nil pass20 (aa (pv 1) (aa (pv 2) ak aj) aj)))
   (az (lB PassesOwn.never rfl (pi_enum rfl T.yG (aa (fL lg (pv 0) (d8 au) (d8 au)) ak aJ)) (uC rfl (bU (bL (i:=5) sc.nd rfl (Or.inl rfl)) (bU (bL (i:=6) sc.nd rfl (Or.inl rfl)) kZ)))
    (az (bD (i:=7) sc.nd rfl (Or.inl rfl) (bG dW (bG bN (pv 1) (bj cL (aH (aV T) (hr.mono (by decide)) (by rfl) T.bf T.aZ.kp T.bc .nil aN (aa (pv 6) (aa au ak ao) aj)) (bI cj (by rfl) T.gh dR (aa (pv 1) ak aj))) (fun _ _=>rfl)) au (fun _ _=>rfl)))
    (az (fH (cz (bC gJ (bj cL (aH (aV T) (hr.mono (by decide)) (by rfl) T.bf T.aZ.kp T.bc .nil aN (aa (pv 6) (aa au ak ao) aj)) au) au (bW _))
     (aF (bD (i:=7) sc.nd rfl (Or.inl rfl) (aH (cT T) (hr.mono (by decide)) (by rfl) T.dD T.cZ.kp T.dG .nil aN (aa (pv 6) (aa (pv 5) ak aj) aj))))
     bJ))
    (az (bD (i:=8) sc.nd rfl (Or.inl rfl) (aH (uR T) (hr.mono (by decide)) (by rfl) T.wg T.qQ.kp T.vZ .nil aN (aa (aH (aV T) (hr.mono (by decide)) (by rfl) T.bf T.aZ.kp T.bc .nil aN (aa (pv 6) (aa au ak ao) aj)) (aa (pv 5) (aa (rQ [] ["_law_script", "_law_lanes", "_law_parts", "_law_many", "_law_net_one", "_law_k", "_law_cell_here", "_law_lane_here", "_law_slot", "_law_fresh", "_law_found", "_law_told", "_law_due_here"] (aA yJ) rfl (fG (pv 2)) (fun _ _ _ _ _=>fW) (fun _ _ _ _ _=>(bG (zu (K:=K) rfl) (pv 0) au (fun _ _=>rfl)))) ak gU) aj) aW)))
    (az (bD (i:=9) sc.nd rfl (Or.inl rfl) (aH (uR T) (hr.mono (by decide)) (by rfl) T.wg T.qQ.kp T.vZ .nil aN (aa (aH (aV T) (hr.mono (by decide)) (by rfl) T.bf T.aZ.kp T.bc .nil aN (aa (pv 6) (aa au ak ao) aj)) (aa (pv 5) (aa (rQ [] ["_law_script", "_law_lanes", "_law_parts", "_law_many", "_law_net_one", "_law_k", "_law_cell_here", "_law_lane_here", "_law_slot", "_law_fresh", "_law_found", "_law_told", "_law_due_here"] (aA yJ) rfl (fG (pv 1)) (fun _ _ _ _ _=>fW) (fun _ _ _ _ _=>(bG (zu (K:=K) rfl) (pv 0) au (fun _ _=>rfl)))) ak gU) aj) aW)))
    (az (ps_asg (aH (ok__law_asked T) (hr.mono (by decide)) (by rfl) T.m__law_asked T.xV.kp T.b__law_asked .nil aN (aa (pv 4) (aa (pv 7) (aa (pv 8) (aa (pv 9) ak aj) aj) aj) aj)) (pg_lst rfl (bU (bL (i:=10) sc.nd rfl (Or.inl rfl)) (bU (bL (i:=11) sc.nd rfl (Or.inl rfl)) kZ))))
    (az (bD (i:=12) sc.nd rfl (Or.inl rfl) (aH (ok__law_due T) (hr.mono (by decide)) (by rfl) T.m__law_due T.zM.kp T.b__law_due .nil aN (aa (pv 1) (aa (pv 2) (aa (pv 7) (aa (pv 8) (aa (pv 9) ak aj) aj) aj) aj) aj)))
    (az (cz (PW.pt (tY (bC (op_neD hr.units) (rm (pv 4) T.dI T.uE (u0 T) (hr.mono (by decide)) T.wG .nil aN) (aH (qj T) (hr.mono (by decide)) (by rfl) T.rB T.nj.kp T.q9 .nil aN (aa (pv 1) (aa (pv 2) ak aj) aj)) (bW _)) (qR (bC (op_neD hr.units) (pv 11) (pv 12) (bW _)))))
     (aF (bA oG))
     bJ)
    (aF (fH (cz (xu (pc_isN (pv 12)))
     (az (ps_asg (aH (ok__law_slotted T) (hr.mono (by decide)) (by rfl) T.m__law_slotted T.uV.kp T.b__law_slotted .nil aN (aa (pv 1) (aa (pv 2) (aa (pv 7) (aa (pv 8) (aa (pv 9) ak aj) aj) aj) aj) aj)) (uC rfl (bU (bL (i:=1) sc.nd rfl (Or.inl rfl)) (bU (bL (i:=2) sc.nd rfl (Or.inl rfl)) kZ))))
     (az (cz (bC (op_neD hr.units) (rm (pv 10) T.dI T.uE (u0 T) (hr.mono (by decide)) T.wG .nil aN) (aH (qj T) (hr.mono (by decide)) (by rfl) T.rB T.nj.kp T.q9 .nil aN (aa (pv 1) (aa (pv 2) ak aj) aj)) (bW _))
      (aF (bA oG))
      bJ)
     (aF (bD (i:=4) sc.nd rfl (Or.inl rfl) (pv 10)))))
     bJ)))))))))))
   (aF (bA oG)))))),?_⟩
  have hz:sizeLine=16777216:=sizeLine_eq
  have c0:=Int.emod_nonneg (gj ns 0) (show(4:Int)≠0 by decide)
  have c1:=Int.emod_lt_of_pos (gj ns 0) (show(0:Int) <4 by decide)
  obtain⟨st,hst,hst4⟩:∃st:Nat,gj ns 0 % 4=(st:Int)∧st≤4:=⟨(gj ns 0 % 4).toNat,by omega,by omega⟩
  refine⟨_,rfl,_,rfl,a,ns,0,rfl,hS,_,_,rfl,rfl,by show(0:Int) <4;decide,?_⟩
  dsimp only
  rw [hst]
  refine⟨a,ns,2,st,true,rfl,hS,hst4,fun T' L P ls ps H1 s1 nL nP nLP eT A D=>?_⟩
  refine⟨T',_,rfl,SqT.of eT,rfl,_,_,rfl,_,_,rfl,rfl,?_⟩
  refine⟨fun σ H'=>∃L P ls ps v3,σ=[some (.ref a),some (.ref L),some (.ref P),v3,none,none,none,none,none,none,none,none,none]∧aO H H'∧NetAt H' L P ls ps∧Fit ls ps,?_,?_⟩
  ·refine⟨_,rfl,a,ns,1,rfl,s1.seq hS,_,_,rfl,rfl,by show(0:Int) <4;decide,rfl,_,rfl,iy (fun _=>?_) (fun _=>⟨L,P,ls,ps,_,rfl,s1,A,D.fit⟩)⟩
   refine⟨_,rfl,a,ns,1,rfl,s1.seq hS,_,_,rfl,rfl,divOk (by decide) (by decide),_,_,rfl,rfl,by show(0:Int) <4;decide,_,_,rfl,rfl,?_⟩
   have d0:=Int.emod_nonneg (gj ns 1 / 4) (show(4:Int)≠0 by decide)
   have d1:=Int.emod_lt_of_pos (gj ns 1 / 4) (show(0:Int) <4 by decide)
   obtain⟨m,hm,m7,m10⟩:∃m:Nat,7+gj ns 1 / 4 % 4=(m:Int)∧7≤m∧m≤10:=⟨(7+gj ns 1 / 4 % 4).toNat,by omega,by omega,by omega⟩
   dsimp only
   rw [hm]
   refine⟨_,rfl,a,ns,2,rfl,s1.seq hS,_,rfl,a,ns,3,rfl,s1.seq hS,_,rfl,gj ns 2,gj ns 3,m,rfl,m7,m10,fun T2 L2 P2 H2 s2 eT2 A2=>?_⟩
   exact⟨T2,_,rfl,SqT.of eT2,rfl,_,_,rfl,_,_,rfl,rfl,L2,P2,_,_,_,rfl,s1.trans s2,A2,wide_fit m7 m10⟩
  clear A D eT nL nP nLP
  rintro σ H2 ⟨L,P,ls,ps,v3,rfl,s2,A,hF⟩
  refine⟨_,rfl,_,rfl,fun n dxn nn ndn nen=>?_⟩
  have g4:aO H2 (upd (upd H2 dxn (.own n)) n (.ins t.bO dxn [])):=fun b o e=>by rw [aK (aD e nn),aK (aD e ndn)];exact e
  have hH:Hand K (upd (upd H2 dxn (.own n)) n (.ins t.bO dxn [])) L P ls ps:=by
   obtain⟨⟨x1,x2,x3⟩,⟨y1,y2,y3⟩⟩:=A.same g4
   refine⟨⟨x1,SqL.of x2,x3.imp fun _ _ h=>?_⟩,⟨y1,SqL.of y2,y3.imp fun _ _ h=>?_⟩⟩
   ·obtain⟨q,f,e,h1,h2⟩:=h
    exact⟨q,f,e,h1,.inl (SqL.of h2)⟩
   ·obtain⟨q,a1,a2,a3,e,h1,h2,h3,h4⟩:=h
    exact⟨q,a1,a2,a3,e,h1,.inl (SqL.of h2),.inl (SqL.of h3),.inl (SqL.of h4)⟩
  refine⟨n,dxn,L,P,ls,ps,rfl,aq,hH,.inr ⟨hF,fun H3 b3 N3=>⟨rfl,?_⟩⟩⟩
  have s23:aO H2 H3:=fun b o e=>b3 b o (aD e nn) (g4 b o e)
  have A3:=A.same s23
  have s3:=s2.trans s23
  clear hH g4 b3 A
  refine⟨_,rfl,_,rfl,_,rfl,a,_,rfl,s3.seq hS,fun p np=>⟨p,rfl,⟨_,SqL.of aq⟩,?_⟩⟩
  obtain⟨cs,ecs,lcs⟩:∃cs:List Int,oU (ns.map V.int) (some 10) (some 24)=cs.map V.int∧cs.length≤14:=by
   refine⟨(ns.drop (min 10 ns.length)).take (min 24 ns.length - min 10 ns.length),(zB (ns.map V.int) 10 24).trans ?_,?_⟩
   ·rw [List.map_take,List.map_drop,lM]
   ·rw [List.length_take];omega
  rw [ecs]
  have tp:=aC (o:=.lst (cs.map V.int)) np
  have ep:upd H3 p (.lst (cs.map V.int)) p=some (.lst (cs.map V.int)):=aq
  have A4:=A3.same tp
  have N4:=N3.same tp
  generalize upd H3 p (.lst (cs.map V.int))=B at tp ep A4 N4 ⊢
  refine for_enum (K:=K) (a:=p) (xs:=cs.map V.int) (fun j σ H'=>∃L P n ls ps v5 v6 v7 v8 v9 v10 v11 v12,σ=[some (.ref a),some (.ref L),some (.ref P),v3,some (.ref n),v5,v6,v7,v8,v9,v10,v11,v12]∧aO B H'∧NetAt H' L P ls ps∧vg K t H' n ls ps) ⟨_,_,_,_,_,_,_,_,_,_,_,_,_,rfl,aO.refl _,A4,N4⟩ (fun j σ H' _ ⟨_,_,_,_,_,_,_,_,_,_,_,_,_,_,s',_⟩=>SqL.of (s' _ _ ep)) ?_ (fun σ H' _=>k _)
  clear A4 N4 A3 N3 hF nn ndn nen dxn n L P ls ps
  rintro j x σ H' hx ⟨L,P,n,ls,ps,v5,v6,v7,v8,v9,v10,v11,v12,rfl,s',A,N⟩ u nu
  rw [List.getElem?_map] at hx
  obtain⟨c,hc,rfl⟩:=Option.map_eq_some_iff.mp hx
  have hj:=(List.getElem?_eq_some_iff.mp hc).1
  refine⟨u,_,rfl,SqT.of aq,rfl,_,_,rfl,_,_,rfl,rfl,?_⟩
  have tu:=aC (o:=.tup [.int (j:Nat),.int c]) nu
  have A:=A.same tu
  have N:=N.same tu
  have s':=s'.trans tu
  generalize upd H' u (.tup [.int (j:Nat),.int c])=H1 at tu A N s' ⊢
  have hF:Fit ls ps:=by obtain⟨_,_,_,_,_,_,_,_,_,W⟩:=N;exact W.fit
  have l1:=hF.l1
  have l24:=hF.l24
  have p1:=hF.p1
  have p16:=hF.p16
  obtain⟨⟨xs,eL,aL⟩,⟨ys,eP,aP⟩⟩:=id A
  have lx:=aL.length
  have ly:=aP.length
  obtain⟨mo,hmo⟩:∃mo:Int,cu c 1=mo:=⟨_,rfl⟩
  have m0:=Int.emod_nonneg mo (show(ls.length:Int)≠0 by omega)
  have m1:=Int.emod_lt_of_pos mo (show(0:Int) <(ls.length:Int) by omega)
  obtain⟨i,hi⟩:∃i:Nat,mo % (ls.length:Int)=(i:Int):=⟨_,(Int.toNat_of_nonneg m0).symm⟩
  have hil:i <xs.length:=by omega
  obtain⟨l,hli,q,f,exi,hq,hf⟩:=aL.get (List.getElem?_eq_getElem hil)
  have rn:=hF.lnm l (List.mem_of_getElem? hli)
  refine⟨_,rfl,_,rfl,c,1,rfl,_,rfl,.ref L,ls.length,rfl,.inl ⟨_,SqL.of eL,lx.symm⟩,cu c 1,(ls.length:Int),rfl,rfl,by omega,L,xs,(i:Int),.ref q,rfl,by show V.int (cu c 1 % (ls.length:Int))=_;rw [hmo,hi],SqL.of eL,by rw [←exi];exact aQ (List.getElem?_eq_getElem hil),?_⟩
  refine⟨q,_,0,_,rfl,rfl,SqT.of hq,aQ (j:=0) rfl,?_⟩
  refine⟨fun σ2 H2=>∃x,σ2=[some (.ref a),some (.ref L),some (.ref P),v3,some (.ref n),some (.int (j:Nat)),some (.int c),some (.str x),v8,v9,v10,v11,v12]∧nameB x=true∧aO H1 H2,?_,?_⟩
  ·refine⟨_,rfl,c,2,rfl,_,_,rfl,rfl,by show(0:Int) <8;decide,rfl,_,rfl,iy (fun _=>?_) (fun _=>?_)⟩
   ·exact⟨_,rfl,_,rfl,c,j,rfl,by omega,fun H2 s2=>⟨aG c j,rfl,sO c (by omega),s2⟩⟩
   ·exact⟨_,rfl,rn,aO.refl _⟩
  rintro σ2 H2 ⟨x,rfl,xn,t2⟩
  have A:=A.same t2
  have N:=N.same t2
  have s':=s'.trans t2
  clear eL aL eP aP hq hf exi rn hli l q f
  obtain⟨⟨xs,eL,aL⟩,⟨ys,eP,aP⟩⟩:=id A
  have lx:=aL.length
  have ly:=aP.length
  refine⟨_,rfl,c,6,rfl,_,rfl,_,rfl,P,rfl,⟨_,SqL.of eP⟩,?_⟩
  refine pG (K:=K) (a:=P) (xs:=ys) (fun i zs H9=>H9=H2∧zs=((ps.take i).map (·.name)).map V.str) (by omega) ⟨rfl,rfl⟩ (fun i zs H9 ⟨_,e⟩=>by rw [e,lM,lM,List.length_take];omega) (fun i zs H9 _ ⟨e,_⟩=>by rw [e];exact SqL.of eP) ?_ ?_
  ·rintro i y zs H9 hy ⟨e9,rfl⟩
   subst e9
   obtain⟨r,hri,q,b1,b2,b3,rfl,hq,_⟩:=aP.get hy
   refine yes ⟨_,rfl,q,_,1,_,rfl,rfl,SqT.of hq,aQ (j:=1) rfl,rfl,?_⟩
   rw [List.take_succ,hri,Option.toList_some,List.map_append,List.map_append]
   rfl
  rintro zs H9 ⟨e9,rfl⟩ Pn nPn
  subst e9
  rw [ly,List.take_length]
  have tPn:=aC (o:=.lst ((ps.map (·.name)).map V.str)) nPn
  have ePn:upd H9 Pn (.lst ((ps.map (·.name)).map V.str)) Pn=some (.lst ((ps.map (·.name)).map V.str)):=aq
  generalize upd H9 Pn (.lst ((ps.map (·.name)).map V.str))=GPn at tPn ePn ⊢
  refine⟨cu c 6,j,Pn,ps.map (·.name),rfl,by omega,ePn,by rw [lM];omega,by rw [lM];omega,fun z hz'=>?_,fun H3 v sH3 hv=>?_⟩
  ·obtain⟨r,hr,rfl⟩:=List.mem_map.mp hz'
   exact hF.pnm r hr
  have sH3:=tPn.trans sH3
  clear tPn ePn nPn
  have A:=A.same sH3
  have N:=N.same sH3
  have s':=s'.trans sH3
  clear eL aL eP aP lx ly
  obtain⟨⟨xs,eL,aL⟩,⟨ys,eP,aP⟩⟩:=id A
  have lx:=aL.length
  have ly:=aP.length
  refine⟨_,rfl,c,7,rfl,_,rfl,_,rfl,L,rfl,⟨_,SqL.of eL⟩,?_⟩
  refine pG (K:=K) (a:=L) (xs:=xs) (fun i zs H9=>H9=H3∧zs=((ls.take i).map (·.name)).map V.str) (by omega) ⟨rfl,rfl⟩ (fun i zs H9 ⟨_,e⟩=>by rw [e,lM,lM,List.length_take];omega) (fun i zs H9 _ ⟨e,_⟩=>by rw [e];exact SqL.of eL) ?_ ?_
  ·rintro i y zs H9 hy ⟨e9,rfl⟩
   subst e9
   obtain⟨r,hri,q,f,rfl,hq,_⟩:=aL.get hy
   refine yes ⟨_,rfl,q,_,0,_,rfl,rfl,SqT.of hq,aQ (j:=0) rfl,rfl,?_⟩
   rw [List.take_succ,hri,Option.toList_some,List.map_append,List.map_append]
   rfl
  rintro zs H9 ⟨e9,rfl⟩ Ln nLn
  subst e9
  rw [lx,List.take_length]
  have tLn:=aC (o:=.lst ((ls.map (·.name)).map V.str)) nLn
  have eLn:upd H9 Ln (.lst ((ls.map (·.name)).map V.str)) Ln=some (.lst ((ls.map (·.name)).map V.str)):=aq
  generalize upd H9 Ln (.lst ((ls.map (·.name)).map V.str))=GLn at tLn eLn ⊢
  refine⟨cu c 7,j,Ln,ls.map (·.name),rfl,by omega,eLn,by rw [lM];omega,by rw [lM];omega,fun z hz'=>?_,fun H4 w sH4 hw=>?_⟩
  ·obtain⟨r,hr,rfl⟩:=List.mem_map.mp hz'
   exact hF.lnm r hr
  have sH4:=tLn.trans sH4
  clear tLn eLn nLn
  have A:=A.same sH4
  have N:=N.same sH4
  have s':=s'.trans sH4
  clear eL aL eP aP lx ly
  refine⟨_,rfl,_,rfl,_,rfl,_,rfl,n,ls,ps,x,v,w,rfl,N,hv,hw,fun H5 r f g s5 er hg hf=>?_⟩
  have A:=A.same s5
  have N:=N.same s5
  have s':=s'.trans s5
  refine⟨r,_,rfl,SqL.of er,rfl,_,_,rfl,_,_,rfl,rfl,?_⟩
  refine⟨_,rfl,_,rfl,_,rfl,_,rfl,_,rfl,L,P,ls,ps,x,v,w,rfl,A,l24,p16,hv,hw,fun H6 d s6 hd=>?_⟩
  have A:=A.same s6
  have N:=N.same s6
  have s':=s'.trans s6
  have hg:=hg.same s6
  have dc:=due_le (ls.map (·.name)) (ps.map (·.name)) x v w
  obtain⟨dd,dt,gd⟩:=due_dt (K:=K) (vI xn) (vM xn) hv hw _ dc
  obtain⟨dx,fs,R,F,Pd,G,Tk,FL,PL,W⟩:=id N
  have g5:=hF.told
  refine⟨_,rfl,n,dx,fs,rfl,W.obj,W.fl.no _ (by decide +kernel),n,ls,ps,rfl,W.s,fun T2 c1 c2 H7 s7 _ _ _ TB=>?_⟩
  refine⟨_,rfl,_,rfl,L,P,ls,ps,rfl,A.same s7,hF,fun T3 c3 c4 H8 s8 TC=>?_⟩
  refine⟨_,_,(TB.same s8).dt,TC.dt,g5.shaped (by decide),g5.shaped (by decide),_,rfl,?_⟩
  rw [g5.eq]
  refine fP ?_
  have s68:=s7.trans s8
  refine⟨_,rfl,_,rfl,dd,dd,dt _ _ (hg.same s68),dt _ _ (hd.same s68),gd.shaped (by decide),gd.shaped (by decide),_,rfl,?_⟩
  rw [gd.eq]
  refine fP ?_
  have A:=A.same s68
  have N:=N.same s68
  have s':=s'.trans s68
  refine⟨_,?_,fun _ _ h=>h⟩
  rcases hd with ⟨h0,rfl⟩ | ⟨_,pd,rfl,_⟩ | ⟨_,_,pd,rfl,_⟩
  rotate_left
  ·exact⟨_,rfl,_,rfl,fP ⟨L,P,n,ls,ps,_,_,_,_,_,_,_,_,rfl,s',A,N⟩⟩
  ·exact⟨_,rfl,_,rfl,fP ⟨L,P,n,ls,ps,_,_,_,_,_,_,_,_,rfl,s',A,N⟩⟩
  refine⟨_,rfl,_,rfl,kW ?_⟩
  obtain⟨hx,nv,pv',nw,pw',k15,k23⟩:=due_0 h0
  rw [lM] at k15 k23
  obtain⟨l0,hl0,n',rfl,rfl,N'⟩:=hf h0
  obtain⟨ev,bv,_⟩:=hv.good nv
  obtain⟨ew,bw,_⟩:=hw.good nw
  have N7:=N'.same (s6.trans s68)
  clear N'
  generalize gK v=zv at ev bv pv' N7
  generalize gK w=zw at ew bw pw' N7
  subst ev ew
  have hF':=hF.slot hl0 bv bw pv' pw' k23 k15
  refine⟨_,rfl,_,rfl,_,rfl,_,rfl,_,rfl,L,P,ls,ps,zv,zw,l0,rfl,A,l24,p16,hl0,hF.whole.nod,fun q hq=>?_,fun T4 L' P' H9 s9 eT4 A'=>?_⟩
  ·rw [(hF.pok q hq).2.2.1]
   exact cI_le _
  refine⟨T4,_,rfl,SqT.of eT4,rfl,_,_,rfl,_,_,rfl,rfl,?_⟩
  have N8:=N7.same s9
  have s':=s'.trans s9
  obtain⟨dx',fs',R',F',Pd',G',Tk',FL',PL',W'⟩:=id N8
  have g6:=hF'.told
  refine⟨_,rfl,n',dx',fs',rfl,W'.obj,W'.fl.no _ (by decide +kernel),n',_,_,rfl,W'.s,fun T5 c5 c6 HA sA _ _ _ TD=>?_⟩
  refine⟨_,rfl,_,rfl,L',P',_,_,rfl,A'.same sA,hF',fun T6 c7 c8 HB sB TE=>?_⟩
  refine⟨_,_,(TD.same sB).dt,TE.dt,g6.shaped (by decide),g6.shaped (by decide),_,rfl,?_⟩
  rw [g6.eq]
  refine fP ?_
  have sAB:=sA.trans sB
  exact⟨_,rfl,L',P',n',_,_,_,_,_,_,_,_,_,_,rfl,s'.trans sAB,A'.same sAB,N8.same sAB⟩
end
theorem qF {α:Type} {P:List α→Prop} (h:∀a0,P [a0]):∀us:List α,us.length=1→P us
 | [a0],_=>h a0
theorem wO {α:Type} {P:List α→Prop} (h:∀a0 a1,P [a0,a1]):∀us:List α,us.length=2→P us
 | [a0,a1],_=>h a0 a1
theorem zb {α:Type} {P:List α→Prop} (h:∀a0 a1 a2,P [a0,a1,a2]):∀us:List α,us.length=3→P us
 | [a0,a1,a2],_=>h a0 a1 a2
theorem us_4 {α:Type} {P:List α→Prop} (h:∀a0 a1 a2 a3,P [a0,a1,a2,a3]):∀us:List α,us.length=4→P us
 | [a0,a1,a2,a3],_=>h a0 a1 a2 a3
theorem us_5 {α:Type} {P:List α→Prop} (h:∀a0 a1 a2 a3 a4,P [a0,a1,a2,a3,a4]):∀us:List α,us.length=5→P us
 | [a0,a1,a2,a3,a4],_=>h a0 a1 a2 a3 a4
theorem us_6 {α:Type} {P:List α→Prop} (h:∀a0 a1 a2 a3 a4 a5,P [a0,a1,a2,a3,a4,a5]):∀us:List α,us.length=6→P us
 | [a0,a1,a2,a3,a4,a5],_=>h a0 a1 a2 a3 a4 a5
open PySem.W in
theorem all_mk {l:OpenLaw} {w:World} {K:Frag} {h:Heap} {mg:Str→Option Value} {fa:Addr} (X:K.In h) (G:h.Ns mainGlobals mg) (hfa:mg "law" =some (.ref fa))
  {f0 f1 f2 f3 f4 f5 f6 f7 f8 f9 f10 f11 f12 f13 f14 f15 f16 f17 f18 f19 f20 f21 f22 f23 f24 f25 f26 f27 f28 f29 f30 f31 f32 f33 f34 f35 f36 f37 f38 f39 f40 f41 f42 f43 f44 f45 f46 f47 f48 f49 f50 f51 f52 f53 f54 f55 f56 f57 f58 f59:Addr} {od0 an0 od1 an1 od2 an2 od3 an3 od4 an4 od5 an5 od6 an6 od7 an7 od8 an8 od9 an9 od10 an10 od11 an11 od12 an12 od13 an13 od14 an14 od15 an15 od16 an16 od17 an17 od18 an18 od19 an19 od20 an20 od21 an21 od22 an22 od23 an23 od24 an24 od25 an25 od26 an26 od27 an27 od28 an28 od29 an29 od30 an30 od31 an31 od32 an32 od33 an33 od34 an34 od35 an35 od36 an36 od37 an37 od38 an38 od39 an39 od40 an40 od41 an41 od42 an42 od43 an43 od44 an44 od45 an45 od46 an46 od47 an47 od48 an48 od49 an49 od50 an50 od51 an51 od52 an52 od53 an53 od54 an54 od55 an55 od56 an56 od57 an57 od58 an58 od59 an59:Option Addr} {sl0 sl1 sl2 sl3 sl4 sl5 sl6 sl7 sl8 sl9 sl10 sl11 sl12 sl13 sl14 sl15 sl16 sl17 sl18 sl19 sl20 sl21 sl22 sl23 sl24 sl25 sl26 sl27 sl28 sl29 sl30 sl31 sl32 sl33 sl34 sl35 sl36 sl37 sl38 sl39 sl40 sl41 sl42 sl43 sl44 sl45 sl46 sl47 sl48 sl49 sl50 sl51 sl52 sl53 sl54 sl55 sl56 sl57 sl58 sl59:Array (Option Value)} {oc0 kV0 dc0 pm0 cd0 ct0 oc1 kV1 dc1 pm1 cd1 ct1 oc2 kV2 dc2 pm2 cd2 ct2 oc3 kV3 dc3 pm3 cd3 ct3 oc4 kV4 dc4 pm4 cd4 ct4 oc5 kV5 dc5 pm5 cd5 ct5 oc6 kV6 dc6 pm6 cd6 ct6 oc7 kV7 dc7 pm7 cd7 ct7 oc8 kV8 dc8 pm8 cd8 ct8 oc9 kV9 dc9 pm9 cd9 ct9 oc10 kV10 dc10 pm10 cd10 ct10 oc11 kV11 dc11 pm11 cd11 ct11 oc12 kV12 dc12 pm12 cd12 ct12 oc13 kV13 dc13 pm13 cd13 ct13 oc14 kV14 dc14 pm14 cd14 ct14 oc15 kV15 dc15 pm15 cd15 ct15 oc16 kV16 dc16 pm16 cd16 ct16 oc17 kV17 dc17 pm17 cd17 ct17 oc18 kV18 dc18 pm18 cd18 ct18 oc19 kV19 dc19 pm19 cd19 ct19 oc20 kV20 dc20 pm20 cd20 ct20 oc21 kV21 dc21 pm21 cd21 ct21 oc22 kV22 dc22 pm22 cd22 ct22 oc23 kV23 dc23 pm23 cd23 ct23 oc24 kV24 dc24 pm24 cd24 ct24 oc25 kV25 dc25 pm25 cd25 ct25 oc26 kV26 dc26 pm26 cd26 ct26 oc27 kV27 dc27 pm27 cd27 ct27 oc28 kV28 dc28 pm28 cd28 ct28 oc29 kV29 dc29 pm29 cd29 ct29 oc30 kV30 dc30 pm30 cd30 ct30 oc31 kV31 dc31 pm31 cd31 ct31 oc32 kV32 dc32 pm32 cd32 ct32 oc33 kV33 dc33 pm33 cd33 ct33 oc34 kV34 dc34 pm34 cd34 ct34 oc35 kV35 dc35 pm35 cd35 ct35 oc36 kV36 dc36 pm36 cd36 ct36 oc37 kV37 dc37 pm37 cd37 ct37 oc38 kV38 dc38 pm38 cd38 ct38 oc39 kV39 dc39 pm39 cd39 ct39 oc40 kV40 dc40 pm40 cd40 ct40 oc41 kV41 dc41 pm41 cd41 ct41 oc42 kV42 dc42 pm42 cd42 ct42 oc43 kV43 dc43 pm43 cd43 ct43 oc44 kV44 dc44 pm44 cd44 ct44 oc45 kV45 dc45 pm45 cd45 ct45 oc46 kV46 dc46 pm46 cd46 ct46 oc47 kV47 dc47 pm47 cd47 ct47 oc48 kV48 dc48 pm48 cd48 ct48 oc49 kV49 dc49 pm49 cd49 ct49 oc50 kV50 dc50 pm50 cd50 ct50 oc51 kV51 dc51 pm51 cd51 ct51 oc52 kV52 dc52 pm52 cd52 ct52 oc53 kV53 dc53 pm53 cd53 ct53 oc54 kV54 dc54 pm54 cd54 ct54 oc55 kV55 dc55 pm55 cd55 ct55 oc56 kV56 dc56 pm56 cd56 ct56 oc57 kV57 dc57 pm57 cd57 ct57 oc58 kV58 dc58 pm58 cd58 ct58 oc59 kV59 dc59 pm59 cd59 ct59:Value}
  {eO:Addr}
  {eG:Addr}
  {eY:Addr}
  {eQ:Addr}
  {eX:Addr}
  {eU:Addr}
  {gM:Addr}
  {eV:Addr}
  {dm:Addr}
  {cG:Addr}
  {dj:Addr}
  {bO:Addr}
  {fc:Addr}
  {bT:Addr}
  {bV:Addr}
  {bM:Addr}
  {bQ:Addr}
  {u_VALUES:Value}
  {u_LETTERS:Value}
  {u_LONGEST_NAME:Value}
  {u_FIGURES:Value}
  {u_MOST_LANES:Value}
  {u_MOST_PARTS:Value}
  {u_MOST_ROOM:Value}
  {oJ:Addr}
  (jcv:nsIn K mainGlobals "Give" =some (some (.ref eO)))
  (jcz:plainGet K eO Str.empty=true)
  (jdk:hasDictIn K eO=true)
  (jdr:plainOver K eO=true)
  (jdy:findIn K (.ref eO) "__setattr__" =some (some (.builtin "object.__setattr__")))
  (jds:makesIn K eO=true)
  (jcw:keepIn K (.ref eO)=true)
  (jB:findIn K (.ref eO) "__init__" =some (some (.ref f5)))
  (jab:findIn K (.ref eO) "kind" =some (some (.ref f6)))
  (jac:findIn K (.ref eO) "name" =some none)
  (jH:findIn K (.ref eO) "numbers" =some none)
  (jaz:findIn K (.ref eO) "ins" =some none)
  (jar:findIn K (.ref eO) "outs" =some none)
  (jdo:nsIn K mainGlobals "Take" =some (some (.ref eG)))
  (jd3:plainGet K eG Str.empty=true)
  (jc2:hasDictIn K eG=true)
  (jc4:plainOver K eG=true)
  (jdz:findIn K (.ref eG) "__setattr__" =some (some (.builtin "object.__setattr__")))
  (jdf:makesIn K eG=true)
  (jct:keepIn K (.ref eG)=true)
  (jA:findIn K (.ref eG) "__init__" =some (some (.ref f5)))
  (j7:findIn K (.ref eG) "kind" =some (some (.ref f7)))
  (j6:findIn K (.ref eG) "name" =some none)
  (jM:findIn K (.ref eG) "numbers" =some none)
  (ja2:findIn K (.ref eG) "ins" =some none)
  (jaj:findIn K (.ref eG) "outs" =some none)
  (jdu:nsIn K mainGlobals "Pass" =some (some (.ref eY)))
  (jdg:plainGet K eY Str.empty=true)
  (jdw:hasDictIn K eY=true)
  (jcu:plainOver K eY=true)
  (jc7:findIn K (.ref eY) "__setattr__" =some (some (.builtin "object.__setattr__")))
  (jdq:makesIn K eY=true)
  (jd1:keepIn K (.ref eY)=true)
  (jy:findIn K (.ref eY) "__init__" =some (some (.ref f5)))
  (jap:findIn K (.ref eY) "kind" =some (some (.ref f8)))
  (j4:findIn K (.ref eY) "name" =some none)
  (jI:findIn K (.ref eY) "numbers" =some none)
  (jbb:findIn K (.ref eY) "ins" =some none)
  (j9:findIn K (.ref eY) "outs" =some none)
  (jc5:nsIn K mainGlobals "Copy" =some (some (.ref eQ)))
  (jcx:plainGet K eQ Str.empty=true)
  (jdc:hasDictIn K eQ=true)
  (jd0:plainOver K eQ=true)
  (jd5:findIn K (.ref eQ) "__setattr__" =some (some (.builtin "object.__setattr__")))
  (jdn:makesIn K eQ=true)
  (jd6:keepIn K (.ref eQ)=true)
  (ju:findIn K (.ref eQ) "__init__" =some (some (.ref f5)))
  (jao:findIn K (.ref eQ) "kind" =some (some (.ref f9)))
  (jak:findIn K (.ref eQ) "name" =some none)
  (jK:findIn K (.ref eQ) "numbers" =some none)
  (ja9:findIn K (.ref eQ) "ins" =some none)
  (jag:findIn K (.ref eQ) "outs" =some none)
  (jdb:nsIn K mainGlobals "Turn" =some (some (.ref eX)))
  (jd4:plainGet K eX Str.empty=true)
  (jdm:hasDictIn K eX=true)
  (jdd:plainOver K eX=true)
  (jdj:findIn K (.ref eX) "__setattr__" =some (some (.builtin "object.__setattr__")))
  (jdv:makesIn K eX=true)
  (jda:keepIn K (.ref eX)=true)
  (jC:findIn K (.ref eX) "__init__" =some (some (.ref f5)))
  (jam:findIn K (.ref eX) "kind" =some (some (.ref f10)))
  (jax:findIn K (.ref eX) "name" =some none)
  (jF:findIn K (.ref eX) "numbers" =some none)
  (ja1:findIn K (.ref eX) "ins" =some none)
  (jah:findIn K (.ref eX) "outs" =some none)
  (jc8:nsIn K mainGlobals "Heap" =some (some (.ref eU)))
  (jcs:plainGet K eU Str.empty=true)
  (jc3:hasDictIn K eU=true)
  (jcy:plainOver K eU=true)
  (jc0:findIn K (.ref eU) "__setattr__" =some (some (.builtin "object.__setattr__")))
  (jdp:makesIn K eU=true)
  (jc9:keepIn K (.ref eU)=true)
  (jx:findIn K (.ref eU) "__init__" =some (some (.ref f5)))
  (jaq:findIn K (.ref eU) "kind" =some (some (.ref f11)))
  (jay:findIn K (.ref eU) "name" =some none)
  (jJ:findIn K (.ref eU) "numbers" =some none)
  (ja3:findIn K (.ref eU) "ins" =some none)
  (jal:findIn K (.ref eU) "outs" =some none)
  (jeg:nsIn K mainGlobals "Add" =some (some (.ref gM)))
  (jej:plainGet K gM Str.empty=true)
  (jeb:hasDictIn K gM=true)
  (jef:plainOver K gM=true)
  (jd9:findIn K (.ref gM) "__setattr__" =some (some (.builtin "object.__setattr__")))
  (jei:makesIn K gM=true)
  (jed:keepIn K (.ref gM)=true)
  (jG:findIn K (.ref gM) "__init__" =some (some (.ref f5)))
  (ja5:findIn K (.ref gM) "kind" =some (some (.ref f12)))
  (ja6:findIn K (.ref gM) "name" =some none)
  (jP:findIn K (.ref gM) "numbers" =some none)
  (jbi:findIn K (.ref gM) "ins" =some none)
  (jba:findIn K (.ref gM) "outs" =some none)
  (jde:nsIn K mainGlobals "Less" =some (some (.ref eV)))
  (jc6:plainGet K eV Str.empty=true)
  (jd2:hasDictIn K eV=true)
  (jdi:plainOver K eV=true)
  (jdh:findIn K (.ref eV) "__setattr__" =some (some (.builtin "object.__setattr__")))
  (jdx:makesIn K eV=true)
  (jdl:keepIn K (.ref eV)=true)
  (jw:findIn K (.ref eV) "__init__" =some (some (.ref f5)))
  (jae:findIn K (.ref eV) "kind" =some (some (.ref f13)))
  (jaa:findIn K (.ref eV) "name" =some none)
  (jD:findIn K (.ref eV) "numbers" =some none)
  (ja4:findIn K (.ref eV) "ins" =some none)
  (jan:findIn K (.ref eV) "outs" =some none)
  (jcn:nsIn K mainGlobals "Order" =some (some (.ref dm)))
  (jcf:plainGet K dm Str.empty=true)
  (jcc:hasDictIn K dm=true)
  (jcg:plainOver K dm=true)
  (jcr:findIn K (.ref dm) "__setattr__" =some (some (.builtin "object.__setattr__")))
  (jcd:makesIn K dm=true)
  (jcq:keepIn K (.ref dm)=true)
  (jk:findIn K (.ref dm) "__init__" =some (some (.ref f5)))
  (jV:findIn K (.ref dm) "kind" =some (some (.ref f14)))
  (j0:findIn K (.ref dm) "name" =some none)
  (jz:findIn K (.ref dm) "numbers" =some none)
  (jad:findIn K (.ref dm) "ins" =some none)
  (jZ:findIn K (.ref dm) "outs" =some none)
  (jca:nsIn K mainGlobals "Choose" =some (some (.ref cG)))
  (jb9:plainGet K cG Str.empty=true)
  (jb2:hasDictIn K cG=true)
  (jb4:plainOver K cG=true)
  (jb5:findIn K (.ref cG) "__setattr__" =some (some (.builtin "object.__setattr__")))
  (jb6:makesIn K cG=true)
  (jby:keepIn K (.ref cG)=true)
  (jh:findIn K (.ref cG) "__init__" =some (some (.ref f5)))
  (jS:findIn K (.ref cG) "kind" =some (some (.ref f15)))
  (jR:findIn K (.ref cG) "name" =some none)
  (jt:findIn K (.ref cG) "numbers" =some none)
  (jY:findIn K (.ref cG) "ins" =some none)
  (jO:findIn K (.ref cG) "outs" =some none)
  (jck:nsIn K mainGlobals "Split" =some (some (.ref dj)))
  (jco:plainGet K dj Str.empty=true)
  (jcp:hasDictIn K dj=true)
  (jcl:plainOver K dj=true)
  (jci:findIn K (.ref dj) "__setattr__" =some (some (.builtin "object.__setattr__")))
  (jce:makesIn K dj=true)
  (jcj:keepIn K (.ref dj)=true)
  (jl:findIn K (.ref dj) "__init__" =some (some (.ref f5)))
  (j1:findIn K (.ref dj) "kind" =some (some (.ref f16)))
  (j2:findIn K (.ref dj) "name" =some none)
  (jv:findIn K (.ref dj) "numbers" =some none)
  (jai:findIn K (.ref dj) "ins" =some none)
  (jW:findIn K (.ref dj) "outs" =some none)
  (jea:nsIn K mainGlobals "Net" =some (some (.ref bO)))
  (jee:plainGet K bO Str.empty=true)
  (jec:hasDictIn K bO=true)
  (jem:plainOver K bO=true)
  (jel:findIn K (.ref bO) "__setattr__" =some (some (.builtin "object.__setattr__")))
  (jeh:makesIn K bO=true)
  (jd7:keepIn K (.ref bO)=true)
  (jE:findIn K (.ref bO) "__init__" =some (some (.ref f49)))
  (jj:findIn K (.ref bO) "lane_names" =some (some (.ref f42)))
  (js:findIn K (.ref bO) "part_names" =some (some (.ref f43)))
  (ja:findIn K (.ref bO) "need_lane_name" =some (some (.ref f44)))
  (jN:findIn K (.ref bO) "room_of" =some (some (.ref f45)))
  (jL:findIn K (.ref bO) "first_of" =some (some (.ref f46)))
  (ja0:findIn K (.ref bO) "told" =some (some (.ref f48)))
  (jav:findIn K (.ref bO) "rooms" =some none)
  (j3:findIn K (.ref bO) "firsts" =some none)
  (j8:findIn K (.ref bO) "parts" =some none)
  (jX:findIn K (.ref bO) "givers" =some none)
  (jU:findIn K (.ref bO) "takers" =some none)
  (jat:nsIn K mainGlobals "LaneError" =some (some (.ref fc)))
  (jbh:nsIn K mainGlobals "TooMany" =some (some (.ref bT)))
  (jbt:nsIn K mainGlobals "NoSuch" =some (some (.ref bV)))
  (jbg:nsIn K mainGlobals "BadName" =some (some (.ref bM)))
  (jbp:nsIn K mainGlobals "Doubled" =some (some (.ref bQ)))
  (jb0:findIn K (.ref bV) "__init__" =some (some (.ref f0)))
  (jbr:findIn K (.ref bM) "__init__" =some (some (.ref f1)))
  (jbm:findIn K (.ref bQ) "__init__" =some (some (.ref f2)))
  (i0:isFn K (.ref f0)=true)
  (l0:K.lookup f0=some ⟨oc0,od0,.func (fnOf "__init__" "NoSuch.__init__" (aX d9) (aU d9) (aA d9) .none kV0 dc0 pm0 an0 cd0 ct0),sl0⟩)
  (c0:codeIn K cd0 "NoSuch.__init__" =true)
  (k0:keepIn K (.ref f0)=true)
  (i1:isFn K (.ref f1)=true)
  (l1:K.lookup f1=some ⟨oc1,od1,.func (fnOf "__init__" "BadName.__init__" (aX dX) (aU dX) (aA dX) .none kV1 dc1 pm1 an1 cd1 ct1),sl1⟩)
  (c1:codeIn K cd1 "BadName.__init__" =true)
  (k1:keepIn K (.ref f1)=true)
  (i2:isFn K (.ref f2)=true)
  (l2:K.lookup f2=some ⟨oc2,od2,.func (fnOf "__init__" "Doubled.__init__" (aX dY) (aU dY) (aA dY) .none kV2 dc2 pm2 an2 cd2 ct2),sl2⟩)
  (c2:codeIn K cd2 "Doubled.__init__" =true)
  (k2:keepIn K (.ref f2)=true)
  (a3:nsIn K mainGlobals "is_whole" =some (some (.ref f3)))
  (l3:K.lookup f3=some ⟨oc3,od3,.func (fnOf "is_whole" "is_whole" (aX m8) (aU m8) (aA m8) .none kV3 dc3 pm3 an3 cd3 ct3),sl3⟩)
  (c3:codeIn K cd3 "is_whole" =true)
  (k3:keepIn K (.ref f3)=true)
  (a4:nsIn K mainGlobals "is_value" =some (some (.ref f4)))
  (l4:K.lookup f4=some ⟨oc4,od4,.func (fnOf "is_value" "is_value" (aX m6) (aU m6) (aA m6) .none kV4 dc4 pm4 an4 cd4 ct4),sl4⟩)
  (c4:codeIn K cd4 "is_value" =true)
  (k4:keepIn K (.ref f4)=true)
  (i5:isFn K (.ref f5)=true)
  (l5:K.lookup f5=some ⟨oc5,od5,.func (fnOf "__init__" "Part.__init__" (aX fK) (aU fK) (aA fK) .none kV5 dc5 pm5 an5 cd5 ct5),sl5⟩)
  (c5:codeIn K cd5 "Part.__init__" =true)
  (k5:keepIn K (.ref f5)=true)
  (i6:isFn K (.ref f6)=true)
  (l6:K.lookup f6=some ⟨oc6,od6,.func (fnOf "kind" "Give.kind" (aX lK) (aU lK) (aA lK) .none kV6 dc6 pm6 an6 cd6 ct6),sl6⟩)
  (c6:codeIn K cd6 "Give.kind" =true)
  (k6:keepIn K (.ref f6)=true)
  (i7:isFn K (.ref f7)=true)
  (l7:K.lookup f7=some ⟨oc7,od7,.func (fnOf "kind" "Take.kind" (aX lO) (aU lO) (aA lO) .none kV7 dc7 pm7 an7 cd7 ct7),sl7⟩)
  (c7:codeIn K cd7 "Take.kind" =true)
  (k7:keepIn K (.ref f7)=true)
  (i8:isFn K (.ref f8)=true)
  (l8:K.lookup f8=some ⟨oc8,od8,.func (fnOf "kind" "Pass.kind" (aX mj) (aU mj) (aA mj) .none kV8 dc8 pm8 an8 cd8 ct8),sl8⟩)
  (c8:codeIn K cd8 "Pass.kind" =true)
  (k8:keepIn K (.ref f8)=true)
  (i9:isFn K (.ref f9)=true)
  (l9:K.lookup f9=some ⟨oc9,od9,.func (fnOf "kind" "Copy.kind" (aX lQ) (aU lQ) (aA lQ) .none kV9 dc9 pm9 an9 cd9 ct9),sl9⟩)
  (c9:codeIn K cd9 "Copy.kind" =true)
  (k9:keepIn K (.ref f9)=true)
  (i10:isFn K (.ref f10)=true)
  (l10:K.lookup f10=some ⟨oc10,od10,.func (fnOf "kind" "Turn.kind" (aX lU) (aU lU) (aA lU) .none kV10 dc10 pm10 an10 cd10 ct10),sl10⟩)
  (c10:codeIn K cd10 "Turn.kind" =true)
  (k10:keepIn K (.ref f10)=true)
  (i11:isFn K (.ref f11)=true)
  (l11:K.lookup f11=some ⟨oc11,od11,.func (fnOf "kind" "Heap.kind" (aX lG) (aU lG) (aA lG) .none kV11 dc11 pm11 an11 cd11 ct11),sl11⟩)
  (c11:codeIn K cd11 "Heap.kind" =true)
  (k11:keepIn K (.ref f11)=true)
  (i12:isFn K (.ref f12)=true)
  (l12:K.lookup f12=some ⟨oc12,od12,.func (fnOf "kind" "Add.kind" (aX mO) (aU mO) (aA mO) .none kV12 dc12 pm12 an12 cd12 ct12),sl12⟩)
  (c12:codeIn K cd12 "Add.kind" =true)
  (k12:keepIn K (.ref f12)=true)
  (i13:isFn K (.ref f13)=true)
  (l13:K.lookup f13=some ⟨oc13,od13,.func (fnOf "kind" "Less.kind" (aX lX) (aU lX) (aA lX) .none kV13 dc13 pm13 an13 cd13 ct13),sl13⟩)
  (c13:codeIn K cd13 "Less.kind" =true)
  (k13:keepIn K (.ref f13)=true)
  (i14:isFn K (.ref f14)=true)
  (l14:K.lookup f14=some ⟨oc14,od14,.func (fnOf "kind" "Order.kind" (aX iW) (aU iW) (aA iW) .none kV14 dc14 pm14 an14 cd14 ct14),sl14⟩)
  (c14:codeIn K cd14 "Order.kind" =true)
  (k14:keepIn K (.ref f14)=true)
  (i15:isFn K (.ref f15)=true)
  (l15:K.lookup f15=some ⟨oc15,od15,.func (fnOf "kind" "Choose.kind" (aX gQ) (aU gQ) (aA gQ) .none kV15 dc15 pm15 an15 cd15 ct15),sl15⟩)
  (c15:codeIn K cd15 "Choose.kind" =true)
  (k15:keepIn K (.ref f15)=true)
  (i16:isFn K (.ref f16)=true)
  (l16:K.lookup f16=some ⟨oc16,od16,.func (fnOf "kind" "Split.kind" (aX iK) (aU iK) (aA iK) .none kV16 dc16 pm16 an16 cd16 ct16),sl16⟩)
  (c16:codeIn K cd16 "Split.kind" =true)
  (k16:keepIn K (.ref f16)=true)
  (a17:nsIn K mainGlobals "is_kind" =some (some (.ref f17)))
  (l17:K.lookup f17=some ⟨oc17,od17,.func (fnOf "is_kind" "is_kind" (aX pA) (aU pA) (aA pA) .none kV17 dc17 pm17 an17 cd17 ct17),sl17⟩)
  (c17:codeIn K cd17 "is_kind" =true)
  (k17:keepIn K (.ref f17)=true)
  (a18:nsIn K mainGlobals "need_fit" =some (some (.ref f18)))
  (l18:K.lookup f18=some ⟨oc18,od18,.func (fnOf "need_fit" "need_fit" (aX lC) (aU lC) (aA lC) .none kV18 dc18 pm18 an18 cd18 ct18),sl18⟩)
  (c18:codeIn K cd18 "need_fit" =true)
  (k18:keepIn K (.ref f18)=true)
  (a19:nsIn K mainGlobals "made_of" =some (some (.ref f19)))
  (l19:K.lookup f19=some ⟨oc19,od19,.func (fnOf "made_of" "made_of" (aX pF) (aU pF) (aA pF) .none kV19 dc19 pm19 an19 cd19 ct19),sl19⟩)
  (c19:codeIn K cd19 "made_of" =true)
  (k19:keepIn K (.ref f19)=true)
  (a20:nsIn K mainGlobals "part_made" =some (some (.ref f20)))
  (l20:K.lookup f20=some ⟨oc20,od20,.func (fnOf "part_made" "part_made" (aX lJ) (aU lJ) (aA lJ) .none kV20 dc20 pm20 an20 cd20 ct20),sl20⟩)
  (c20:codeIn K cd20 "part_made" =true)
  (k20:keepIn K (.ref f20)=true)
  (a21:nsIn K mainGlobals "_law_mix" =some (some (.ref f21)))
  (l21:K.lookup f21=some ⟨oc21,od21,.func (fnOf "_law_mix" "_law_mix" (aX mU) (aU mU) (aA mU) .none kV21 dc21 pm21 an21 cd21 ct21),sl21⟩)
  (c21:codeIn K cd21 "_law_mix" =true)
  (k21:keepIn K (.ref f21)=true)
  (a22:nsIn K mainGlobals "_law_cell" =some (some (.ref f22)))
  (l22:K.lookup f22=some ⟨oc22,od22,.func (fnOf "_law_cell" "_law_cell" (aX lN) (aU lN) (aA lN) .none kV22 dc22 pm22 an22 cd22 ct22),sl22⟩)
  (c22:codeIn K cd22 "_law_cell" =true)
  (k22:keepIn K (.ref f22)=true)
  (a23:nsIn K mainGlobals "_law_value" =some (some (.ref f23)))
  (l23:K.lookup f23=some ⟨oc23,od23,.func (fnOf "_law_value" "_law_value" (aX iV) (aU iV) (aA iV) .none kV23 dc23 pm23 an23 cd23 ct23),sl23⟩)
  (c23:codeIn K cd23 "_law_value" =true)
  (k23:keepIn K (.ref f23)=true)
  (a24:nsIn K mainGlobals "_law_word" =some (some (.ref f24)))
  (l24:K.lookup f24=some ⟨oc24,od24,.func (fnOf "_law_word" "_law_word" (aX iB) (aU iB) (aA iB) .none kV24 dc24 pm24 an24 cd24 ct24),sl24⟩)
  (c24:codeIn K cd24 "_law_word" =true)
  (k24:keepIn K (.ref f24)=true)
  (a25:nsIn K mainGlobals "_law_lane" =some (some (.ref f25)))
  (l25:K.lookup f25=some ⟨oc25,od25,.func (fnOf "_law_lane" "_law_lane" (aX iD) (aU iD) (aA iD) .none kV25 dc25 pm25 an25 cd25 ct25),sl25⟩)
  (c25:codeIn K cd25 "_law_lane" =true)
  (k25:keepIn K (.ref f25)=true)
  (a26:nsIn K mainGlobals "_law_pick" =some (some (.ref f26)))
  (l26:K.lookup f26=some ⟨oc26,od26,.func (fnOf "_law_pick" "_law_pick" (aX lY) (aU lY) (aA lY) .none kV26 dc26 pm26 an26 cd26 ct26),sl26⟩)
  (c26:codeIn K cd26 "_law_pick" =true)
  (k26:keepIn K (.ref f26)=true)
  (a27:nsIn K mainGlobals "_law_part" =some (some (.ref f27)))
  (l27:K.lookup f27=some ⟨oc27,od27,.func (fnOf "_law_part" "_law_part" (aX iu) (aU iu) (aA iu) .none kV27 dc27 pm27 an27 cd27 ct27),sl27⟩)
  (c27:codeIn K cd27 "_law_part" =true)
  (k27:keepIn K (.ref f27)=true)
  (a28:nsIn K mainGlobals "_law_two" =some (some (.ref f28)))
  (l28:K.lookup f28=some ⟨oc28,od28,.func (fnOf "_law_two" "_law_two" (aX m5) (aU m5) (aA m5) .none kV28 dc28 pm28 an28 cd28 ct28),sl28⟩)
  (c28:codeIn K cd28 "_law_two" =true)
  (k28:keepIn K (.ref f28)=true)
  (a29:nsIn K mainGlobals "_law_loop" =some (some (.ref f29)))
  (l29:K.lookup f29=some ⟨oc29,od29,.func (fnOf "_law_loop" "_law_loop" (aX lL) (aU lL) (aA lL) .none kV29 dc29 pm29 an29 cd29 ct29),sl29⟩)
  (c29:codeIn K cd29 "_law_loop" =true)
  (k29:keepIn K (.ref f29)=true)
  (a30:nsIn K mainGlobals "_law_step" =some (some (.ref f30)))
  (l30:K.lookup f30=some ⟨oc30,od30,.func (fnOf "_law_step" "_law_step" (aX lZ) (aU lZ) (aA lZ) .none kV30 dc30 pm30 an30 cd30 ct30),sl30⟩)
  (c30:codeIn K cd30 "_law_step" =true)
  (k30:keepIn K (.ref f30)=true)
  (a31:nsIn K mainGlobals "_law_closed" =some (some (.ref f31)))
  (l31:K.lookup f31=some ⟨oc31,od31,.func (fnOf "_law_closed" "_law_closed" (aX gP) (aU gP) (aA gP) .none kV31 dc31 pm31 an31 cd31 ct31),sl31⟩)
  (c31:codeIn K cd31 "_law_closed" =true)
  (k31:keepIn K (.ref f31)=true)
  (a32:nsIn K mainGlobals "_law_net" =some (some (.ref f32)))
  (l32:K.lookup f32=some ⟨oc32,od32,.func (fnOf "_law_net" "_law_net" (aX lq) (aU lq) (aA lq) .none kV32 dc32 pm32 an32 cd32 ct32),sl32⟩)
  (c32:codeIn K cd32 "_law_net" =true)
  (k32:keepIn K (.ref f32)=true)
  (a33:nsIn K mainGlobals "is_name" =some (some (.ref f33)))
  (l33:K.lookup f33=some ⟨oc33,od33,.func (fnOf "is_name" "is_name" (aX m9) (aU m9) (aA m9) .none kV33 dc33 pm33 an33 cd33 ct33),sl33⟩)
  (c33:codeIn K cd33 "is_name" =true)
  (k33:keepIn K (.ref f33)=true)
  (a34:nsIn K mainGlobals "need_counts" =some (some (.ref f34)))
  (l34:K.lookup f34=some ⟨oc34,od34,.func (fnOf "need_counts" "need_counts" (aX gW) (aU gW) (aA gW) .none kV34 dc34 pm34 an34 cd34 ct34),sl34⟩)
  (c34:codeIn K cd34 "need_counts" =true)
  (k34:keepIn K (.ref f34)=true)
  (a35:nsIn K mainGlobals "need_fresh" =some (some (.ref f35)))
  (l35:K.lookup f35=some ⟨oc35,od35,.func (fnOf "need_fresh" "need_fresh" (aX iR) (aU iR) (aA iR) .none kV35 dc35 pm35 an35 cd35 ct35),sl35⟩)
  (c35:codeIn K cd35 "need_fresh" =true)
  (k35:keepIn K (.ref f35)=true)
  (a36:nsIn K mainGlobals "need_lane" =some (some (.ref f36)))
  (l36:K.lookup f36=some ⟨oc36,od36,.func (fnOf "need_lane" "need_lane" (aX iH) (aU iH) (aA iH) .none kV36 dc36 pm36 an36 cd36 ct36),sl36⟩)
  (c36:codeIn K cd36 "need_lane" =true)
  (k36:keepIn K (.ref f36)=true)
  (a37:nsIn K mainGlobals "fresh_part" =some (some (.ref f37)))
  (l37:K.lookup f37=some ⟨oc37,od37,.func (fnOf "fresh_part" "fresh_part" (aX iU) (aU iU) (aA iU) .none kV37 dc37 pm37 an37 cd37 ct37),sl37⟩)
  (c37:codeIn K cd37 "fresh_part" =true)
  (k37:keepIn K (.ref f37)=true)
  (a38:nsIn K mainGlobals "tie_lanes" =some (some (.ref f38)))
  (l38:K.lookup f38=some ⟨oc38,od38,.func (fnOf "tie_lanes" "tie_lanes" (aX lF) (aU lF) (aA lF) .none kV38 dc38 pm38 an38 cd38 ct38),sl38⟩)
  (c38:codeIn K cd38 "tie_lanes" =true)
  (k38:keepIn K (.ref f38)=true)
  (a39:nsIn K mainGlobals "need_ends" =some (some (.ref f39)))
  (l39:K.lookup f39=some ⟨oc39,od39,.func (fnOf "need_ends" "need_ends" (aX lH) (aU lH) (aA lH) .none kV39 dc39 pm39 an39 cd39 ct39),sl39⟩)
  (c39:codeIn K cd39 "need_ends" =true)
  (k39:keepIn K (.ref f39)=true)
  (a40:nsIn K mainGlobals "joined_with" =some (some (.ref f40)))
  (l40:K.lookup f40=some ⟨oc40,od40,.func (fnOf "joined_with" "joined_with" (aX gY) (aU gY) (aA gY) .none kV40 dc40 pm40 an40 cd40 ct40),sl40⟩)
  (c40:codeIn K cd40 "joined_with" =true)
  (k40:keepIn K (.ref f40)=true)
  (a41:nsIn K mainGlobals "need_joined" =some (some (.ref f41)))
  (l41:K.lookup f41=some ⟨oc41,od41,.func (fnOf "need_joined" "need_joined" (aX gZ) (aU gZ) (aA gZ) .none kV41 dc41 pm41 an41 cd41 ct41),sl41⟩)
  (c41:codeIn K cd41 "need_joined" =true)
  (k41:keepIn K (.ref f41)=true)
  (i42:isFn K (.ref f42)=true)
  (l42:K.lookup f42=some ⟨oc42,od42,.func (fnOf "lane_names" "Net.lane_names" (aX fB) (aU fB) (aA fB) .none kV42 dc42 pm42 an42 cd42 ct42),sl42⟩)
  (c42:codeIn K cd42 "Net.lane_names" =true)
  (k42:keepIn K (.ref f42)=true)
  (i43:isFn K (.ref f43)=true)
  (l43:K.lookup f43=some ⟨oc43,od43,.func (fnOf "part_names" "Net.part_names" (aX fu) (aU fu) (aA fu) .none kV43 dc43 pm43 an43 cd43 ct43),sl43⟩)
  (c43:codeIn K cd43 "Net.part_names" =true)
  (k43:keepIn K (.ref f43)=true)
  (i44:isFn K (.ref f44)=true)
  (l44:K.lookup f44=some ⟨oc44,od44,.func (fnOf "need_lane_name" "Net.need_lane_name" (aX dB) (aU dB) (aA dB) .none kV44 dc44 pm44 an44 cd44 ct44),sl44⟩)
  (c44:codeIn K cd44 "Net.need_lane_name" =true)
  (k44:keepIn K (.ref f44)=true)
  (i45:isFn K (.ref f45)=true)
  (l45:K.lookup f45=some ⟨oc45,od45,.func (fnOf "room_of" "Net.room_of" (aX ie) (aU ie) (aA ie) .none kV45 dc45 pm45 an45 cd45 ct45),sl45⟩)
  (c45:codeIn K cd45 "Net.room_of" =true)
  (k45:keepIn K (.ref f45)=true)
  (i46:isFn K (.ref f46)=true)
  (l46:K.lookup f46=some ⟨oc46,od46,.func (fnOf "first_of" "Net.first_of" (aX fV) (aU fV) (aA fV) .none kV46 dc46 pm46 an46 cd46 ct46),sl46⟩)
  (c46:codeIn K cd46 "Net.first_of" =true)
  (k46:keepIn K (.ref f46)=true)
  (a47:nsIn K mainGlobals "row_of" =some (some (.ref f47)))
  (l47:K.lookup f47=some ⟨oc47,od47,.func (fnOf "row_of" "row_of" (aX rA) (aU rA) (aA rA) .none kV47 dc47 pm47 an47 cd47 ct47),sl47⟩)
  (c47:codeIn K cd47 "row_of" =true)
  (k47:keepIn K (.ref f47)=true)
  (i48:isFn K (.ref f48)=true)
  (l48:K.lookup f48=some ⟨oc48,od48,.func (fnOf "told" "Net.told" (aX iG) (aU iG) (aA iG) .none kV48 dc48 pm48 an48 cd48 ct48),sl48⟩)
  (c48:codeIn K cd48 "Net.told" =true)
  (k48:keepIn K (.ref f48)=true)
  (i49:isFn K (.ref f49)=true)
  (l49:K.lookup f49=some ⟨oc49,od49,.func (fnOf "__init__" "Net.__init__" (aX fY) (aU fY) (aA fY) .none kV49 dc49 pm49 an49 cd49 ct49),sl49⟩)
  (c49:codeIn K cd49 "Net.__init__" =true)
  (k49:keepIn K (.ref f49)=true)
  (a50:nsIn K mainGlobals "part_led" =some (some (.ref f50)))
  (l50:K.lookup f50=some ⟨oc50,od50,.func (fnOf "part_led" "part_led" (aX lD) (aU lD) (aA lD) .none kV50 dc50 pm50 an50 cd50 ct50),sl50⟩)
  (c50:codeIn K cd50 "part_led" =true)
  (k50:keepIn K (.ref f50)=true)
  (a51:nsIn K mainGlobals "with_slot" =some (some (.ref f51)))
  (l51:K.lookup f51=some ⟨oc51,od51,.func (fnOf "with_slot" "with_slot" (aX gw) (aU gw) (aA gw) .none kV51 dc51 pm51 an51 cd51 ct51),sl51⟩)
  (c51:codeIn K cd51 "with_slot" =true)
  (k51:keepIn K (.ref f51)=true)
  (a52:nsIn K mainGlobals "_law_as_tuples" =some (some (.ref f52)))
  (l52:K.lookup f52=some ⟨oc52,od52,.func (fnOf "_law_as_tuples" "_law_as_tuples" (aX dw) (aU dw) (aA dw) .none kV52 dc52 pm52 an52 cd52 ct52),sl52⟩)
  (c52:codeIn K cd52 "_law_as_tuples" =true)
  (k52:keepIn K (.ref f52)=true)
  (a53:nsIn K mainGlobals "_law_wide" =some (some (.ref f53)))
  (l53:K.lookup f53=some ⟨oc53,od53,.func (fnOf "_law_wide" "_law_wide" (aX gB) (aU gB) (aA gB) .none kV53 dc53 pm53 an53 cd53 ct53),sl53⟩)
  (c53:codeIn K cd53 "_law_wide" =true)
  (k53:keepIn K (.ref f53)=true)
  (a54:nsIn K mainGlobals "_law_called" =some (some (.ref f54)))
  (l54:K.lookup f54=some ⟨oc54,od54,.func (fnOf "_law_called" "_law_called" (aX gO) (aU gO) (aA gO) .none kV54 dc54 pm54 an54 cd54 ct54),sl54⟩)
  (c54:codeIn K cd54 "_law_called" =true)
  (k54:keepIn K (.ref f54)=true)
  (a55:nsIn K mainGlobals "_law_is_name" =some (some (.ref f55)))
  (l55:K.lookup f55=some ⟨oc55,od55,.func (fnOf "_law_is_name" "_law_is_name" (aX fD) (aU fD) (aA fD) .none kV55 dc55 pm55 an55 cd55 ct55),sl55⟩)
  (c55:codeIn K cd55 "_law_is_name" =true)
  (k55:keepIn K (.ref f55)=true)
  (a56:nsIn K mainGlobals "_law_due" =some (some (.ref f56)))
  (l56:K.lookup f56=some ⟨oc56,od56,.func (fnOf "_law_due" "_law_due" (aX iw) (aU iw) (aA iw) .none kV56 dc56 pm56 an56 cd56 ct56),sl56⟩)
  (c56:codeIn K cd56 "_law_due" =true)
  (k56:keepIn K (.ref f56)=true)
  (a57:nsIn K mainGlobals "_law_slotted" =some (some (.ref f57)))
  (l57:K.lookup f57=some ⟨oc57,od57,.func (fnOf "_law_slotted" "_law_slotted" (aX fX) (aU fX) (aA fX) .none kV57 dc57 pm57 an57 cd57 ct57),sl57⟩)
  (c57:codeIn K cd57 "_law_slotted" =true)
  (k57:keepIn K (.ref f57)=true)
  (a58:nsIn K mainGlobals "_law_asked" =some (some (.ref f58)))
  (l58:K.lookup f58=some ⟨oc58,od58,.func (fnOf "_law_asked" "_law_asked" (aX iM) (aU iM) (aA iM) .none kV58 dc58 pm58 an58 cd58 ct58),sl58⟩)
  (c58:codeIn K cd58 "_law_asked" =true)
  (k58:keepIn K (.ref f58)=true)
  (a59:nsIn K mainGlobals "law" =some (some (.ref f59)))
  (l59:K.lookup f59=some ⟨oc59,od59,.func (fnOf "law" "law" (aX yJ) (aU yJ) (aA yJ) .none kV59 dc59 pm59 an59 cd59 ct59),sl59⟩)
  (c59:codeIn K cd59 "law" =true)
  (k59:keepIn K (.ref f59)=true)
  (jer:nsIn K mainGlobals "all" =some none)
  (jd8:nsIn K mainGlobals "bool" =some none)
  (jbc:nsIn K mainGlobals "enumerate" =some none)
  (jeq:nsIn K mainGlobals "int" =some none)
  (jau:nsIn K mainGlobals "isinstance" =some none)
  (jep:nsIn K mainGlobals "len" =some none)
  (jek:nsIn K mainGlobals "list" =some none)
  (jen:nsIn K mainGlobals "max" =some none)
  (jc1:nsIn K mainGlobals "range" =some none)
  (jeo:nsIn K mainGlobals "str" =some none)
  (jdt:nsIn K mainGlobals "tuple" =some none)
  (jcm:nsIn K mainGlobals "VALUES" =some (some u_VALUES))
  (jch:RelV (.int 1000000000) u_VALUES)
  (jb3:nsIn K mainGlobals "LETTERS" =some (some u_LETTERS))
  (jbw:RelV (.str "abcdefghijklmnopqrstuvwxyz") u_LETTERS)
  (jT:nsIn K mainGlobals "LONGEST_NAME" =some (some u_LONGEST_NAME))
  (jQ:RelV (.int 8) u_LONGEST_NAME)
  (jcb:nsIn K mainGlobals "FIGURES" =some (some u_FIGURES))
  (jb7:RelV (.str "0123456789") u_FIGURES)
  (jaw:nsIn K mainGlobals "MOST_LANES" =some (some u_MOST_LANES))
  (j5:RelV (.int 24) u_MOST_LANES)
  (jaf:nsIn K mainGlobals "MOST_PARTS" =some (some u_MOST_PARTS))
  (jas:RelV (.int 16) u_MOST_PARTS)
  (ja7:nsIn K mainGlobals "MOST_ROOM" =some (some u_MOST_ROOM))
  (ja8:RelV (.int 199) u_MOST_ROOM)
  (jbz:nsIn K mainGlobals "COUNTS" =some (some (.ref oJ)))
  (jb1:KTab w K oJ ROWS)
  (pb1:specialIn K (.ref fc) "__getattribute__" =some (some (.builtin "type.__getattribute__")))
  (pb2:readsIn K fc (.type "type")=true)
  (pb3:findCls K (.ref fc) (.type "type") "__init__" =some (.val (.builtin "ValueError.__init__")))
  (jb:kitOne K (.ref bT) (.ref fc)=some true)
  (jq:subIn K (.ref bV) (.ref bM)=some false)
  (jo:subIn K (.ref bV) (.ref bQ)=some false)
  (jp:subIn K (.ref bV) (.ref bT)=some false)
  (jr:subIn K (.ref bM) (.ref bV)=some false)
  (jg:subIn K (.ref bM) (.ref bQ)=some false)
  (je:subIn K (.ref bM) (.ref bT)=some false)
  (jm:subIn K (.ref bQ) (.ref bV)=some false)
  (jf:subIn K (.ref bQ) (.ref bM)=some false)
  (ji:subIn K (.ref bQ) (.ref bT)=some false)
  (jn:subIn K (.ref bT) (.ref bV)=some false)
  (jc:subIn K (.ref bT) (.ref bM)=some false)
  (jd:subIn K (.ref bT) (.ref bQ)=some false)
  (jbo:excIn K bT za "ValueError.__new__" =true)
  (jbd:xcIn K bT=true)
  (jbv:iniIn K bV f0=true)
  (jbu:keepIn K (.ref bV)=true)
  (jbx:xfIn K bV=true)
  (jb8:findIn K (.ref bV) "name" =some none)
  (jbq:iniIn K bM f1=true)
  (jbf:keepIn K (.ref bM)=true)
  (jbk:xfIn K bM=true)
  (jbe:findIn K (.ref bM) "name" =some none)
  (jbl:iniIn K bQ f2=true)
  (jbs:keepIn K (.ref bQ)=true)
  (jbn:xfIn K bQ=true)
  (jbj:findIn K (.ref bQ) "name" =some none)
  :∃fd:FuncData,(∀(s:Shared) (v:Value),BindsTo s fd ⟨[v],[]⟩ [("_law_script",v)])∧∀base:Heap,K.In base→base.Ns mainGlobals mg→FnOk l.prog w K mg base CX0 10 fa fd ["_law_script"] (sp_law K):=by
 have e:=hfa.symm.trans (mg_of X G a59)
 cases e
 have F0:=bF (st:=d9) l0 c0 k0
 have b0:=F0.binds (ps:=["self", "name"]) fun _ _ _ _ _ _=>wO fun _ _=>rfl
 have F1:=bF (st:=dX) l1 c1 k1
 have b1:=F1.binds (ps:=["self", "name"]) fun _ _ _ _ _ _=>wO fun _ _=>rfl
 have F2:=bF (st:=dY) l2 c2 k2
 have b2:=F2.binds (ps:=["self", "name"]) fun _ _ _ _ _ _=>wO fun _ _=>rfl
 have F3:=bF (st:=m8) l3 c3 k3
 have b3:=F3.binds (ps:=["thing"]) fun _ _ _ _ _ _=>qF fun _=>rfl
 have F4:=bF (st:=m6) l4 c4 k4
 have b4:=F4.binds (ps:=["thing"]) fun _ _ _ _ _ _=>qF fun _=>rfl
 have F5:=bF (st:=fK) l5 c5 k5
 have b5:=F5.binds (ps:=["self", "name", "numbers", "ins", "outs"]) fun _ _ _ _ _ _=>us_5 fun _ _ _ _ _=>rfl
 have F6:=bF (st:=lK) l6 c6 k6
 have b6:=F6.binds (ps:=["self"]) fun _ _ _ _ _ _=>qF fun _=>rfl
 have F7:=bF (st:=lO) l7 c7 k7
 have b7:=F7.binds (ps:=["self"]) fun _ _ _ _ _ _=>qF fun _=>rfl
 have F8:=bF (st:=mj) l8 c8 k8
 have b8:=F8.binds (ps:=["self"]) fun _ _ _ _ _ _=>qF fun _=>rfl
 have F9:=bF (st:=lQ) l9 c9 k9
 have b9:=F9.binds (ps:=["self"]) fun _ _ _ _ _ _=>qF fun _=>rfl
 have F10:=bF (st:=lU) l10 c10 k10
 have b10:=F10.binds (ps:=["self"]) fun _ _ _ _ _ _=>qF fun _=>rfl
 have F11:=bF (st:=lG) l11 c11 k11
 have b11:=F11.binds (ps:=["self"]) fun _ _ _ _ _ _=>qF fun _=>rfl
 have F12:=bF (st:=mO) l12 c12 k12
 have b12:=F12.binds (ps:=["self"]) fun _ _ _ _ _ _=>qF fun _=>rfl
 have F13:=bF (st:=lX) l13 c13 k13
 have b13:=F13.binds (ps:=["self"]) fun _ _ _ _ _ _=>qF fun _=>rfl
 have F14:=bF (st:=iW) l14 c14 k14
 have b14:=F14.binds (ps:=["self"]) fun _ _ _ _ _ _=>qF fun _=>rfl
 have F15:=bF (st:=gQ) l15 c15 k15
 have b15:=F15.binds (ps:=["self"]) fun _ _ _ _ _ _=>qF fun _=>rfl
 have F16:=bF (st:=iK) l16 c16 k16
 have b16:=F16.binds (ps:=["self"]) fun _ _ _ _ _ _=>qF fun _=>rfl
 have F17:=bF (st:=pA) l17 c17 k17
 have b17:=F17.binds (ps:=["word"]) fun _ _ _ _ _ _=>qF fun _=>rfl
 have F18:=bF (st:=lC) l18 c18 k18
 have b18:=F18.binds (ps:=["kind", "name", "numbers", "ins", "outs"]) fun _ _ _ _ _ _=>us_5 fun _ _ _ _ _=>rfl
 have F19:=bF (st:=pF) l19 c19 k19
 have b19:=F19.binds (ps:=["kind", "name", "numbers", "ins", "outs"]) fun _ _ _ _ _ _=>us_5 fun _ _ _ _ _=>rfl
 have F20:=bF (st:=lJ) l20 c20 k20
 have b20:=F20.binds (ps:=["kind", "name", "numbers", "ins", "outs"]) fun _ _ _ _ _ _=>us_5 fun _ _ _ _ _=>rfl
 have F21:=bF (st:=mU) l21 c21 k21
 have b21:=F21.binds (ps:=["_law_cell_here", "_law_k"]) fun _ _ _ _ _ _=>wO fun _ _=>rfl
 have F22:=bF (st:=lN) l22 c22 k22
 have b22:=F22.binds (ps:=["_law_script", "_law_k"]) fun _ _ _ _ _ _=>wO fun _ _=>rfl
 have F23:=bF (st:=iV) l23 c23 k23
 have b23:=F23.binds (ps:=["_law_cell_here", "_law_k"]) fun _ _ _ _ _ _=>wO fun _ _=>rfl
 have F24:=bF (st:=iB) l24 c24 k24
 have b24:=F24.binds (ps:=["_law_cell_here", "_law_k"]) fun _ _ _ _ _ _=>wO fun _ _=>rfl
 have F25:=bF (st:=iD) l25 c25 k25
 have b25:=F25.binds (ps:=["_law_state", "_law_cell_here", "_law_back"]) fun _ _ _ _ _ _=>zb fun _ _ _=>rfl
 have F26:=bF (st:=lY) l26 c26 k26
 have b26:=F26.binds (ps:=["_law_state", "_law_number"]) fun _ _ _ _ _ _=>wO fun _ _=>rfl
 have F27:=bF (st:=iu) l27 c27 k27
 have b27:=F27.binds (ps:=["_law_state", "_law_cell_here", "_law_kind", "_law_numbers", "_law_ins", "_law_many"]) fun _ _ _ _ _ _=>us_6 fun _ _ _ _ _ _=>rfl
 have F28:=bF (st:=m5) l28 c28 k28
 have b28:=F28.binds (ps:=["_law_state", "_law_cell_here", "_law_one", "_law_odd"]) fun _ _ _ _ _ _=>us_4 fun _ _ _ _=>rfl
 have F29:=bF (st:=lL) l29 c29 k29
 have b29:=F29.binds (ps:=["_law_state", "_law_cell_here", "_law_one"]) fun _ _ _ _ _ _=>zb fun _ _ _=>rfl
 have F30:=bF (st:=lZ) l30 c30 k30
 have b30:=F30.binds (ps:=["_law_state", "_law_cell_here", "_law_odd"]) fun _ _ _ _ _ _=>zb fun _ _ _=>rfl
 have F31:=bF (st:=gP) l31 c31 k31
 have b31:=F31.binds (ps:=["_law_state", "_law_cell_here", "_law_back"]) fun _ _ _ _ _ _=>zb fun _ _ _=>rfl
 have F32:=bF (st:=lq) l32 c32 k32
 have b32:=F32.binds (ps:=["_law_script", "_law_start", "_law_steps", "_law_odd"]) fun _ _ _ _ _ _=>us_4 fun _ _ _ _=>rfl
 have F33:=bF (st:=m9) l33 c33 k33
 have b33:=F33.binds (ps:=["thing"]) fun _ _ _ _ _ _=>qF fun _=>rfl
 have F34:=bF (st:=gW) l34 c34 k34
 have b34:=F34.binds (ps:=["lanes", "parts"]) fun _ _ _ _ _ _=>wO fun _ _=>rfl
 have F35:=bF (st:=iR) l35 c35 k35
 have b35:=F35.binds (ps:=["name", "known"]) fun _ _ _ _ _ _=>wO fun _ _=>rfl
 have F36:=bF (st:=iH) l36 c36 k36
 have b36:=F36.binds (ps:=["name", "room", "first"]) fun _ _ _ _ _ _=>zb fun _ _ _=>rfl
 have F37:=bF (st:=iU) l37 c37 k37
 have b37:=F37.binds (ps:=["row", "known"]) fun _ _ _ _ _ _=>wO fun _ _=>rfl
 have F38:=bF (st:=lF) l38 c38 k38
 have b38:=F38.binds (ps:=["part", "lanes", "rooms", "ends"]) fun _ _ _ _ _ _=>us_4 fun _ _ _ _=>rfl
 have F39:=bF (st:=lH) l39 c39 k39
 have b39:=F39.binds (ps:=["rooms", "givers", "takers"]) fun _ _ _ _ _ _=>zb fun _ _ _=>rfl
 have F40:=bF (st:=gY) l40 c40 k40
 have b40:=F40.binds (ps:=["part", "givers", "takers"]) fun _ _ _ _ _ _=>zb fun _ _ _=>rfl
 have F41:=bF (st:=gZ) l41 c41 k41
 have b41:=F41.binds (ps:=["names", "givers", "takers"]) fun _ _ _ _ _ _=>zb fun _ _ _=>rfl
 have F42:=bF (st:=fB) l42 c42 k42
 have b42:=F42.binds (ps:=["self"]) fun _ _ _ _ _ _=>qF fun _=>rfl
 have F43:=bF (st:=fu) l43 c43 k43
 have b43:=F43.binds (ps:=["self"]) fun _ _ _ _ _ _=>qF fun _=>rfl
 have F44:=bF (st:=dB) l44 c44 k44
 have b44:=F44.binds (ps:=["self", "name"]) fun _ _ _ _ _ _=>wO fun _ _=>rfl
 have F45:=bF (st:=ie) l45 c45 k45
 have b45:=F45.binds (ps:=["self", "name"]) fun _ _ _ _ _ _=>wO fun _ _=>rfl
 have F46:=bF (st:=fV) l46 c46 k46
 have b46:=F46.binds (ps:=["self", "name"]) fun _ _ _ _ _ _=>wO fun _ _=>rfl
 have F47:=bF (st:=rA) l47 c47 k47
 have b47:=F47.binds (ps:=["part"]) fun _ _ _ _ _ _=>qF fun _=>rfl
 have F48:=bF (st:=iG) l48 c48 k48
 have b48:=F48.binds (ps:=["self"]) fun _ _ _ _ _ _=>qF fun _=>rfl
 have F49:=bF (st:=fY) l49 c49 k49
 have b49:=F49.binds (ps:=["self", "lanes", "parts"]) fun _ _ _ _ _ _=>zb fun _ _ _=>rfl
 have F50:=bF (st:=lD) l50 c50 k50
 have b50:=F50.binds (ps:=["part", "lane", "fresh"]) fun _ _ _ _ _ _=>zb fun _ _ _=>rfl
 have F51:=bF (st:=gw) l51 c51 k51
 have b51:=F51.binds (ps:=["net", "lane", "slot", "fresh"]) fun _ _ _ _ _ _=>us_4 fun _ _ _ _=>rfl
 have F52:=bF (st:=dw) l52 c52 k52
 have b52:=F52.binds (ps:=["_law_lanes", "_law_parts"]) fun _ _ _ _ _ _=>wO fun _ _=>rfl
 have F53:=bF (st:=gB) l53 c53 k53
 have b53:=F53.binds (ps:=["_law_one", "_law_other", "_law_many"]) fun _ _ _ _ _ _=>zb fun _ _ _=>rfl
 have F54:=bF (st:=gO) l54 c54 k54
 have b54:=F54.binds (ps:=["_law_cell_here", "_law_k", "_law_names"]) fun _ _ _ _ _ _=>zb fun _ _ _=>rfl
 have F55:=bF (st:=fD) l55 c55 k55
 have b55:=F55.binds (ps:=["_law_word_here"]) fun _ _ _ _ _ _=>qF fun _=>rfl
 have F56:=bF (st:=iw) l56 c56 k56
 have b56:=F56.binds (ps:=["_law_lanes", "_law_parts", "_law_lane_here", "_law_slot", "_law_fresh"]) fun _ _ _ _ _ _=>us_5 fun _ _ _ _ _=>rfl
 have F57:=bF (st:=fX) l57 c57 k57
 have b57:=F57.binds (ps:=["_law_lanes", "_law_parts", "_law_lane_here", "_law_slot", "_law_fresh"]) fun _ _ _ _ _ _=>us_5 fun _ _ _ _ _=>rfl
 have F58:=bF (st:=iM) l58 c58 k58
 have b58:=F58.binds (ps:=["_law_net_one", "_law_lane_here", "_law_slot", "_law_fresh"]) fun _ _ _ _ _ _=>us_4 fun _ _ _ _=>rfl
 have F59:=bF (st:=yJ) l59 c59 k59
 have b59:=F59.binds (ps:=["_law_script"]) fun _ _ _ _ _ _=>qF fun _=>rfl
 have T:Txt w K mg ⟨_,_,_,_,_,_,_,_,_,_,_,_,_,_,_,_,_,_,_,_,_,_,_,_,_,_,_,_,_,_,_,_,_,_,_,_,_,_,_,_,_,_,_,_,_,_,_,_,_,_,_,_,_,_,_,_,_,_,_,_,_,_,_,_,_,_,_,_,_,_,_,_,_,_,_,_,_,_,_,_,_,_,_,_,_,_,_,_,_,_,_,_,_,_,_,_,_,_,_,_,_,_,_,_,_,_,_,_,_,_,_,_,_,_,_,_,_,_,_,_,eO,eG,eY,eQ,eX,eU,gM,eV,dm,cG,dj,bO,oJ,fc,bT,bV,bM,bQ⟩:=⟨F0,b0,
  F1,b1,
  F2,b2,
  F3,b3,mg_of X G a3,
  F4,b4,mg_of X G a4,
  F5,b5,
  F6,b6,
  F7,b7,
  F8,b8,
  F9,b9,
  F10,b10,
  F11,b11,
  F12,b12,
  F13,b13,
  F14,b14,
  F15,b15,
  F16,b16,
  F17,b17,mg_of X G a17,
  F18,b18,mg_of X G a18,
  F19,b19,mg_of X G a19,
  F20,b20,mg_of X G a20,
  F21,b21,mg_of X G a21,
  F22,b22,mg_of X G a22,
  F23,b23,mg_of X G a23,
  F24,b24,mg_of X G a24,
  F25,b25,mg_of X G a25,
  F26,b26,mg_of X G a26,
  F27,b27,mg_of X G a27,
  F28,b28,mg_of X G a28,
  F29,b29,mg_of X G a29,
  F30,b30,mg_of X G a30,
  F31,b31,mg_of X G a31,
  F32,b32,mg_of X G a32,
  F33,b33,mg_of X G a33,
  F34,b34,mg_of X G a34,
  F35,b35,mg_of X G a35,
  F36,b36,mg_of X G a36,
  F37,b37,mg_of X G a37,
  F38,b38,mg_of X G a38,
  F39,b39,mg_of X G a39,
  F40,b40,mg_of X G a40,
  F41,b41,mg_of X G a41,
  F42,b42,
  F43,b43,
  F44,b44,
  F45,b45,
  F46,b46,
  F47,b47,mg_of X G a47,
  F48,b48,
  F49,b49,
  F50,b50,mg_of X G a50,
  F51,b51,mg_of X G a51,
  F52,b52,mg_of X G a52,
  F53,b53,mg_of X G a53,
  F54,b54,mg_of X G a54,
  F55,b55,mg_of X G a55,
  F56,b56,mg_of X G a56,
  F57,b57,mg_of X G a57,
  F58,b58,mg_of X G a58,
  F59,b59,mg_of X G a59,
  ⟨jcz,jdk,jdr,jdy⟩,mg_of X G jcv,
  ⟨jds,jB,i5,jcw⟩,
  ⟨jab,i6,k6⟩,
  jac,
  jH,
  jaz,
  jar,
  ⟨jd3,jc2,jc4,jdz⟩,mg_of X G jdo,
  ⟨jdf,jA,i5,jct⟩,
  ⟨j7,i7,k7⟩,
  j6,
  jM,
  ja2,
  jaj,
  ⟨jdg,jdw,jcu,jc7⟩,mg_of X G jdu,
  ⟨jdq,jy,i5,jd1⟩,
  ⟨jap,i8,k8⟩,
  j4,
  jI,
  jbb,
  j9,
  ⟨jcx,jdc,jd0,jd5⟩,mg_of X G jc5,
  ⟨jdn,ju,i5,jd6⟩,
  ⟨jao,i9,k9⟩,
  jak,
  jK,
  ja9,
  jag,
  ⟨jd4,jdm,jdd,jdj⟩,mg_of X G jdb,
  ⟨jdv,jC,i5,jda⟩,
  ⟨jam,i10,k10⟩,
  jax,
  jF,
  ja1,
  jah,
  ⟨jcs,jc3,jcy,jc0⟩,mg_of X G jc8,
  ⟨jdp,jx,i5,jc9⟩,
  ⟨jaq,i11,k11⟩,
  jay,
  jJ,
  ja3,
  jal,
  ⟨jej,jeb,jef,jd9⟩,mg_of X G jeg,
  ⟨jei,jG,i5,jed⟩,
  ⟨ja5,i12,k12⟩,
  ja6,
  jP,
  jbi,
  jba,
  ⟨jc6,jd2,jdi,jdh⟩,mg_of X G jde,
  ⟨jdx,jw,i5,jdl⟩,
  ⟨jae,i13,k13⟩,
  jaa,
  jD,
  ja4,
  jan,
  ⟨jcf,jcc,jcg,jcr⟩,mg_of X G jcn,
  ⟨jcd,jk,i5,jcq⟩,
  ⟨jV,i14,k14⟩,
  j0,
  jz,
  jad,
  jZ,
  ⟨jb9,jb2,jb4,jb5⟩,mg_of X G jca,
  ⟨jb6,jh,i5,jby⟩,
  ⟨jS,i15,k15⟩,
  jR,
  jt,
  jY,
  jO,
  ⟨jco,jcp,jcl,jci⟩,mg_of X G jck,
  ⟨jce,jl,i5,jcj⟩,
  ⟨j1,i16,k16⟩,
  j2,
  jv,
  jai,
  jW,
  ⟨jee,jec,jem,jel⟩,mg_of X G jea,
  ⟨jeh,jE,i49,jd7⟩,
  ⟨jj,i42,k42⟩,
  ⟨js,i43,k43⟩,
  ⟨ja,i44,k44⟩,
  ⟨jN,i45,k45⟩,
  ⟨jL,i46,k46⟩,
  ⟨ja0,i48,k48⟩,
  jav,
  j3,
  j8,
  jX,
  jU,
  mg_of X G jbz,jb1,
  mg_none_of X G jer,
  mg_none_of X G jd8,
  mg_none_of X G jbc,
  mg_none_of X G jeq,
  mg_none_of X G jau,
  mg_none_of X G jep,
  mg_none_of X G jek,
  mg_none_of X G jen,
  mg_none_of X G jc1,
  mg_none_of X G jeo,
  mg_none_of X G jdt,
  ⟨_,mg_of X G jcm,jch⟩,
  ⟨_,mg_of X G jb3,jbw⟩,
  ⟨_,mg_of X G jT,jQ⟩,
  ⟨_,mg_of X G jcb,jb7⟩,
  ⟨_,mg_of X G jaw,j5⟩,
  ⟨_,mg_of X G jaf,jas⟩,
  ⟨_,mg_of X G ja7,ja8⟩,
  mg_of X G jat,
  mg_of X G jbh,
  mg_of X G jbt,
  mg_of X G jbg,
  mg_of X G jbp,
  ⟨pb1,pb2,pb3⟩,
  jb,
  jq,
  jo,
  jp,
  jr,
  jg,
  je,
  jm,
  jf,
  ji,
  jn,
  jc,
  jd,
  ExcCls.ofIn jbo,
  (ExcCls.ofIn jbo).at,
  XcK.ofIn jbd,
  ⟨ExcIni.ofIn jbv,i0,jbu⟩,
  XfK.ofIn jbx,
  jb8,
  (ExcIni.ofIn jbv).at X,
  ⟨ExcIni.ofIn jbq,i1,jbf⟩,
  XfK.ofIn jbk,
  jbe,
  (ExcIni.ofIn jbq).at X,
  ⟨ExcIni.ofIn jbl,i2,jbs⟩,
  XfK.ofIn jbn,
  jbj,
  (ExcIni.ofIn jbl).at X⟩
 exact⟨_,fun s v=>.of_eq rfl,fun base _ _=>ok_law T⟩
theorem walk {l:PySem.W.OpenLaw} {q:Program} {loose:List Str} {XP:(Str→Option Value)→Heap→Prop} {YP:World→Heap→Prop} {d:DefRec} {K:Params→PySem.W.Frag} (hn:l.most=some 63) (hdf:d.params.defaults=[])
  (hY:∀(w:World) (h:Heap),YP w h→(K w.params).In h)
  (F:∀(w:World) (mg:Str→Option Value) (fa:Addr) (h:Heap),(K w.params).In h→h.Ns mainGlobals mg→mg d.name=some (.ref fa)→
   ∃fd:FuncData,(∀(s:Shared) (u:Value),BindsTo s fd ⟨[u],[]⟩ [("_law_script",u)])∧∀base:Heap,(K w.params).In base→base.Ns mainGlobals mg→FnOk l.prog w (K w.params) mg base CX0 10 fa fd ["_law_script"] (sp_law (K w.params))):
  PySem.W.WalkO q loose XP YP l.row.toRowW d [] (fun f vs=>PySem.call f vs):=
 L2.walk_of (n:=63) (k:=10) (x:= "_law_script") (CX:=fun _=>CX0) (sp:=fun w=>sp_law (K w.params)) hn (by decide) hdf ⟨rfl,by decide,by decide⟩ hY F (fun _ _ a ns hl _ hS=>⟨a,ns,rfl,hS,hl,fun _=>rfl⟩) fun _ _ _ _ _ z=>z
end K74
open PySem PySem.W PyProof.Rows
set_option maxRecDepth 100000 in
set_option maxHeartbeats 0 in
theorem PySem.Challenge.cw_holdlane_k74_slots_put_in_holds : PySem.Challenge.rw_holdlane_k74_slots_put_in.Holds := by
 w_on;o_law
 refine HD.head (by rfl) (by rfl) (by rfl) (by rfl) (by first | assumption | decide +kernel) (by decide +kernel) ⟨rfl,rfl,rfl,rfl,rfl,by decide +kernel⟩ rfl (fun _=>rfl) ?_ ?_
 ·w_witness2
 k_fill
 refine K74.walk (l:=PySem.Challenge.rw_holdlane_k74_slots_put_in) rfl rfl (fun w h Y=>PySem.W.kIn_of Y) ?F
 case F=>
  intro w mg fa h KX G hmg
  refine' K74.all_mk KX G hmg ?jcv ?jcz ?jdk ?jdr ?jdy ?jds ?jcw ?jB ?jab ?jac ?jH ?jaz ?jar ?jdo ?jd3 ?jc2 ?jc4 ?jdz ?jdf ?jct ?jA ?j7 ?j6 ?jM ?ja2 ?jaj ?jdu ?jdg ?jdw ?jcu ?jc7 ?jdq ?jd1 ?jy ?jap ?j4 ?jI ?jbb ?j9 ?jc5 ?jcx ?jdc ?jd0 ?jd5 ?jdn ?jd6 ?ju ?jao ?jak ?jK ?ja9 ?jag ?jdb ?jd4 ?jdm ?jdd ?jdj ?jdv ?jda ?jC ?jam ?jax ?jF ?ja1 ?jah ?jc8 ?jcs ?jc3 ?jcy ?jc0 ?jdp ?jc9 ?jx ?jaq ?jay ?jJ ?ja3 ?jal ?jeg ?jej ?jeb ?jef ?jd9 ?jei ?jed ?jG ?ja5 ?ja6 ?jP ?jbi ?jba ?jde ?jc6 ?jd2 ?jdi ?jdh ?jdx ?jdl ?jw ?jae ?jaa ?jD ?ja4 ?jan ?jcn ?jcf ?jcc ?jcg ?jcr ?jcd ?jcq ?jk ?jV ?j0 ?jz ?jad ?jZ ?jca ?jb9 ?jb2 ?jb4 ?jb5 ?jb6 ?jby ?jh ?jS ?jR ?jt ?jY ?jO ?jck ?jco ?jcp ?jcl ?jci ?jce ?jcj ?jl ?j1 ?j2 ?jv ?jai ?jW ?jea ?jee ?jec ?jem ?jel ?jeh ?jd7 ?jE ?jj ?js ?ja ?jN ?jL ?ja0 ?jav ?j3 ?j8 ?jX ?jU ?jat ?jbh ?jbt ?jbg ?jbp ?jb0 ?jbr ?jbm ?i0 ?l0 ?c0 ?k0 ?i1 ?l1 ?c1 ?k1 ?i2 ?l2 ?c2 ?k2 ?a3 ?l3 ?c3 ?k3 ?a4 ?l4 ?c4 ?k4 ?i5 ?l5 ?c5 ?k5 ?i6 ?l6 ?c6 ?k6 ?i7 ?l7 ?c7 ?k7 ?i8 ?l8 ?c8 ?k8 ?i9 ?l9 ?c9 ?k9 ?i10 ?l10 ?c10 ?k10 ?i11 ?l11 ?c11 ?k11 ?i12 ?l12 ?c12 ?k12 ?i13 ?l13 ?c13 ?k13 ?i14 ?l14 ?c14 ?k14 ?i15 ?l15 ?c15 ?k15 ?i16 ?l16 ?c16 ?k16 ?a17 ?l17 ?c17 ?k17 ?a18 ?l18 ?c18 ?k18 ?a19 ?l19 ?c19 ?k19 ?a20 ?l20 ?c20 ?k20 ?a21 ?l21 ?c21 ?k21 ?a22 ?l22 ?c22 ?k22 ?a23 ?l23 ?c23 ?k23 ?a24 ?l24 ?c24 ?k24 ?a25 ?l25 ?c25 ?k25 ?a26 ?l26 ?c26 ?k26 ?a27 ?l27 ?c27 ?k27 ?a28 ?l28 ?c28 ?k28 ?a29 ?l29 ?c29 ?k29 ?a30 ?l30 ?c30 ?k30 ?a31 ?l31 ?c31 ?k31 ?a32 ?l32 ?c32 ?k32 ?a33 ?l33 ?c33 ?k33 ?a34 ?l34 ?c34 ?k34 ?a35 ?l35 ?c35 ?k35 ?a36 ?l36 ?c36 ?k36 ?a37 ?l37 ?c37 ?k37 ?a38 ?l38 ?c38 ?k38 ?a39 ?l39 ?c39 ?k39 ?a40 ?l40 ?c40 ?k40 ?a41 ?l41 ?c41 ?k41 ?i42 ?l42 ?c42 ?k42 ?i43 ?l43 ?c43 ?k43 ?i44 ?l44 ?c44 ?k44 ?i45 ?l45 ?c45 ?k45 ?i46 ?l46 ?c46 ?k46 ?a47 ?l47 ?c47 ?k47 ?i48 ?l48 ?c48 ?k48 ?i49 ?l49 ?c49 ?k49 ?a50 ?l50 ?c50 ?k50 ?a51 ?l51 ?c51 ?k51 ?a52 ?l52 ?c52 ?k52 ?a53 ?l53 ?c53 ?k53 ?a54 ?l54 ?c54 ?k54 ?a55 ?l55 ?c55 ?k55 ?a56 ?l56 ?c56 ?k56 ?a57 ?l57 ?c57 ?k57 ?a58 ?l58 ?c58 ?k58 ?a59 ?l59 ?c59 ?k59 ?jer ?jd8 ?jbc ?jeq ?jau ?jep ?jek ?jen ?jc1 ?jeo ?jdt ?jcm ?jch ?jb3 ?jbw ?jT ?jQ ?jcb ?jb7 ?jaw ?j5 ?jaf ?jas ?ja7 ?ja8 ?jbz ?jb1 ?pb1 ?pb2 ?pb3 ?jb ?jq ?jo ?jp ?jr ?jg ?je ?jm ?jf ?ji ?jn ?jc ?jd ?jbo ?jbd ?jbv ?jbu ?jbx ?jb8 ?jbq ?jbf ?jbk ?jbe ?jbl ?jbs ?jbn ?jbj
  (case jcv | jcz | jdk | jdr | jdy | jds | jcw | jB | jab | jac | jH | jaz | jar | jdo | jd3 | jc2 | jc4 | jdz | jdf | jct | jA | j7 | j6 | jM | ja2 | jaj | jdu | jdg | jdw | jcu | jc7 | jdq | jd1 | jy | jap | j4 | jI | jbb | j9 | jc5 | jcx | jdc | jd0 | jd5 | jdn | jd6 | ju | jao | jak | jK | ja9 | jag | jdb | jd4 | jdm | jdd | jdj | jdv | jda | jC | jam | jax | jF | ja1 | jah | jc8 | jcs | jc3 | jcy | jc0 | jdp | jc9 | jx | jaq | jay | jJ | ja3 | jal | jeg | jej | jeb | jef | jd9 | jei | jed | jG | ja5 | ja6 | jP | jbi | jba | jde | jc6 | jd2 | jdi | jdh | jdx | jdl | jw | jae | jaa | jD | ja4 | jan | jcn | jcf | jcc | jcg | jcr | jcd | jcq | jk | jV | j0 | jz | jad | jZ | jca | jb9 | jb2 | jb4 | jb5 | jb6 | jby | jh | jS | jR | jt | jY | jO | jck | jco | jcp | jcl | jci | jce | jcj | jl | j1 | j2 | jv | jai | jW | jea | jee | jec | jem | jel | jeh | jd7 | jE | jj | js | ja | jN | jL | ja0 | jav | j3 | j8 | jX | jU | jat | jbh | jbt | jbg | jbp | jb0 | jbr | jbm | i0 | l0 | c0 | k0 | i1 | l1 | c1 | k1 | i2 | l2 | c2 | k2 | a3 | l3 | c3 | k3 | a4 | l4 | c4 | k4 | i5 | l5 | c5 | k5 | i6 | l6 | c6 | k6 | i7 | l7 | c7 | k7 | i8 | l8 | c8 | k8 | i9 | l9 | c9 | k9 | i10 | l10 | c10 | k10 | i11 | l11 | c11 | k11 | i12 | l12 | c12 | k12 | i13 | l13 | c13 | k13 | i14 | l14 | c14 | k14 | i15 | l15 | c15 | k15 | i16 | l16 | c16 | k16 | a17 | l17 | c17 | k17 | a18 | l18 | c18 | k18 | a19 | l19 | c19 | k19 | a20 | l20 | c20 | k20 | a21 | l21 | c21 | k21 | a22 | l22 | c22 | k22 | a23 | l23 | c23 | k23 | a24 | l24 | c24 | k24 | a25 | l25 | c25 | k25 | a26 | l26 | c26 | k26 | a27 | l27 | c27 | k27 | a28 | l28 | c28 | k28 | a29 | l29 | c29 | k29 | a30 | l30 | c30 | k30 | a31 | l31 | c31 | k31 | a32 | l32 | c32 | k32 | a33 | l33 | c33 | k33 | a34 | l34 | c34 | k34 | a35 | l35 | c35 | k35 | a36 | l36 | c36 | k36 | a37 | l37 | c37 | k37 | a38 | l38 | c38 | k38 | a39 | l39 | c39 | k39 | a40 | l40 | c40 | k40 | a41 | l41 | c41 | k41 | i42 | l42 | c42 | k42 | i43 | l43 | c43 | k43 | i44 | l44 | c44 | k44 | i45 | l45 | c45 | k45 | i46 | l46 | c46 | k46 | a47 | l47 | c47 | k47 | i48 | l48 | c48 | k48 | i49 | l49 | c49 | k49 | a50 | l50 | c50 | k50 | a51 | l51 | c51 | k51 | a52 | l52 | c52 | k52 | a53 | l53 | c53 | k53 | a54 | l54 | c54 | k54 | a55 | l55 | c55 | k55 | a56 | l56 | c56 | k56 | a57 | l57 | c57 | k57 | a58 | l58 | c58 | k58 | a59 | l59 | c59 | k59 | jer | jd8 | jbc | jeq | jau | jep | jek | jen | jc1 | jeo | jdt | jcm=>k_is)
  (case jch=>exact⟨_,rfl⟩)
  (case jb3=>k_is)
  (case jbw=>exact⟨_,rfl⟩)
  (case jT=>k_is)
  (case jQ=>exact⟨_,rfl⟩)
  (case jcb=>k_is)
  (case jb7=>exact⟨_,rfl⟩)
  (case jaw=>k_is)
  (case j5=>exact⟨_,rfl⟩)
  (case jaf=>k_is)
  (case jas=>exact⟨_,rfl⟩)
  (case ja7=>k_is)
  (case ja8=>exact⟨_,rfl⟩)
  (case jbz=>k_is)
  (case jb1=>
   refine' L2.KTab.mk' ?lk ?c1 ?c2 ?c3 ?c4 ?sm ?rows ?nd
   (case lk=>k_is)
   (case c1=>exact rfl)
   (case c2=>exact rfl)
   (case c3=>exact rfl)
   (case c4=>exact rfl)
   (case sm=>exact rfl)
   (case nd=>decide +kernel)
   (case rows=>
    refine' L2.KRows.cons ?hh0 ?lk0 ?cc0 ?dd0 ?vv0 ?zz0 ?rest0
    (case hh0=>exact rfl)
    (case lk0=>k_is)
    (case cc0=>exact rfl)
    (case dd0=>exact rfl)
    (case vv0=>exact .cons ⟨_,rfl⟩ (.cons ⟨_,rfl⟩ (.cons ⟨_,rfl⟩ .nil)))
    (case zz0=>decide)
    refine' L2.KRows.cons ?hh1 ?lk1 ?cc1 ?dd1 ?vv1 ?zz1 ?rest1
    (case hh1=>exact rfl)
    (case lk1=>k_is)
    (case cc1=>exact rfl)
    (case dd1=>exact rfl)
    (case vv1=>exact .cons ⟨_,rfl⟩ (.cons ⟨_,rfl⟩ (.cons ⟨_,rfl⟩ .nil)))
    (case zz1=>decide)
    refine' L2.KRows.cons ?hh2 ?lk2 ?cc2 ?dd2 ?vv2 ?zz2 ?rest2
    (case hh2=>exact rfl)
    (case lk2=>k_is)
    (case cc2=>exact rfl)
    (case dd2=>exact rfl)
    (case vv2=>exact .cons ⟨_,rfl⟩ (.cons ⟨_,rfl⟩ (.cons ⟨_,rfl⟩ .nil)))
    (case zz2=>decide)
    refine' L2.KRows.cons ?hh3 ?lk3 ?cc3 ?dd3 ?vv3 ?zz3 ?rest3
    (case hh3=>exact rfl)
    (case lk3=>k_is)
    (case cc3=>exact rfl)
    (case dd3=>exact rfl)
    (case vv3=>exact .cons ⟨_,rfl⟩ (.cons ⟨_,rfl⟩ (.cons ⟨_,rfl⟩ .nil)))
    (case zz3=>decide)
    refine' L2.KRows.cons ?hh4 ?lk4 ?cc4 ?dd4 ?vv4 ?zz4 ?rest4
    (case hh4=>exact rfl)
    (case lk4=>k_is)
    (case cc4=>exact rfl)
    (case dd4=>exact rfl)
    (case vv4=>exact .cons ⟨_,rfl⟩ (.cons ⟨_,rfl⟩ (.cons ⟨_,rfl⟩ .nil)))
    (case zz4=>decide)
    refine' L2.KRows.cons ?hh5 ?lk5 ?cc5 ?dd5 ?vv5 ?zz5 ?rest5
    (case hh5=>exact rfl)
    (case lk5=>k_is)
    (case cc5=>exact rfl)
    (case dd5=>exact rfl)
    (case vv5=>exact .cons ⟨_,rfl⟩ (.cons ⟨_,rfl⟩ (.cons ⟨_,rfl⟩ .nil)))
    (case zz5=>decide)
    refine' L2.KRows.cons ?hh6 ?lk6 ?cc6 ?dd6 ?vv6 ?zz6 ?rest6
    (case hh6=>exact rfl)
    (case lk6=>k_is)
    (case cc6=>exact rfl)
    (case dd6=>exact rfl)
    (case vv6=>exact .cons ⟨_,rfl⟩ (.cons ⟨_,rfl⟩ (.cons ⟨_,rfl⟩ .nil)))
    (case zz6=>decide)
    refine' L2.KRows.cons ?hh7 ?lk7 ?cc7 ?dd7 ?vv7 ?zz7 ?rest7
    (case hh7=>exact rfl)
    (case lk7=>k_is)
    (case cc7=>exact rfl)
    (case dd7=>exact rfl)
    (case vv7=>exact .cons ⟨_,rfl⟩ (.cons ⟨_,rfl⟩ (.cons ⟨_,rfl⟩ .nil)))
    (case zz7=>decide)
    refine' L2.KRows.cons ?hh8 ?lk8 ?cc8 ?dd8 ?vv8 ?zz8 ?rest8
    (case hh8=>exact rfl)
    (case lk8=>k_is)
    (case cc8=>exact rfl)
    (case dd8=>exact rfl)
    (case vv8=>exact .cons ⟨_,rfl⟩ (.cons ⟨_,rfl⟩ (.cons ⟨_,rfl⟩ .nil)))
    (case zz8=>decide)
    refine' L2.KRows.cons ?hh9 ?lk9 ?cc9 ?dd9 ?vv9 ?zz9 ?rest9
    (case hh9=>exact rfl)
    (case lk9=>k_is)
    (case cc9=>exact rfl)
    (case dd9=>exact rfl)
    (case vv9=>exact .cons ⟨_,rfl⟩ (.cons ⟨_,rfl⟩ (.cons ⟨_,rfl⟩ .nil)))
    (case zz9=>decide)
    refine' L2.KRows.cons ?hh10 ?lk10 ?cc10 ?dd10 ?vv10 ?zz10 ?rest10
    (case hh10=>exact rfl)
    (case lk10=>k_is)
    (case cc10=>exact rfl)
    (case dd10=>exact rfl)
    (case vv10=>exact .cons ⟨_,rfl⟩ (.cons ⟨_,rfl⟩ (.cons ⟨_,rfl⟩ .nil)))
    (case zz10=>decide)
    exact .nil))
  (case pb1=>kernel_rfl)
  (case pb2=>kernel_rfl)
  (case pb3=>kernel_rfl)
  (case jb=>kernel_rfl)
  (case jq=>kernel_rfl)
  (case jo=>kernel_rfl)
  (case jp=>kernel_rfl)
  (case jr=>kernel_rfl)
  (case jg=>kernel_rfl)
  (case je=>kernel_rfl)
  (case jm=>kernel_rfl)
  (case jf=>kernel_rfl)
  (case ji=>kernel_rfl)
  (case jn=>kernel_rfl)
  (case jc=>kernel_rfl)
  (case jd=>kernel_rfl)
  (case jbo=>kernel_rfl)
  (case jbd=>kernel_rfl)
  (case jbv=>kernel_rfl)
  (case jbu=>kernel_rfl)
  (case jbx=>kernel_rfl)
  (case jb8=>kernel_rfl)
  (case jbq=>kernel_rfl)
  (case jbf=>kernel_rfl)
  (case jbk=>kernel_rfl)
  (case jbe=>kernel_rfl)
  (case jbl=>kernel_rfl)
  (case jbs=>kernel_rfl)
  (case jbn=>kernel_rfl)
  (case jbj=>kernel_rfl)
