import PyProof.Rows.All
import Wide.All
import OpenK.AllK
import Wide.FinOn
import Lean
import PyProof.EqAt
import PyProof.EqKinds
import PyProof.TupleCall
import PyProof.StrLawsChain
import PyProof.StrLawsOccR
import PyProof.StrLawsReplace
import PyProof.NeKinds
import PyProof.EnumStmt
import PyProof.EnumMake
import PyProof.ListRange
import PyProof.StationsW
import PyProof.ExcClass2
import PyProof.ExcInit
import PyProof.InstStoreFacts
import OpenK.KRaise
import PyProof.NsDelKeeps
import PyProof.RulesAs
import PyProof.Rows.Catch
import OpenK.KOwn
import PyProof.ExcArgsOwn
import PyProof.ExcAttrAll.ValueError
import PyProof.IsiBase
import PyProof.MaxThree
import PyProof.SeqI3
import KE.KIsAll
import KE.IntTextLaws
import PyProof.StrLawsIdx
import PyProof.FitsInt
import PySem.Challenge.RW_holdlane_k73_plans_refused
set_option Elab.async false
set_option linter.all false
set_option maxRecDepth 100000
namespace L2
open PySem PySem.Spec PyProof.Rows
abbrev Key:=Sum Int Str
def keyIs:Key→Value→Bool
 | .inl k,v=>Value.isInt k v
 | .inr x,v=>Value.isStrOf x v
def keyH (w:World):Key→Int
 | .inl k=>hashInt k
 | .inr x=>hashStr w x
theorem eV:∀{k:Key} {v:Value},keyIs k v=true→(∃i t,k=Sum.inl i∧v=Value.int i t)∨(∃x t,k=Sum.inr x∧v=Value.str x t)
 | .inl i,v,h=>by
  obtain⟨t,e⟩:=Value.isInt_shape (k:=i) (v:=v) h
  exact .inl ⟨i,t,rfl,e⟩
 | .inr x,v,h=>by
  obtain⟨t,e⟩:=Value.isStrOf_shape (x:=x) (v:=v) h
  exact .inr ⟨x,t,rfl,e⟩
theorem keyIs_int (i:Int) (t:Tok):keyIs (.inl i) (.int i t)=true:=by simp [keyIs,Value.isInt]
theorem keyIs_str (x:Str) (t:Tok):keyIs (.inr x) (.str x t)=true:=by simp [keyIs,Value.isStrOf]
theorem key_ll (a b:Int):decide ((Sum.inl a:Key)=Sum.inl b)=(a == b):=by
 by_cases e:a=b
 ·subst e;simp
 ·have h:¬(Sum.inl a:Key)=Sum.inl b:=fun q=>e (Sum.inl.inj q)
  rw [decide_eq_false h]
  exact(beq_eq_false_iff_ne.mpr e).symm
theorem key_rr (a b:Str):decide ((Sum.inr a:Key)=Sum.inr b)=decide (a=b):=by
 by_cases e:a=b
 ·subst e;simp
 ·have h:¬(Sum.inr a:Key)=Sum.inr b:=fun q=>e (Sum.inr.inj q)
  rw [decide_eq_false h,decide_eq_false e]
theorem key_lr (a:Int) (b:Str):decide ((Sum.inl a:Key)=Sum.inr b)=false:=decide_eq_false (fun q=>nomatch q)
theorem key_rl (a:Str) (b:Int):decide ((Sum.inr a:Key)=Sum.inl b)=false:=decide_eq_false (fun q=>nomatch q)
def cX (prog:Program) (w:World):PySem.KeyKind prog w Key where
 is:=keyIs
 hash:=keyH w
 inj:=fun v a b ha hb=>by
  rcases eV ha with ⟨i,t,rfl,rfl⟩ | ⟨x,t,rfl,rfl⟩
  ·rcases eV hb with ⟨j,u,rfl,e⟩ | ⟨y,u,rfl,e⟩
   ·injection e with e1 _;rw [e1]
   ·exact nomatch e
  ·rcases eV hb with ⟨j,u,rfl,e⟩ | ⟨y,u,rfl,e⟩
   ·exact nomatch e
   ·injection e with e1 _;rw [e1]
 byValue:=fun k v h=>by
  rcases eV h with ⟨i,t,rfl,rfl⟩ | ⟨x,t,rfl,rfl⟩ <;> rfl
 pyHash:=fun hv h=>by
  rcases eV hv with ⟨i,t,rfl,rfl⟩ | ⟨x,t,rfl,rfl⟩
  ·exact wpAny_pyHash_int h
  ·exact wpAny_pyHash_str h
 eqBool:=fun hu hv h=>by
  rcases eV hu with ⟨i,t,rfl,rfl⟩ | ⟨x,t,rfl,rfl⟩
  ·rcases eV hv with ⟨j,u,rfl,rfl⟩ | ⟨y,u,rfl,rfl⟩
   ·rw [key_ll] at h;exact wpAny_eqBool_int h
   ·rw [key_lr] at h;exact SeqAt.EqAt.int_str i t y u _ _ _ _ h
  ·rcases eV hv with ⟨j,u,rfl,rfl⟩ | ⟨y,u,rfl,rfl⟩
   ·rw [key_rl] at h;exact SeqAt.EqAt.str_int x t j u _ _ _ _ h
   ·rw [key_rr] at h;exact wpAny_eqBool_str h
 «strs» :=fun k x t v h=>by
  rcases eV h with ⟨i,u,rfl,e⟩ | ⟨y,u,rfl,e⟩
  ·exact nomatch e
  ·injection e with e1 _
   subst e1
   cases v <;> rfl
theorem mixKind_int (prog:Program) (w:World) (i:Int) (t:Tok):(cX prog w).is (.inl i) (.int i t)=true:=keyIs_int i t
theorem nY (prog:Program) (w:World) (x:Str) (t:Tok):(cX prog w).is (.inr x) (.str x t)=true:=keyIs_str x t
end L2
namespace L2
open PySem PySem.Spec PyProof.Rows
inductive V where
 | non | bl (b:Bool) | int (i:Int) | str (x:Str) | byt (b:Array UInt8) | flt (b:UInt64) | ref (a:Addr) | ty (n:String)
 deriving DecidableEq
def RelV:V→Value→Prop
 | .non,u=>u=Value.none
 | .bl b,u=>u=Value.bool b
 | .int i,u=>∃t,u=Value.int i t
 | .str x,u=>∃t,u=Value.str x t
 | .byt b,u=>∃t,u=Value.bytes b t
 | .flt b,u=>∃t,u=Value.float b t
 | .ref a,u=>u=Value.ref a
 | .ty n,u=>u=Value.type n
abbrev Vals:List V→List Value→Prop:=Paired RelV
theorem Vals.length {xs:List V} {us:List Value} (r:Vals xs us):xs.length=us.length:=Paired.length r
theorem Vals.get:∀{xs:List V} {us:List Value} {i:Nat} {x:V},Vals xs us→xs[i]?=some x→∃u,us[i]?=some u∧RelV x u
 | _,_,_,_,.nil,e=>by simp at e
 | _,_,0,_,.cons r _,e=>by simp at e;subst e;exact⟨_,rfl,r⟩
 | _,_,i+1,x,.cons _ t,e=>by
  obtain⟨u,h1,h2⟩:=Vals.get (i:=i) (x:=x) t (by simpa using e)
  exact⟨u,by simpa using h1,h2⟩
theorem Vals.append:∀{xs ys:List V} {us ws:List Value},Vals xs us→Vals ys ws→Vals (xs ++ ys) (us ++ ws)
 | _,_,_,_,.nil,s=>s
 | _,_,_,_,.cons r t,s=>.cons r (Vals.append t s)
theorem Vals.take:∀{xs:List V} {us:List Value} (n:Nat),Vals xs us→Vals (xs.take n) (us.take n)
 | _,_,0,_=>.nil
 | _,_,_+1,.nil=>.nil
 | _,_,n+1,.cons r t=>.cons r (Vals.take n t)
theorem Vals.drop:∀{xs:List V} {us:List Value} (n:Nat),Vals xs us→Vals (xs.drop n) (us.drop n)
 | _,_,0,r=>r
 | _,_,_+1,.nil=>.nil
 | _,_,n+1,.cons _ t=>Vals.drop n t
def qX:Option V→Option Value→Prop
 | some v,some u=>RelV v u
 | none,none=>True
 | _,_=>False
def KV {κ:Type}:List (κ×V)→List (κ×Value)→Prop:=Paired fun(p:κ×V) (q:κ×Value)=>p.1=q.1∧RelV p.2 q.2
def kV:Key→V
 | .inl i=>.int i
 | .inr x=>.str x
inductive HO where
  | lst (xs:List V)
  | tup (xs:List V)
  | dK (kvs:List (Key×V)) | dT (kvs:List (List Key×V))
  | set (S:Int→Bool) (n:Nat)
  | ins (C dx:Addr) (fs:List (Str×V))
  | own (x:Addr)
  | xd (fs:List (Str×V))
  | met (f x:Addr)
  | rng (lo hi:Int)
  | frz (o:Obj) (u:HO)
  | tbl (ps:Array Value)
  | ext (φ:Heap→Prop)
abbrev Hp:=Addr→Option HO
def upd (H:Hp) (a:Addr) (o:HO):Hp:=fun b=>if b=a then some o else H b
theorem au {H:Hp} {a:Addr} {o:HO}:upd H a o a=some o:=by unfold upd;rw [if_pos rfl]
theorem aH {H:Hp} {a b:Addr} {o:HO} (h:b≠a):upd H a o b=H b:=by unfold upd;rw [if_neg h]
theorem qG {H:Hp} {a:Addr} {o u:HO}:upd (upd H a o) a u=upd H a u:=by
 funext b;unfold upd;split <;> rfl
theorem uA {H:Hp} {a b:Addr} {o u:HO} (h:H a=some o) (h':H b=some u) (d:o≠u):a≠b:=by
 intro e;subst e;rw [h] at h';exact d (Option.some.inj h')
theorem aF {H:Hp} {a b:Addr} {o:HO} (h:H a=some o) (h':H b=none):a≠b:=by
 intro e;subst e;rw [h] at h';cases h'
section
variable (P:Program) (w:World)
def dC (H:Hp) (h:Heap) (a:Addr):HO→Prop
 | .lst xs=>xs.length≤sizeLine∧∃(its:List Value) (n:Nat),Vals xs its∧h.get? a=some { cls:=.type "list",data:=.seq its.toArray n }
 | .tup xs=>xs.length≤sizeLine∧∃its:List Value,Vals xs its∧IsTup h a its.toArray
 | .dK kvs=>kvs.length≤sizeLine∧(a == sysModules)=false∧∃vs,KV kvs vs∧h.DictOf (cX P w) a vs
 | .dT kvs=>kvs.length≤sizeLine∧(a == sysModules)=false∧∃xs:List (List Key×Addr×Value),
   Paired (fun(p:List Key×V) (q:List Key×Addr×Value)=>p.1=q.1∧H q.2.1=some (.tup (p.1.map kV))∧RelV p.2 q.2.2) kvs xs∧
   ∃o es ep,h.get? a=some o∧o.ExactDict∧o.data=.dict es ep∧es.toList=xs.map (entryOfKey (tupleKind (cX P w)))∧(xs.map (·.1)).Nodup
 | .set S n=>h.SetOf (intKind P w) a S n
 | .ins C dx fs=>H dx=some (.own a)∧fs.length≤1000∧dx≠a∧h.get? a=some (PySem.W.instObj C dx)∧
   ∃mA,h.Ns1 dx mA∧(∀f,qX (fs.lookup f) (mA f))∧PySem.Within mA (fs.map (·.1))
 | .own _=>∃o,h.get? a=some o
 | .xd fs=>∃mA,h.Ns1 a mA∧∀f,qX (fs.lookup f) (mA f)
 | .rng lo hi=>∃t u v,h.get? a=some { cls:=.type "range",data:=.fields #[.int lo t,.int hi u,.int 1 v] }
 | .frz o u=>h.get? a=some o∧dC H h a u
 | .tbl ps=>h.get? a=some { cls:=.none,data:=.fields ps }
 | .met f x=>h.get? a=some (PySem.W.methodObj (.ref f) (.ref x))
 | .ext φ=>φ h∧(∃o,h.get? a=some o)∧∀h1 h2:Heap,φ h1→(∀o,h1.get? a=some o→h2.get? a=some o)→φ h2
def HOk (H:Hp) (h:Heap):Prop:=∀a o,H a=some o→dC P w H h a o
end
section
variable {P:Program} {w:World} {H H':Hp} {h h':Heap} {a:Addr} {o:HO}
theorem dC.lt (x:dC P w H h a o):a <h.objs.size:=by
 cases o with
 | lst xs=>obtain⟨_,_,_,_,e⟩:=x;exact Heap.lt_size e
 | tup xs=>obtain⟨_,_,_,p⟩:=x;exact p.lt
 | dK kvs=>obtain⟨_,_,_,_,o,_,_,e,_⟩:=x;exact Heap.lt_size e
 | dT kvs=>obtain⟨_,_,_,_,o,_,_,e,_⟩:=x;exact Heap.lt_size e
 | set S n=>obtain⟨o,_,_,_,e,_⟩:=x;exact Heap.lt_size e
 | ins C dx fs=>obtain⟨_,_,_,e,_⟩:=x;exact Heap.lt_size e
 | own y=>obtain⟨_,e⟩:=x;exact Heap.lt_size e
 | xd fs=>obtain⟨_,⟨_,_,_,e,_⟩,_⟩:=x;exact Heap.lt_size e
 | rng lo hi=>obtain⟨_,_,_,e⟩:=x;exact Heap.lt_size e
 | frz ob u=>obtain⟨e,_⟩:=x;exact Heap.lt_size e
 | tbl ps=>exact Heap.lt_size (show h.get? a=some _ from x)
 | met f y=>exact Heap.lt_size (show h.get? a=some _ from x)
 | ext φ=>obtain⟨_,⟨_,e⟩,_⟩:=x;exact Heap.lt_size e
theorem Paired.mapP {α β:Type} {F G:α→β→Prop}:∀{l₁:List α} {l₂:List β},Paired F l₁ l₂→(∀a b,F a b→G a b)→Paired G l₁ l₂
 | _,_,.nil,_=>.nil
 | _,_,.cons r t,f=>.cons (f _ _ r) (Paired.mapP t f)
theorem dC.stay (x:dC P w H h a o) (k:∀b u,(b=a∨H b=some (.own a))→h.get? b=some u→h'.get? b=some u)
  (ho:∀b,H b=some (.own a)→H' b=some (.own a)) (ht:∀b xs,H b=some (.tup xs)→H' b=some (.tup xs)):dC P w H' h' a o:=by
 induction o with
 | lst xs=>obtain⟨z,its,n,r,e⟩:=x;exact⟨z,its,n,r,k _ _ (.inl rfl) e⟩
 | tup xs=>obtain⟨z,its,r,ob,e,c⟩:=x;exact⟨z,its,r,ob,k _ _ (.inl rfl) e,c⟩
 | dK kvs=>obtain⟨z,y,vs,r,ob,es,ep,e,c⟩:=x;exact⟨z,y,vs,r,ob,es,ep,k _ _ (.inl rfl) e,c⟩
 | dT kvs=>
  obtain⟨z,y,xs,r,ob,es,ep,e,c⟩:=x
  exact⟨z,y,xs,Paired.mapP r fun p q z=>⟨z.1,ht _ _ z.2.1,z.2.2⟩,ob,es,ep,k _ _ (.inl rfl) e,c⟩
 | set S n=>obtain⟨ob,es,ep,t,e,c⟩:=x;exact⟨ob,es,ep,t,k _ _ (.inl rfl) e,c⟩
 | ins C dx fs=>
  obtain⟨d,z,ne,e,mA,⟨od,es,ep,e2,c⟩,r⟩:=x
  exact⟨ho _ d,z,ne,k _ _ (.inl rfl) e,mA,⟨od,es,ep,k _ _ (.inr d) e2,c⟩,r⟩
 | own y=>obtain⟨ob,e⟩:=x;exact⟨ob,k _ _ (.inl rfl) e⟩
 | xd fs=>obtain⟨mA,⟨od,es,ep,e,c⟩,r⟩:=x;exact⟨mA,⟨od,es,ep,k _ _ (.inl rfl) e,c⟩,r⟩
 | rng lo hi=>obtain⟨t,u,v,e⟩:=x;exact⟨t,u,v,k _ _ (.inl rfl) e⟩
 | frz ob u ih=>obtain⟨e,q⟩:=x;exact⟨k _ _ (.inl rfl) e,ih q⟩
 | tbl ps=>
  have e:h.get? a=some { cls:=.none,data:=.fields ps }:=x
  show h'.get? a=some { cls:=.none,data:=.fields ps }
  exact k a _ (.inl rfl) e
 | met f y=>
  have e:h.get? a=some (PySem.W.methodObj (.ref f) (.ref y)):=x
  show h'.get? a=some (PySem.W.methodObj (.ref f) (.ref y))
  exact k a _ (.inl rfl) e
 | ext φ=>obtain⟨p,⟨o,e⟩,st⟩:=x;exact⟨st _ _ p fun o q=>k _ _ (.inl rfl) q,⟨o,k _ _ (.inl rfl) e⟩,st⟩
theorem HOk.lt (x:HOk P w H h) (e:H a=some o):a <h.objs.size:=(x a o e).lt
theorem HOk.fresh (x:HOk P w H h) (e:h.objs.size≤a):H a=none:=by
 cases q:H a with
 | none=>rfl
 | some u=>exact absurd (Nat.lt_of_lt_of_le (x.lt q) e) (Nat.lt_irrefl _)
theorem HOk.kept (x:HOk P w H h) (k:∀b u,h.get? b=some u→h'.get? b=some u):HOk P w H h':=fun a o e=>
 (x a o e).stay (fun b u _ q=>k b u q) (fun _ q=>q) fun _ _ q=>q
theorem HOk.laid (x:HOk P w H h) (k:∀b u,h.get? b=some u→h'.get? b=some u) (hp:h.objs.size≤a) (new:dC P w (upd H a o) h' a o):HOk P w (upd H a o) h':=fun b u e=>by
 have hn:=x.fresh hp
 by_cases hb:b=a
 ·subst hb;rw [au] at e;cases e;exact new
 ·rw [aH hb] at e
  exact(x b u e).stay (fun c v _ q=>k c v q) (fun c q=>by rw [aH (aF q hn)];exact q) fun c xs q=>by rw [aH (aF q hn)];exact q
end
def Rd (H:Hp) (a:Addr) (u:HO):Prop:=H a=some u∨∃o,H a=some (.frz o u)
theorem Rd.ok {P:Program} {w:World} {H:Hp} {h:Heap} {a:Addr} {u:HO} (r:Rd H a u) (x:HOk P w H h):dC P w H h a u:=by
 rcases r with r | ⟨o,r⟩
 ·exact x a u r
 ·obtain⟨_,q⟩:=x a _ r
  exact q
def Mut:Option HO→Prop
 | some (.lst _)=>True
 | some (.dK _)=>True
 | some (.dT _)=>True
 | some (.set _ _)=>True
 | some (.ins _ _ _)=>True
 | some (.ext _)=>True
 | _=>False
section
variable {P:Program} {w:World} {H:Hp} {h h':Heap} {x e:Addr} {o':HO}
theorem HOk.write (ok:HOk P w H h) (mu:Mut (H x)) (he:e=x∨H e=some (.own x)) (k:∀b u,b≠e→h.get? b=some u→h'.get? b=some u) (heo:∃u,h'.get? e=some u)
  (new:dC P w (upd H x o') h' x o'):HOk P w (upd H x o') h':=fun b u q=>by
 have nown:∀c y,H c=some (.own y)→c≠x:=fun c y r z=>by subst z;rw [r] at mu;exact mu
 have ntup:∀c xs,H c=some (.tup xs)→c≠x:=fun c xs r z=>by subst z;rw [r] at mu;exact mu
 by_cases hb:b=x
 ·subst hb;rw [au] at q;cases q;exact new
 ·rw [aH hb] at q
  by_cases hbe:b=e
  ·have q':H b=some (.own x):=by
    rcases he with z | z
    ·exact absurd (hbe.trans z) hb
    ·rw [hbe];exact z
   rw [q] at q';cases q'
   obtain⟨v,hv⟩:=heo
   exact⟨v,by rw [hbe];exact hv⟩
  ·refine(ok b u q).stay (fun c v hc r=>k c v ?_ r) (fun c r=>by rw [aH (nown c b r)];exact r) fun c xs r=>by rw [aH (ntup c xs r)];exact r
   rcases hc with rfl | hc
   ·exact hbe
   ·rintro rfl
    rcases he with z | z
    ·exact nown c b hc z
    ·rw [hc] at z;cases z;exact hb rfl
end
structure Un (fs ex:List Addr) (H H':Hp) (h h':Heap):Prop where
 keep:∀b o,h.get? b=some o→H b=none→b∉fs→b∉ex→h'.get? b=some o
 slot:∀b o,h.get? b=some o→H b=none→b∈fs→b∉ex→∃sl,h'.get? b=some { o with slots:=sl }
 free:∀b o,h.get? b=some o→H b=none→b∉ex→H' b=none
 there:∀b o,h.get? b=some o→b∉ex→∃o',h'.get? b=some o'
 tups:∀b xs,H b=some (.tup xs)→H' b=some (.tup xs)
 frzs:∀b o u,H b=some (.frz o u)→H' b=some (.frz o u)
 tbls:∀b ps,H b=some (.tbl ps)→∃more,H' b=some (.tbl (ps ++ more))
section
variable {fs fs' ex ex':List Addr} {H H1 H2:Hp} {h h1 h2 h':Heap} {a x e:Addr} {o:HO}
theorem Un.any (u:Un fs ex H H1 h h1) {b:Addr} {ob:Obj} (q:h.get? b=some ob) (n:H b=none) (hx:b∉ex):∃sl,h1.get? b=some { ob with slots:=sl }:=by
 by_cases hb:b∈fs
 ·exact u.slot b ob q n hb hx
 ·exact⟨ob.slots,u.keep b ob q n hb hx⟩
theorem Un.kept (k:∀b u,h.get? b=some u→h'.get? b=some u):Un fs ex H H h h':=
 ⟨fun b ob q _ _ _=>k b ob q,fun b ob q _ _ _=>⟨ob.slots,k b ob q⟩,fun _ _ _ n _=>n,fun b ob q _=>⟨ob,k b ob q⟩,fun _ _ q=>q,fun _ _ _ q=>q,fun _ ps q=>⟨#[],by rw [q];simp⟩⟩
theorem Un.refl:Un fs ex H H h h:=Un.kept fun _ _ q=>q
theorem Un.laid (k:∀b u,h.get? b=some u→h'.get? b=some u) (hp:h.objs.size≤a) (hn:H a=none):Un fs ex H (upd H a o) h h' where
 keep:=fun b u q _ _ _=>k b u q
 slot:=fun b u q _ _ _=>⟨u.slots,k b u q⟩
 free:=fun b u q n _=>by rw [aH (Nat.ne_of_lt (Nat.lt_of_lt_of_le (Heap.lt_size q) hp))];exact n
 there:=fun b u q _=>⟨u,k b u q⟩
 tups:=fun b xs q=>by rw [aH (aF q hn)];exact q
 frzs:=fun b u xs q=>by rw [aH (aF q hn)];exact q
 tbls:=fun b ps q=>⟨#[],by rw [aH (aF q hn),q];simp⟩
theorem Un.write (mu:Mut (H x)) (he:e=x∨H e=some (.own x)) (k:∀b u,b≠e→h.get? b=some u→h'.get? b=some u) (heo:∃u,h'.get? e=some u):Un fs ex H (upd H x o) h h':=by
 have hx:∀b,H b=none→b≠x:=fun b n z=>by subst z;rw [n] at mu;exact mu
 have hb:∀b,H b=none→b≠e:=fun b n z=>by
  subst z
  rcases he with r | r
  ·exact hx b n r
  ·rw [n] at r;cases r
 have hm:∀b u,H b=some u→¬Mut (some u)→b≠x:=fun b u q nm z=>by subst z;rw [q] at mu;exact nm mu
 refine⟨fun b u q n _ _=>k b u (hb b n) q,fun b u q n _ _=>⟨u.slots,k b u (hb b n) q⟩,fun b u q n _=>by rw [aH (hx b n)];exact n,fun b u q _=>?_,
  fun b xs q=>by rw [aH (hm b _ q fun z=>z)];exact q,fun b u xs q=>by rw [aH (hm b _ q fun z=>z)];exact q,fun b ps q=>⟨#[],by rw [aH (hm b _ q fun z=>z),q];simp⟩⟩
 by_cases hbe:b=e
 ·subst hbe;exact heo
 ·exact⟨u,k b u hbe q⟩
end
def trk (h:Heap) (H:Hp):List Addr:=(List.range h.objs.size).filter fun a=>(H a).isSome
def hidT (h:Heap) (H:Hp):Heap:=PySem.W.hideAll h (trk h H)
theorem hidT_size (h:Heap) (H:Hp):(hidT h H).objs.size=h.objs.size:=PySem.W.hideAll_size _ _
theorem hidT_get {h:Heap} {H:Hp} {b:Addr} {o:Obj} (e:h.get? b=some o) (n:H b=none):(hidT h H).get? b=some o:=
 PySem.W.hideAll_get _ e fun hm=>by
  have q:(H b).isSome=true:=(List.mem_filter.mp hm).2
  rw [n] at q;simp at q
theorem of_hidT {h:Heap} {H:Hp} {b:Addr} {o:Obj} (e:(hidT h H).get? b=some o):h.get? b=some o∧H b=none:=by
 have e':h.get? b=some o:=PySem.W.of_hideAll (trk h H) e
 refine⟨e',?_⟩
 cases q:H b with
 | none=>rfl
 | some x=>
  have hm:b∈trk h H:=List.mem_filter.mpr ⟨List.mem_range.mpr (Heap.lt_size e'),by simp [q]⟩
  have z:(hidT h H).get? b=none:=PySem.W.hideAll_none (trk h H) hm
  rw [z] at e;cases e
end L2
namespace L2
open PySem PySem.Spec PyProof.Rows
structure Mod (K:PySem.W.Frag) (mg:Str→Option Value) (base:Heap):Prop where
 kin:K.In base
 glob:base.Ns mainGlobals mg
 blt:∃mb,base.Ns builtinsNs mb∧∀x:Str,x≠ "__name__" →mb x=bootBuiltins x
 nolimit:base.NoLimit
structure Cx where
 prog:Program
 w:World
 K:PySem.W.Frag
 mg:Str→Option Value
 base:Heap
 A:Around
 N:List Str
 s₀:Shared
 H₀:Hp
 env:Env
 outer:List Env
 stack:List Env
 ex:List Addr
 fn:Str→Bool
 calm:Bool
 pn:List (Addr×Obj)
 xe:Value→Shared→Prop
def frs (l:List Env):List Addr:=l.filterMap (·.frame)
abbrev Cx.fs (X:Cx):List Addr:=frs X.outer
def Vis (sc:Scope) (x:Str):Prop:=sc.names.lookup x=some .local∨sc.names.lookup x=some .cell∨sc.names.lookup x=some .free
def Loc (sc:Scope) (x:Str):Prop:=sc.names.lookup x=some .local∨sc.names.lookup x=some .cell
def Look (env:Env) (h:Heap) (m:Str→Option Value) (x:Str) (u:Value):Prop:=
 (env.kindOf x=some .local∧m x=some u)∨((env.kindOf x=some .cell∨env.kindOf x=some .free)∧∃c,env.cells.lookup x=some c∧h.IsCell c (some u))
structure Cx.Ok (X:Cx):Prop where
 mod:Mod X.K X.mg X.base
 kind:X.env.scope.kind=.function
 glob:X.env.globals=mainGlobals
 blt:X.env.builtins=builtinsNs
 above:X.s₀.heap.objs.size≤X.env.locals
 inj:∀x y c,X.env.cells.lookup x=some c→X.env.cells.lookup y=some c→x=y
 has:∀x,(X.env.kindOf x=some .cell∨X.env.kindOf x=some .free)→∃c,X.env.cells.lookup x=some c
 cab:∀x c,X.fn x=true→X.env.cells.lookup x=some c→X.s₀.heap.objs.size≤c
 hd:X.calm=true→X.A.handled=none
 frames:X.A.frames=some X.stack
 stk:X.stack=X.outer∨(X.stack=X.env:: X.outer∧X.env.frame=some X.env.locals)
 exf:∀b∈X.ex,b≠X.env.locals∧∀x c,X.env.cells.lookup x=some c→c≠b
 bs:∀b o,X.base.get? b=some o→X.s₀.heap.get? b=some o∧X.H₀ b=none
 bsz:X.base.objs.size≤X.s₀.heap.objs.size
 noex:∀b o,X.base.get? b=some o→b∉X.ex
 exfs:∀b∈X.ex,b∉X.fs
 funs:X.s₀.heap.FunFrames X.base X.outer
 frf:∀b∈X.fs,X.H₀ b=none
structure Inv (X:Cx) (pins:List (Addr×Obj)) (σ:List (Option V)) (H:Hp) (s:Shared):Prop where
 ok:X.Ok
 os:s.os=X.s₀.os
 bare:AllBare s.gens
 base:Un X.fs X.ex X.H₀ H X.s₀.heap s.heap
 loc:∃m,s.heap.Ns X.env.locals m∧∀(i:Nat) (x:Str) (v:V),X.N[i]?=some x→σ[i]?=some (some v)→Vis X.env.scope x→∃u,RelV v u∧Look X.env s.heap m x u
 cell:∀x c,X.env.cells.lookup x=some c→∃v,s.heap.IsCell c v
 free:H X.env.locals=none
 freeC:∀x c,X.env.cells.lookup x=some c→H c=none
 pin:∀p∈X.pn ++ pins,s.heap.get? p.1=some p.2∧H p.1=none∧p.1≠X.env.locals∧p.1∉X.fs∧∀v,p.2.data≠.cell v
 hok:HOk X.prog X.w H s.heap
 len:σ.length=X.N.length
section
variable {X:Cx} {pins:List (Addr×Obj)} {σ:List (Option V)} {H H':Hp} {s:Shared} {h':Heap}
theorem Cx.Ok.nofr (ok:X.Ok) {b:Addr} {o:Obj} (e:X.base.get? b=some o):b∉X.fs:=fun hb=>by
 have:=(ok.funs.mem hb).1
 rw [e] at this;cases this
theorem Inv.bs (I:Inv X pins σ H s):∀b o,X.base.get? b=some o→s.heap.get? b=some o∧H b=none:=fun b o e=>
 ⟨I.base.keep b o (I.ok.bs b o e).1 (I.ok.bs b o e).2 (I.ok.nofr e) (I.ok.noex b o e),I.base.free b o (I.ok.bs b o e).1 (I.ok.bs b o e).2 (I.ok.noex b o e)⟩
theorem Inv.bk (I:Inv X pins σ H s):∀b o,X.base.get? b=some o→s.heap.get? b=some o:=fun b o e=>(I.bs b o e).1
theorem Inv.mod (I:Inv X pins σ H s):Mod X.K X.mg X.base:=I.ok.mod
theorem Inv.kIn (I:Inv X pins σ H s):X.K.In s.heap:=I.ok.mod.kin.keeps I.bk
theorem Inv.lt (I:Inv X pins σ H s):X.env.locals <s.heap.objs.size:=let ⟨_,hn,_⟩:=I.loc;hn.lt
theorem Inv.sz (I:Inv X pins σ H s):X.s₀.heap.objs.size≤s.heap.objs.size:=Nat.le_trans I.ok.above (Nat.le_of_lt I.lt)
theorem Inv.nofs (I:Inv X pins σ H s) {a:Addr} (h:s.heap.objs.size≤a):a∉X.fs:=fun hb=>by
 obtain⟨_,o,ho,_⟩:=I.ok.funs.mem hb
 exact absurd (Nat.lt_of_lt_of_le (Heap.lt_size ho) (Nat.le_trans I.sz h)) (Nat.lt_irrefl _)
theorem Inv.cne (I:Inv X pins σ H s):∀x c,X.env.cells.lookup x=some c→c≠X.env.locals:=fun x c e z=>by
 obtain⟨v,o,ho,hd⟩:=I.cell x c e
 obtain⟨m,⟨o',es,ep,ho',hd',_⟩,_⟩:=I.loc
 rw [z,ho'] at ho;cases ho;rw [hd'] at hd;cases hd
theorem Inv.funs (I:Inv X pins σ H s):s.heap.FunFrames X.base X.outer:=by
 have all:∀(l:List Env),(∀b∈frs l,b∈X.fs)→X.s₀.heap.FunFrames X.base l→s.heap.FunFrames X.base l:=by
  intro l
  induction l with
  | nil=>intro _ _;trivial
  | cons env r ih=>
   intro hs hl
   obtain⟨hk,⟨L,o,hf,hn,ho,hd⟩,hr⟩:=hl
   have hL:L∈X.fs:=hs L (by unfold frs;rw [List.filterMap_cons,hf];exact List.mem_cons_self)
   obtain⟨sl,e⟩:=I.base.slot L o ho (I.ok.frf L hL) hL fun z=>I.ok.exfs L z hL
   exact⟨hk,⟨L,_,hf,hn,e,hd⟩,ih (fun b hb=>hs b (by unfold frs;rw [List.filterMap_cons,hf];exact List.mem_cons_of_mem _ hb)) hr⟩
 exact all X.outer (fun _ hb=>hb) I.ok.funs
theorem Inv.stack (I:Inv X pins σ H s):s.heap.FunFrames X.base X.stack:=by
 rcases I.ok.stk with e | ⟨e,hf⟩
 ·rw [e];exact I.funs
 ·rw [e]
  obtain⟨m,hn,_⟩:=I.loc
  refine .cons (by rw [I.ok.kind];decide) hf hn ?_ I.funs
  exact Heap.get?_none_of_le (Nat.le_trans I.ok.bsz I.ok.above)
theorem Inv.stkSub (I:Inv X pins σ H s):∀b∈frs X.stack,b∈X.env.locals:: X.fs:=fun b hb=>by
 rcases I.ok.stk with e | ⟨e,hf⟩
 ·rw [e] at hb;exact List.mem_cons_of_mem _ hb
 ·rw [e] at hb
  unfold frs at hb
  rw [List.filterMap_cons,hf] at hb
  exact hb
theorem Inv.stkFree (I:Inv X pins σ H s):∀b∈frs X.stack,H b=none:=fun b hb=>by
 rcases List.mem_cons.mp (I.stkSub b hb) with e | hb
 ·rw [e];exact I.free
 ·obtain⟨_,o,ho,_⟩:=I.ok.funs.mem hb
  exact I.base.free b o ho (I.ok.frf b hb) fun z=>I.ok.exfs b z hb
theorem Inv.step {g':Array GenState} {t':Nat} {d':Drawn} {ch:List Addr} (I:Inv X pins σ H s)
  (hch:∀b∈ch,(b∈X.ex∨X.s₀.heap.objs.size≤b)∧b≠X.env.locals∧(∀x c,X.env.cells.lookup x=some c→c≠b)∧∀p∈X.pn ++ pins,p.1≠b)
  (keep:∀b o,b≠X.env.locals→b∉X.fs→b∉ch→s.heap.get? b=some o→H b=none→h'.get? b=some o)
  (slot:∀b o,b≠X.env.locals→b∈X.fs→b∉ch→s.heap.get? b=some o→H b=none→∃sl,h'.get? b=some { o with slots:=sl }) (free:∀b o,b∉ch→s.heap.get? b=some o→H b=none→H' b=none)
  (there:∀b o,b∉ch→s.heap.get? b=some o→∃o',h'.get? b=some o')
  (tups:∀b xs,H b=some (.tup xs)→H' b=some (.tup xs)) (frzs:∀b o u,H b=some (.frz o u)→H' b=some (.frz o u)) (tbls:∀b ps,H b=some (.tbl ps)→∃more,H' b=some (.tbl (ps ++ more)))
  (ns:∀m,s.heap.Ns X.env.locals m→h'.Ns X.env.locals m) (hok:HOk X.prog X.w H' h') (hg:AllBare g'):
  Inv X pins σ H' { s with heap:=h',gens:=g',drawn:=d',toks:=t' }:=by
 have neL:∀b o,X.s₀.heap.get? b=some o→b≠X.env.locals:=fun b o e=>Nat.ne_of_lt (Nat.lt_of_lt_of_le (Heap.lt_size e) I.ok.above)
 have neC:∀b o,X.s₀.heap.get? b=some o→b∉X.ex→b∉ch:=fun b o e hx hb=>by
  rcases(hch b hb).1 with z | z
  ·exact hx z
  ·exact absurd (Nat.lt_of_lt_of_le (Heap.lt_size e) z) (Nat.lt_irrefl _)
 have cellK:∀x c,X.env.cells.lookup x=some c→∀v,s.heap.IsCell c v→h'.IsCell c v:=fun x c e v ⟨o,ho,hd⟩=>by
  have nch:c∉ch:=fun z=>(hch c z).2.2.1 x c e rfl
  by_cases hc:c∈X.fs
  ·obtain⟨sl,q⟩:=slot c o (I.cne x c e) hc nch ho (I.freeC x c e)
   exact⟨_,q,hd⟩
  ·exact⟨o,keep c o (I.cne x c e) hc nch ho (I.freeC x c e),hd⟩
 refine⟨I.ok,I.os,hg,⟨fun b o e n hb hx=>?_,fun b o e n hb hx=>?_,fun b o e n hx=>?_,fun b o e hx=>?_,fun b xs e=>tups b xs (I.base.tups b xs e),fun b o xs e=>frzs b o xs (I.base.frzs b o xs e),fun b ps e=>?_⟩,?_,fun x c e=>?_,?_,fun x c e=>?_,fun p hp=>?_,hok,I.len⟩
 ·exact keep b o (neL b o e) hb (neC b o e hx) (I.base.keep b o e n hb hx) (I.base.free b o e n hx)
 ·obtain⟨sl,e1⟩:=I.base.slot b o e n hb hx
  obtain⟨sl',e2⟩:=slot b _ (neL b o e) hb (neC b o e hx) e1 (I.base.free b o e n hx)
  exact⟨sl',e2⟩
 ·obtain⟨o',e1⟩:=I.base.there b o e hx
  exact free b o' (neC b o e hx) e1 (I.base.free b o e n hx)
 ·obtain⟨o',e1⟩:=I.base.there b o e hx
  exact there b o' (neC b o e hx) e1
 ·obtain⟨m1,e1⟩:=I.base.tbls b ps e
  obtain⟨m2,e2⟩:=tbls b _ e1
  exact⟨m1 ++ m2,by rw [e2,Array.append_assoc]⟩
 ·obtain⟨m,hn,hl⟩:=I.loc
  refine⟨m,ns m hn,fun i x v e1 e2 e3=>?_⟩
  obtain⟨u,r,l⟩:=hl i x v e1 e2 e3
  refine⟨u,r,?_⟩
  rcases l with l | ⟨k,c,e,z⟩
  ·exact .inl l
  ·exact .inr ⟨k,c,e,cellK x c e _ z⟩
 ·obtain⟨v,z⟩:=I.cell x c e
  exact⟨v,cellK x c e v z⟩
 ·obtain⟨m,⟨o,_,_,ho,_⟩,_⟩:=I.loc
  exact free _ o (fun z=>(hch _ z).2.1 rfl) ho I.free
 ·obtain⟨v,o,ho,hd⟩:=I.cell x c e
  exact free c o (fun z=>(hch c z).2.2.1 x c e rfl) ho (I.freeC x c e)
 ·obtain⟨e,n,ne,nf,d⟩:=I.pin p hp
  have nch:p.1∉ch:=fun z=>(hch p.1 z).2.2.2 p hp rfl
  exact⟨keep p.1 p.2 ne nf nch e n,free p.1 p.2 nch e n,ne,nf,d⟩
theorem Inv.un {t':Nat} (I:Inv X pins σ H s) (u:Un X.fs [] H H' s.heap h') (hok:HOk X.prog X.w H' h'):Inv X pins σ H' { s with heap:=h',toks:=t' }:=by
 obtain⟨m,⟨o,es,ep,ho,r⟩,_⟩:=id I.loc
 obtain⟨sl,hL⟩:=u.any ho I.free (by simp)
 exact I.step (g':=s.gens) (d':=s.drawn) (ch:=[]) (fun _ z=>nomatch z) (fun b o _ hb _ e n=>u.keep b o e n hb (by simp)) (fun b o _ hb _ e n=>u.slot b o e n hb (by simp)) (fun b o _ e n=>u.free b o e n (by simp)) (fun b o _ e=>u.there b o e (by simp)) u.tups u.frzs u.tbls (fun m' hm=>by
  obtain⟨o',es',ep',ho',r'⟩:=hm
  rw [ho] at ho';cases ho'
  exact⟨_,es',ep',hL,r'⟩) hok I.bare
theorem Inv.call {g':Array GenState} {t':Nat} {d':Drawn} {ch:List Addr} (I:Inv X pins σ H s) (u:Un (frs X.stack) ch H H' s.heap h') (hok:HOk X.prog X.w H' h') (hg:AllBare g')
  (hch:∀b∈ch,(b∈X.ex∨X.s₀.heap.objs.size≤b)∧b≠X.env.locals∧(∀x c,X.env.cells.lookup x=some c→c≠b)∧∀p∈X.pn ++ pins,p.1≠b):
  Inv X pins σ H' { s with heap:=h',gens:=g',drawn:=d',toks:=t' }:=by
 obtain⟨m,⟨o,es,ep,ho,r⟩,_⟩:=id I.loc
 obtain⟨sl,hL⟩:=u.any ho I.free fun z=>(hch _ z).2.1 rfl
 exact I.step (ch:=ch) hch (fun b o hL hb hc e n=>u.keep b o e n (fun z=>(List.mem_cons.mp (I.stkSub b z)).elim hL hb) hc) (fun b o _ _ hc e n=>u.any e n hc) (fun b o hc e n=>u.free b o e n hc) (fun b o hc e=>u.there b o e hc) u.tups u.frzs u.tbls (fun m' hm=>by
  obtain⟨o',es',ep',ho',r'⟩:=hm
  rw [ho] at ho';cases ho'
  exact⟨_,es',ep',hL,r'⟩) hok hg
theorem Inv.turned {t':Nat} {it:Addr} (I:Inv X pins σ H s) (k:∀b o,b≠it→s.heap.get? b=some o→h'.get? b=some o) (hn:H it=none) (hL:it≠X.env.locals)
  (h1:it∈X.ex∨X.s₀.heap.objs.size≤it) (h2:∀x c,X.env.cells.lookup x=some c→c≠it) (h3:∀p∈X.pn ++ pins,p.1≠it):Inv X pins σ H { s with heap:=h',toks:=t' }:=by
 have nit:∀b u,H b=some u→b≠it:=fun b u e z=>by rw [z,hn] at e;cases e
 refine I.step (g':=s.gens) (d':=s.drawn) (ch:=[it]) (fun b hb=>?_) (fun b o _ _ hc e _=>k b o (fun z=>hc (by simp [z])) e) (fun b o _ _ hc e _=>⟨o.slots,k b o (fun z=>hc (by simp [z])) e⟩) (fun _ _ _ _ n=>n)
  (fun b o hc e=>⟨o,k b o (fun z=>hc (by simp [z])) e⟩) (fun _ _ e=>e) (fun _ _ _ e=>e) (fun b ps e=>⟨#[],by rw [e];simp⟩) (fun m hm=>?_) (fun b u e=>?_) I.bare
 ·have e:b=it:=by simpa using hb
  subst e
  exact⟨h1,hL,h2,h3⟩
 ·obtain⟨o,es,ep,ho,r⟩:=hm
  exact⟨o,es,ep,k _ o (Ne.symm hL) ho,r⟩
 ·refine(I.hok b u e).stay (fun c v hc q=>k c v ?_ q) (fun _ q=>q) fun _ _ q=>q
  rcases hc with z | z
  ·rw [z];exact nit b u e
  ·exact nit c _ z
theorem Inv.tok (I:Inv X pins σ H s) (t:Nat):Inv X pins σ H { s with toks:=t }:=I.un (h':=s.heap) (t':=t) Un.refl I.hok
theorem Inv.kept {t':Nat} (I:Inv X pins σ H s) (k:∀b u,s.heap.get? b=some u→h'.get? b=some u):Inv X pins σ H { s with heap:=h',toks:=t' }:=I.un (Un.kept k) (I.hok.kept k)
theorem Inv.laid {a:Addr} {o:HO} {t':Nat} (I:Inv X pins σ H s) (k:∀b u,s.heap.get? b=some u→h'.get? b=some u) (hp:s.heap.objs.size≤a) (new:dC X.prog X.w (upd H a o) h' a o):
  Inv X pins σ (upd H a o) { s with heap:=h',toks:=t' }:=I.un (Un.laid k hp (I.hok.fresh hp)) (I.hok.laid k hp new)
theorem Inv.write {x e:Addr} {o:HO} {t':Nat} (I:Inv X pins σ H s) (mu:Mut (H x)) (he:e=x∨H e=some (.own x)) (k:∀b u,b≠e→s.heap.get? b=some u→h'.get? b=some u) (heo:∃u,h'.get? e=some u)
  (new:dC X.prog X.w (upd H x o) h' x o):Inv X pins σ (upd H x o) { s with heap:=h',toks:=t' }:=I.un (Un.write mu he k heo) (I.hok.write mu he k heo new)
theorem Inv.weak {σ':List (Option V)} (I:Inv X pins σ H s) (hl:σ'.length=σ.length) (w:∀(i:Nat) v,σ'[i]?=some (some v)→σ[i]?=some (some v)):Inv X pins σ' H s:=
 ⟨I.ok,I.os,I.bare,I.base,let ⟨m,hn,hl'⟩:=I.loc;⟨m,hn,fun i x v e1 e2 e3=>hl' i x v e1 (w i v e2) e3⟩,I.cell,I.free,I.freeC,I.pin,I.hok,hl.trans I.len⟩
theorem Inv.pins_of {pins':List (Addr×Obj)} (I:Inv X pins σ H s) (h:∀p∈pins',s.heap.get? p.1=some p.2∧H p.1=none∧p.1≠X.env.locals∧p.1∉X.fs∧∀v,p.2.data≠.cell v):Inv X pins' σ H s:=
 ⟨I.ok,I.os,I.bare,I.base,I.loc,I.cell,I.free,I.freeC,fun p hp=>(List.mem_append.mp hp).elim (fun z=>I.pin p (List.mem_append_left _ z)) (h p),I.hok,I.len⟩
theorem Al {N:List Str} (hN:N.Nodup) {i j:Nat} {x:Str} (a:N[i]?=some x) (b:N[j]?=some x):i=j:=by
 obtain⟨h1,e1⟩:=List.getElem?_eq_some_iff.mp a
 obtain⟨h2,e2⟩:=List.getElem?_eq_some_iff.mp b
 exact(List.getElem_inj hN).mp (e1.trans e2.symm)
theorem store_ok2 {M:Model} {A:Around} {E:Value→Shared→Prop} {i:Nat} {x:Str} {v:V} {u:Value} {Q:Unit→Shared→Prop} (I:Inv X pins σ H s) (hN:X.N.Nodup) (hi:X.N[i]?=some x) (hx:Loc X.env.scope x) (r:RelV v u)
  (h:∀s',Inv X pins (σ.set i (some v)) H s'→(∃a,Heap.SameBut a s.heap s'.heap∧(a=X.env.locals∨X.env.cells.lookup x=some a))→Q () s') (hf:X.fn x=true∨X.env.scope.names.lookup x=some .local:=by first | exact .inl rfl | exact .inr rfl | assumption):wpAny M A (storeName X.env x u) Q E s:=by
 obtain⟨m,hn,hl⟩:=id I.loc
 have hcls:(X.env.scope.kind == .class || (X.env.scope.kind == .module && X.env.locals != X.env.globals))=false:=by rw [I.ok.kind];rfl
 have hiσ:i <σ.length:=by rw [I.len];exact(List.getElem?_eq_some_iff.mp hi).1
 have cne:=I.cne
 have tracked:∀{a:Addr} {h':Heap},(∃o,s.heap.get? a=some o∧H a=none)→Heap.SameBut a s.heap h'→HOk X.prog X.w H h':=fun {a h'} ha hs b ob e=>by
  obtain⟨_,_,hfree⟩:=ha
  refine(I.hok b ob e).stay (fun c w' hc q=>(hs.2 c ?_).trans q) (fun _ q=>q) fun _ _ q=>q
  rintro rfl
  rcases hc with rfl | hc
  ·rw [hfree] at e;cases e
  ·rw [hfree] at hc;cases hc
 rcases hx with hk | hk
 ·refine wpAny_storeName_local hk hn (fun h' hn' hs=>?_) hcls
  obtain⟨oL,_,_,hoL,_⟩:=id hn
  refine h _ ⟨I.ok,I.os,I.bare,⟨fun b o e n hb hx=>?_,fun b o e n hb hx=>?_,I.base.free,fun b o e hx=>?_,I.base.tups,I.base.frzs,I.base.tbls⟩,⟨_,hn',fun j y v' e1 e2 e3=>?_⟩,fun y c e=>?_,I.free,I.freeC,fun p hp=>?_,tracked ⟨oL,hoL,I.free⟩ hs,by simpa using I.len⟩ ⟨_,hs,.inl rfl⟩
  ·exact(hs.2 b (Nat.ne_of_lt (Nat.lt_of_lt_of_le (Heap.lt_size e) I.ok.above))).trans (I.base.keep b o e n hb hx)
  ·obtain⟨sl,e1⟩:=I.base.slot b o e n hb hx
   exact⟨sl,(hs.2 b (Nat.ne_of_lt (Nat.lt_of_lt_of_le (Heap.lt_size e) I.ok.above))).trans e1⟩
  ·obtain⟨o',e1⟩:=I.base.there b o e hx
   exact⟨o',(hs.2 b (Nat.ne_of_lt (Nat.lt_of_lt_of_le (Heap.lt_size e) I.ok.above))).trans e1⟩
  ·by_cases hj:j=i
   ·subst hj
    rw [hi] at e1;cases e1
    rw [List.getElem?_set_self hiσ] at e2
    cases e2
    exact⟨u,r,.inl ⟨hk,by simp⟩⟩
   ·rw [List.getElem?_set_ne (Ne.symm hj)] at e2
    obtain⟨u',r',q⟩:=hl j y v' e1 e2 e3
    refine⟨u',r',?_⟩
    rcases q with ⟨k,e⟩ | ⟨k,c,e,z⟩
    ·refine .inl ⟨k,?_⟩
     have:y≠x:=fun e=>hj (Al hN e1 (e ▸ hi))
     simp [this,e]
    ·exact .inr ⟨k,c,e,z.sameBut hs (cne y c e)⟩
  ·obtain⟨w',z⟩:=I.cell y c e
   exact⟨w',z.sameBut hs (cne y c e)⟩
  ·obtain⟨e,n,ne,nf,d⟩:=I.pin p hp
   exact⟨(hs.2 p.1 ne).trans e,n,ne,nf,d⟩
 ·have hfn:X.fn x=true:=by
   rcases hf with z | z
   ·exact z
   ·rw [z] at hk;cases hk
  obtain⟨c,hc⟩:=I.ok.has x (.inl hk)
  obtain⟨w',z⟩:=I.cell x c hc
  refine wpAny_storeName_cell I.ok.kind hk hc z (fun h' hc' hs=>?_)
  obtain⟨oc,hoc,hocd⟩:=id z
  refine h { s with heap:=h' } ⟨I.ok,I.os,I.bare,⟨fun b o e n hb hx=>?_,fun b o e n hb hx=>?_,I.base.free,fun b o e hx=>?_,I.base.tups,I.base.frzs,I.base.tbls⟩,⟨m,hn.sameBut hs (Ne.symm (cne x c hc)),fun j y v' e1 e2 e3=>?_⟩,fun y c' e=>?_,I.free,I.freeC,fun p hp=>?_,tracked ⟨oc,hoc,I.freeC x c hc⟩ hs,by simpa using I.len⟩ ⟨c,hs,.inr hc⟩
  ·exact(hs.2 b (Nat.ne_of_lt (Nat.lt_of_lt_of_le (Heap.lt_size e) (I.ok.cab x c hfn hc)))).trans (I.base.keep b o e n hb hx)
  ·obtain⟨sl,e1⟩:=I.base.slot b o e n hb hx
   exact⟨sl,(hs.2 b (Nat.ne_of_lt (Nat.lt_of_lt_of_le (Heap.lt_size e) (I.ok.cab x c hfn hc)))).trans e1⟩
  ·obtain⟨o',e1⟩:=I.base.there b o e hx
   exact⟨o',(hs.2 b (Nat.ne_of_lt (Nat.lt_of_lt_of_le (Heap.lt_size e) (I.ok.cab x c hfn hc)))).trans e1⟩
  ·by_cases hj:j=i
   ·subst hj
    rw [hi] at e1;cases e1
    rw [List.getElem?_set_self hiσ] at e2
    cases e2
    exact⟨u,r,.inr ⟨.inl hk,c,hc,hc'⟩⟩
   ·rw [List.getElem?_set_ne (Ne.symm hj)] at e2
    obtain⟨u',r',q⟩:=hl j y v' e1 e2 e3
    refine⟨u',r',?_⟩
    rcases q with q | ⟨k,c',e,z'⟩
    ·exact .inl q
    ·refine .inr ⟨k,c',e,z'.sameBut hs ?_⟩
     rintro rfl
     exact hj (Al hN e1 (I.ok.inj _ _ _ e hc ▸ hi))
  ·by_cases hcc:c'=c
   ·subst hcc;exact⟨_,hc'⟩
   ·obtain⟨w2,z2⟩:=I.cell y c' e
    exact⟨w2,z2.sameBut hs hcc⟩
  ·obtain⟨e,n,ne,nf,d⟩:=I.pin p hp
   refine⟨(hs.2 p.1 ?_).trans e,n,ne,nf,d⟩
   intro q
   rw [q,hoc] at e
   have q':oc=p.2:=Option.some.inj e
   exact d w' (by rw [←q'];exact hocd)
theorem vd {M:Model} {A:Around} {E:Value→Shared→Prop} {i:Nat} {x:Str} {v:V} {u:Value} {Q:Unit→Shared→Prop} (I:Inv X pins σ H s) (hN:X.N.Nodup) (hi:X.N[i]?=some x) (hx:Loc X.env.scope x) (r:RelV v u)
  (h:∀s',Inv X pins (σ.set i (some v)) H s'→Q () s') (hf:X.fn x=true∨X.env.scope.names.lookup x=some .local:=by first | exact .inl rfl | exact .inr rfl | assumption):wpAny M A (storeName X.env x u) Q E s:=
 store_ok2 I hN hi hx r (fun s' I' _=>h s' I') hf
theorem Inv.call' {s':Shared} {ch:List Addr} (I:Inv X pins σ H s) (ho:s'.os=s.os) (u:Un (frs X.stack) ch H H' s.heap s'.heap) (hok:HOk X.prog X.w H' s'.heap) (hg:AllBare s'.gens)
  (hch:∀b∈ch,(b∈X.ex∨X.s₀.heap.objs.size≤b)∧b≠X.env.locals∧(∀x c,X.env.cells.lookup x=some c→c≠b)∧∀p∈X.pn ++ pins,p.1≠b):Inv X pins σ H' s':=by
 obtain⟨h',g',d',t',o'⟩:=s'
 have e:o'=s.os:=ho
 subst e
 exact I.call (g':=g') (t':=t') (d':=d') u hok hg hch
end
abbrev XK:=Value→Option Addr→Hp→Prop
abbrev St:=List (Option V)
abbrev VK:=V→Hp→Prop
abbrev TE:=St→Hp→VK→Prop
abbrev TT:=St→Hp→(Bool→Hp→Prop)→Prop
abbrev TA:=St→Hp→(List V→Hp→Prop)→Prop
structure Ends where
 nx:St→Hp→Prop
 rt:VK
 bk:St→Hp→Prop:=fun _ _=>False
 ct:St→Hp→Prop:=fun _ _=>False
abbrev TS:=Ends→St→Hp→Prop
def EP (X:Cx) (pins:List (Addr×Obj)) (σ:St) (Q:VK) (u:Value) (s':Shared):Prop:=∃v H',Inv X pins σ H' s'∧RelV v u∧Q v H'
def TP (X:Cx) (pins:List (Addr×Obj)) (σ:St) (Q:Bool→Hp→Prop) (b:Bool) (s':Shared):Prop:=∃H',Inv X pins σ H' s'∧Q b H'
def AP (X:Cx) (pins:List (Addr×Obj)) (σ:St) (Q:List V→Hp→Prop) (us:List Value) (s':Shared):Prop:=∃vs H',Inv X pins σ H' s'∧Vals vs us∧Q vs H'
def SP (X:Cx) (pins:List (Addr×Obj)) (D:Ends) (f:Flow) (s':Shared):Prop:=
 match f with
 | .next=>∃σ' H',Inv X pins σ' H' s'∧D.nx σ' H'
 | .brk=>∃σ' H',Inv X pins σ' H' s'∧D.bk σ' H'
 | .cont=>∃σ' H',Inv X pins σ' H' s'∧D.ct σ' H'
 | .ret u=>∃v σ' H',Inv X pins σ' H' s'∧RelV v u∧D.rt v H'
def PE (X:Cx) (e:Expr) (t:TE):Prop:=
 ∀(pins:List (Addr×Obj)) (s:Shared) (σ:St) (H:Hp) (Q:VK),Inv X pins σ H s→t σ H Q→wpAny (model X.prog X.w) X.A (eval e X.env) (EP X pins σ Q) X.xe s
def PT (X:Cx) (e:Expr) (t:TT):Prop:=
 ∀(pins:List (Addr×Obj)) (s:Shared) (σ:St) (H:Hp) (Q:Bool→Hp→Prop),Inv X pins σ H s→t σ H Q→wpAny (model X.prog X.w) X.A (isTrue e X.env (eval e X.env)) (TP X pins σ Q) X.xe s
def PW (X:Cx) (e:Expr) (t:TT):Prop:=
 ∀(whole:Sem Value) (pins:List (Addr×Obj)) (s:Shared) (σ:St) (H:Hp) (Q:Bool→Hp→Prop),Inv X pins σ H s→t σ H Q→wpAny (model X.prog X.w) X.A (isTrue e X.env whole) (TP X pins σ Q) X.xe s
theorem PW.pt {X:Cx} {e:Expr} {t:TT} (h:PW X e t):PT X e t:=h _
def PA (X:Cx) (es:List Expr) (t:TA):Prop:=
 ∀(pos:Pos) (pins:List (Addr×Obj)) (s:Shared) (σ:St) (H:Hp) (Q:List V→Hp→Prop),Inv X pins σ H s→t σ H Q→wpAny (model X.prog X.w) X.A (spliced (backTo pos (starEach es X.env))) (AP X pins σ Q) X.xe s
def PS (X:Cx) (st:Stmt) (t:TS):Prop:=
 ∀(pins:List (Addr×Obj)) (s:Shared) (σ:St) (H:Hp) (D:Ends),Inv X pins σ H s→t D σ H→wpAny (model X.prog X.w) X.A (exec st X.env) (SP X pins D) X.xe s
def PSs (X:Cx) (st:List Stmt) (t:TS):Prop:=
 ∀(pins:List (Addr×Obj)) (s:Shared) (σ:St) (H:Hp) (D:Ends),Inv X pins σ H s→t D σ H→wpAny (model X.prog X.w) X.A (execs st X.env) (SP X pins D) X.xe s
theorem thn {α:Type} {t:Sem α} {Q Q':α→Shared→Prop} {M:Model} {A:Around} {E:Value→Shared→Prop} {s:Shared} (h:wpAny M A t Q E s) (hQ:∀a s,Q a s→Q' a s):wpAny M A t Q' E s:=wpAny_mono h hQ fun _ _ x=>x
end L2
namespace L2
open PySem PySem.Spec PyProof.Rows
section
variable {X:Cx}
def tVar (i:Nat):TE:=fun σ H Q=>∃v,σ[i]?=some (some v)∧Q v H
def tC (v:V):TE:=fun _ H Q=>Q v H
theorem pe_var {i:Nat} {x:Str} {pos:Pos} (hN:X.N[i]?=some x) (hv:Vis X.env.scope x) (hd:(x == ("__debug__" :Str))=false:=by decide) (hcd:(x == ("__classdict__" :Str))=false:=by decide):PE X (.Name x pos) (tVar i):=by
 intro pins s σ H Q I h
 obtain⟨v,e,h⟩:=h
 obtain⟨m,hn,hl⟩:=I.loc
 obtain⟨u,r,l⟩:=hl i x v hN e hv
 have fin:EP X pins σ Q u s:=⟨v,H,I,r,h⟩
 rcases l with ⟨hk,hm⟩ | ⟨hk,c,hc,hcell⟩
 ·exact wpAny_Name (wpAny_loadName_local I.ok.kind hk hn hm fin) hd
 ·rcases hk with hk | hk
  ·exact wpAny_Name (wpAny_loadName_cell I.ok.kind hk hc hcell fin) hd
  ·exact wpAny_Name (wpAny_loadName_free I.ok.kind hk hc hcell fin hcd) hd
theorem az {i j pos}:PE X (.Constant (.int i) j pos) (tC (.int i)):=fun _ _ _ H _ I h=>wpAny_Constant_int ⟨.int i,H,I.tok _,⟨_,rfl⟩,h⟩
theorem iT {b j pos}:PE X (.Constant (.bool b) j pos) (tC (.bl b)):=fun _ _ _ H _ I h=>Constant_bool ⟨.bl b,H,I,rfl,h⟩
theorem pe_non {j pos}:PE X (.Constant .none j pos) (tC .non):=fun _ _ _ H _ I h=>Constant_none ⟨.non,H,I,rfl,h⟩
theorem bH {x j pos}:PE X (.Constant (.str x) j pos) (tC (.str x)):=fun _ _ _ H _ I h=>Calls.Constant_str ⟨.str x,H,I.tok _,⟨_,rfl⟩,h⟩
def Gl (X:Cx) (x:Str):Prop:=X.env.kindOf x=some .globalImplicit
theorem tU {E:Value→Shared→Prop} {pins:List (Addr×Obj)} {s:Shared} {σ:St} {H:Hp} {x:Str} {u:Value} {pos:Pos} {Q:Value→Shared→Prop} (I:Inv X pins σ H s) (hg:Gl X x) (hm:X.mg x=some u) (h:Q u s)
  (hd:(x == ("__debug__" :Str))=false:=by decide):wpAny (model X.prog X.w) X.A (eval (.Name x pos) X.env) Q E s:=
 Calls.Name_function_global I.ok.kind hg (Calls.loadGlobal_global (by rw [I.ok.glob];exact I.mod.glob.keeps I.bk) hm h) hd
theorem BR {E:Value→Shared→Prop} {pins:List (Addr×Obj)} {s:Shared} {σ:St} {H:Hp} {x:Str} {u:Value} {pos:Pos} {Q:Value→Shared→Prop} (I:Inv X pins σ H s) (hg:Gl X x) (hm:X.mg x=none) (hv:bootBuiltins x=some u) (h:Q u s)
  (hn:x≠ "__name__" :=by decide) (hd:(x == ("__debug__" :Str))=false:=by decide):wpAny (model X.prog X.w) X.A (eval (.Name x pos) X.env) Q E s:=by
 obtain⟨mb,h1,h2⟩:=I.mod.blt
 exact Calls.Name_function_global I.ok.kind hg (Calls.loadGlobal_builtin (by rw [I.ok.glob];exact I.mod.glob.keeps I.bk) hm (by rw [I.ok.blt];exact h1.keeps I.bk) ((h2 x hn).trans hv) h) hd
theorem wB {x:Str} {v:V} {u:Value} {pos:Pos} (hg:Gl X x) (hm:X.mg x=some u) (r:RelV v u) (hd:(x == ("__debug__" :Str))=false:=by decide):PE X (.Name x pos) (tC v):=
 fun _ _ _ H _ I h=>tU I hg hm ⟨v,H,I,r,h⟩ hd
theorem pe_bltn {x:Str} {v:V} {u:Value} {pos:Pos} (hg:Gl X x) (hm:X.mg x=none) (hv:bootBuiltins x=some u) (r:RelV v u) (hn:x≠ "__name__" :=by decide) (hd:(x == ("__debug__" :Str))=false:=by decide):PE X (.Name x pos) (tC v):=
 fun _ _ _ H _ I h=>BR I hg hm hv ⟨v,H,I,r,h⟩ hn hd
variable {a b:Expr} {ta tb:TE} {pos:Pos}
def PC (X:Cx) (op:CmpOp) (a b:Expr) (t:TE):Prop:=
 ∀(pins:List (Addr×Obj)) (s:Shared) (σ:St) (H:Hp) (Q:VK),Inv X pins σ H s→t σ H Q→
  wpAny (model X.prog X.w) X.A (eval a X.env) (fun v s₁=>wpAny (model X.prog X.w) X.A (eval b X.env) (fun u s₂=>wpAny (model X.prog X.w) X.A (compareOp op v u) (EP X pins σ Q) X.xe s₂) X.xe s₁) X.xe s
theorem nobehind (b:Expr) {op:CmpOp} (h:op≠.In) (h2:op≠.NotIn):behindInMarks op b=false:=by
 have e1:(op == CmpOp.In)=false:=by cases op <;> first | rfl | exact absurd rfl h
 have e2:(op == CmpOp.NotIn)=false:=by cases op <;> first | rfl | exact absurd rfl h2
 cases b <;> simp [behindInMarks,e1,e2]
def tNotN (ta:TE):TE:=fun σ H Q=>ta σ H fun x H1=>Q (.bl (!decide (x=.non))) H1
theorem RelV.none_iff {x:V} {v:Value} (r:RelV x v):(v == Value.none)=decide (x=.non):=by
 cases x with
 | non=>cases r;rfl
 | bl _=>cases r;rfl
 | int _=>obtain⟨t,rfl⟩:=r;rfl
 | str _=>obtain⟨t,rfl⟩:=r;rfl
 | byt _=>obtain⟨t,rfl⟩:=r;rfl
 | flt _=>obtain⟨t,rfl⟩:=r;rfl
 | ref _=>cases r;rfl
 | ty _=>cases r;rfl
theorem pc_notN {j pos'} (ha:PE X a ta):PC X .IsNot a (.Constant .none j pos') (tNotN ta):=by
 intro pins s σ H Q I h
 refine thn (ha pins s σ H _ I h) fun v s1 hpt=>?_
 obtain⟨x,H1,I1,r1,q1⟩:=hpt
 exact Constant_none (isnot_none_gen ⟨.bl _,H1,I1,by rw [r1.none_iff];rfl,q1⟩)
def tB (t:TE):TT:=fun σ H Q=>t σ H fun x H1=>∃c,x=.bl c∧Q c H1
theorem pe_cmp {op:CmpOp} {t:TE} (h:PC X op a b t) (h1:behindInMarks op b=false:=by first | exact nobehind _ (by decide) (by decide) | rfl):PE X (.Compare a [op] [b] pos) t:=fun pins s σ H Q I hw=>wpAny_Compare1 (h pins s σ H Q I hw) h1
theorem uZ {op:CmpOp} {t:TE} (h:PC X op a b t) (h1:behindInMarks op b=false:=by first | exact nobehind _ (by decide) (by decide) | rfl):PT X (.Compare a [op] [b] pos) (tB t):=by
 intro pins s σ H Q I hw
 refine wpAny_isTrue_Compare1 (thn (h pins s σ H _ I hw) fun v s1 h1=>thn h1 fun u s2 h2=>thn h2 fun c s3 hpt=>?_) h1
 obtain⟨x,H1,I1,r1,q1⟩:=hpt
 obtain⟨d,rfl,q⟩:=q1
 cases r1
 exact wpAny_truthy_bool ⟨H1,I1,q⟩
theorem mj {e:Expr} {t:TE} (h:PE X e t) (he:∀whole,isTrue e X.env whole=(do let v ←whole;standAt e.pos;holding [v] (truthy v)):=by intro _;rfl):PT X e (tB t):=by
 intro pins s σ H Q I hw
 refine isTrue_plain (thn (h pins s σ H _ I hw) fun v s1 ⟨x,H1,I1,r1,q1⟩=>?_) (he _)
 obtain⟨d,rfl,q⟩:=q1
 cases r1
 exact wpAny_truthy_bool ⟨H1,I1,q⟩
variable {tA tB':TT} {rest:List Expr}
def tAnd (t u:TT):TT:=fun σ H Q=>t σ H fun c H1=>if c=true then u σ H1 Q else Q false H1
def tOr (t u:TT):TT:=fun σ H Q=>t σ H fun c H1=>if c=true then Q true H1 else u σ H1 Q
def tNot (t:TT):TT:=fun σ H Q=>t σ H fun c H1=>Q (!c) H1
theorem vZ (ha:PT X a tA):PW X (.BoolOp .And [a] pos) tA:=by
 intro wh pins s σ H Q I h
 refine isTrue_and (thn (ha pins s σ H Q I h) fun c s1 e=>?_)
 cases c with
 | true=>exact isTrue_and_nil e
 | false=>exact e
theorem xX (ha:PT X a tA):PW X (.BoolOp .Or [a] pos) tA:=by
 intro wh pins s σ H Q I h
 refine isTrue_or (thn (ha pins s σ H Q I h) fun c s1 e=>?_)
 cases c with
 | false=>exact isTrue_or_nil e
 | true=>exact e
theorem xP (ha:PT X a tA) (hb:PW X (.BoolOp .And (b:: rest) pos) tB'):PW X (.BoolOp .And (a:: b:: rest) pos) (tAnd tA tB'):=by
 intro wh pins s σ H Q I h
 refine isTrue_and (thn (ha pins s σ H _ I h) fun c s1 hpt=>?_)
 obtain⟨H1,I1,q1⟩:=hpt
 cases c with
 | true=>exact hb wh pins s1 σ H1 Q I1 q1
 | false=>exact⟨H1,I1,q1⟩
theorem zV (ha:PT X a tA) (hb:PW X (.BoolOp .Or (b:: rest) pos) tB'):PW X (.BoolOp .Or (a:: b:: rest) pos) (tOr tA tB'):=by
 intro wh pins s σ H Q I h
 refine isTrue_or (thn (ha pins s σ H _ I h) fun c s1 hpt=>?_)
 obtain⟨H1,I1,q1⟩:=hpt
 cases c with
 | true=>exact⟨H1,I1,q1⟩
 | false=>exact hb wh pins s1 σ H1 Q I1 q1
theorem lR (ha:PT X a tA):PT X (.UnaryOp .Not a pos) (tNot tA):=by
 intro pins s σ H Q I h
 exact isTrue_not (ha pins s σ H (fun c H1=>Q (!c) H1) I h)
def tAndV (ta tb:TE):TE:=fun σ H Q=>ta σ H fun x H1=>∃c,x=.bl c∧if c=true then tb σ H1 Q else Q (.bl false) H1
def tOrV (ta tb:TE):TE:=fun σ H Q=>ta σ H fun x H1=>∃c,x=.bl c∧if c=true then Q (.bl true) H1 else tb σ H1 Q
def tNotV (ta:TE):TE:=fun σ H Q=>ta σ H fun x H1=>∃c,x=.bl c∧Q (.bl (!c)) H1
theorem yX {op} {t:TE} (h:PE X a t):PE X (.BoolOp op [a] pos) t:=fun pins s σ H Q I hw=>BoolOp_one (h pins s σ H Q I hw)
theorem zf (ha:PE X a ta) (hb:PE X (.BoolOp .And (b:: rest) pos) tb):PE X (.BoolOp .And (a:: b:: rest) pos) (tAndV ta tb):=by
 intro pins s σ H Q I h
 refine BoolOp_and (thn (ha pins s σ H _ I h) fun v s1 hpt=>?_)
 obtain⟨x,H1,I1,r1,q1⟩:=hpt
 obtain⟨c,rfl,q1⟩:=q1
 cases r1
 refine wpAny_truthy_bool ?_
 cases c with
 | true=>exact hb pins s1 σ H1 Q I1 q1
 | false=>exact⟨.bl false,H1,I1,rfl,q1⟩
theorem pe_or (ha:PE X a ta) (hb:PE X (.BoolOp .Or (b:: rest) pos) tb):PE X (.BoolOp .Or (a:: b:: rest) pos) (tOrV ta tb):=by
 intro pins s σ H Q I h
 refine BoolOp_or (thn (ha pins s σ H _ I h) fun v s1 hpt=>?_)
 obtain⟨x,H1,I1,r1,q1⟩:=hpt
 obtain⟨c,rfl,q1⟩:=q1
 cases r1
 refine wpAny_truthy_bool ?_
 cases c with
 | false=>exact hb pins s1 σ H1 Q I1 q1
 | true=>exact⟨.bl true,H1,I1,rfl,q1⟩
theorem pe_not (ha:PE X a ta):PE X (.UnaryOp .Not a pos) (tNotV ta):=by
 intro pins s σ H Q I h
 refine UnaryOp_ (thn (ha pins s σ H _ I h) fun v s1 hpt=>?_)
 obtain⟨x,H1,I1,r1,q1⟩:=hpt
 obtain⟨c,rfl,q1⟩:=q1
 cases r1
 exact not_of (wpAny_truthy_bool ⟨.bl (!c),H1,I1,rfl,q1⟩)
def tIf (t:TT) (ta tb:TE):TE:=fun σ H Q=>t σ H fun c H1=>if c=true then ta σ H1 Q else tb σ H1 Q
theorem pe_ifExp {c:Expr} (hc:PT X c tA) (ha:PE X a ta) (hb:PE X b tb):PE X (.IfExp c a b pos) (tIf tA ta tb):=by
 intro pins s σ H Q I h
 refine wpAny_IfExp (thn (hc pins s σ H _ I h) fun d s1 hpt=>?_)
 obtain⟨H1,I1,q1⟩:=hpt
 cases d with
 | true=>exact ha pins s1 σ H1 Q I1 q1
 | false=>exact hb pins s1 σ H1 Q I1 q1
end
end L2
namespace L2
open PySem PySem.Spec PyProof.Rows
def SqL (K:PySem.W.Frag) (H:Hp) (a:Addr) (xs:List V):Prop:=
 Rd H a (.lst xs)∨
  ∃(o:Obj) (its:Array Value) (n:Nat),K.lookup a=some o∧o.cls=.type "list" ∧o.dict=none∧o.data=.seq its n∧its.size≤sizeLine∧Vals xs its.toList
def SqT (K:PySem.W.Frag) (H:Hp) (a:Addr) (xs:List V):Prop:=
 Rd H a (.tup xs)∨
  ∃(o:Obj) (its:Array Value) (n:Nat),K.lookup a=some o∧o.cls=.type "tuple" ∧o.data=.seq its n∧its.size≤sizeLine∧Vals xs its.toList
def absV:Value→Option V
 | .none=>some .non
 | .bool b=>some (.bl b)
 | .int i _=>some (.int i)
 | .str x _=>some (.str x)
 | .bytes b _=>some (.byt b)
 | .float b _=>some (.flt b)
 | .ref a=>some (.ref a)
 | .type n=>some (.ty n)
 | _=>none
theorem RelV.abs {x:V} {u:Value} (r:RelV x u):absV u=some x:=by
 cases x with
 | non=>cases r;rfl
 | bl _=>cases r;rfl
 | int _=>obtain⟨t,rfl⟩:=r;rfl
 | str _=>obtain⟨t,rfl⟩:=r;rfl
 | byt _=>obtain⟨t,rfl⟩:=r;rfl
 | flt _=>obtain⟨t,rfl⟩:=r;rfl
 | ref _=>cases r;rfl
 | ty _=>cases r;rfl
theorem RelV.inj {x y:V} {u:Value} (r:RelV x u) (q:RelV y u):x=y:=Option.some.inj (r.abs.symm.trans q.abs)
theorem Vals.inj:∀{xs ys:List V} {us:List Value},Vals xs us→Vals ys us→xs=ys
 | _,_,_,.nil,.nil=>rfl
 | _,_,_,.cons r t,.cons r' t'=>by rw [r.inj r',Vals.inj t t']
section
variable {X:Cx} {pins:List (Addr×Obj)} {σ:St} {H:Hp} {s:Shared} {a:Addr} {xs ys:List V}
theorem SqL.of {K:PySem.W.Frag} (h:H a=some (.lst xs)):SqL K H a xs:=.inl (.inl h)
theorem SqT.of {K:PySem.W.Frag} (h:H a=some (.tup xs)):SqT K H a xs:=.inl (.inl h)
theorem Inv.list (I:Inv X pins σ H s) (h:SqL X.K H a xs):∃its:List Value,Vals xs its∧PlainL s.heap a its.toArray∧xs.length≤sizeLine:=by
 rcases h with h | ⟨o,its,n,hk,hc,hd,hs,hz,r⟩
 ·obtain⟨z,its,n,r,e⟩:=h.ok I.hok
  exact⟨its,r,⟨_,n,e,rfl,rfl,rfl⟩,z⟩
 ·refine⟨its.toList,r,⟨o,n,I.kIn a o hk,hc,hd,by simpa using hs⟩,?_⟩
  have e:=r.length
  simp only [Array.length_toList] at e
  omega
theorem Inv.tuple (I:Inv X pins σ H s) (h:SqT X.K H a xs):∃its:List Value,Vals xs its∧IsTup s.heap a its.toArray∧xs.length≤sizeLine:=by
 rcases h with h | ⟨o,its,n,hk,hc,hs,hz,r⟩
 ·obtain⟨z,its,r,p⟩:=h.ok I.hok
  exact⟨its,r,p,z⟩
 ·refine⟨its.toList,r,⟨o,I.kIn a o hk,hc,n,by simpa using hs⟩,?_⟩
  have e:=r.length
  simp only [Array.length_toList] at e
  omega
theorem Inv.list_inj (I:Inv X pins σ H s) (h:SqL X.K H a xs) (h':SqL X.K H a ys):xs=ys:=by
 obtain⟨its,r,⟨o,n,e,_,_,d⟩,_⟩:=I.list h
 obtain⟨its',r',⟨o',n',e',_,_,d'⟩,_⟩:=I.list h'
 rw [e] at e';cases e'
 rw [d] at d'
 injection d' with d1 _
 have:its=its':=by simpa using congrArg Array.toList d1
 subst this
 exact r.inj r'
theorem Inv.tuple_inj (I:Inv X pins σ H s) (h:SqT X.K H a xs) (h':SqT X.K H a ys):xs=ys:=by
 obtain⟨its,r,⟨o,e,_,n,d⟩,_⟩:=I.tuple h
 obtain⟨its',r',⟨o',e',_,n',d'⟩,_⟩:=I.tuple h'
 rw [e] at e';cases e'
 rw [d] at d'
 injection d' with d1 _
 have:its=its':=by simpa using congrArg Array.toList d1
 subst this
 exact r.inj r'
end
abbrev Cx.wish (X:Cx) (E:Value→Shared→Prop):Cx:={ X with xe:=E }
abbrev Cx.nox (X:Cx):Cx:=X.wish fun _ _=>False
theorem Cx.Ok.wish {X:Cx} (ok:X.Ok) (E:Value→Shared→Prop):(X.wish E).Ok:=
 ⟨ok.mod,ok.kind,ok.glob,ok.blt,ok.above,ok.inj,ok.has,ok.cab,ok.hd,ok.frames,ok.stk,ok.exf,ok.bs,ok.bsz,ok.noex,ok.exfs,ok.funs,ok.frf⟩
theorem Cx.Ok.unwish {X:Cx} {E:Value→Shared→Prop} (ok:(X.wish E).Ok):X.Ok:=
 ⟨ok.mod,ok.kind,ok.glob,ok.blt,ok.above,ok.inj,ok.has,ok.cab,ok.hd,ok.frames,ok.stk,ok.exf,ok.bs,ok.bsz,ok.noex,ok.exfs,ok.funs,ok.frf⟩
section
variable {X:Cx} {pins:List (Addr×Obj)} {σ:St} {H:Hp} {s:Shared} {E:Value→Shared→Prop}
theorem Inv.wish (I:Inv X pins σ H s) (E:Value→Shared→Prop):Inv (X.wish E) pins σ H s:=⟨I.ok.wish E,I.os,I.bare,I.base,I.loc,I.cell,I.free,I.freeC,I.pin,I.hok,I.len⟩
theorem Inv.unwish (I:Inv (X.wish E) pins σ H s):Inv X pins σ H s:=⟨I.ok.unwish,I.os,I.bare,I.base,I.loc,I.cell,I.free,I.freeC,I.pin,I.hok,I.len⟩
theorem SP.unwish {D:Ends} {f:Flow} {s':Shared} (h:SP (X.wish E) pins D f s'):SP X pins D f s':=by
 cases f with
 | next=>obtain⟨σ',H',I,q⟩:=h;exact⟨σ',H',I.unwish,q⟩
 | brk=>obtain⟨σ',H',I,q⟩:=h;exact⟨σ',H',I.unwish,q⟩
 | cont=>obtain⟨σ',H',I,q⟩:=h;exact⟨σ',H',I.unwish,q⟩
 | ret u=>obtain⟨v,σ',H',I,r,q⟩:=h;exact⟨v,σ',H',I.unwish,r,q⟩
theorem PSs.nox {st:List Stmt} {t:TS} (h:PSs X.nox st t):PSs X st t:=fun pins s σ H D I hw=>
 wpAny_mono (h pins s σ H D (I.wish _) hw) (fun _ _ q=>q.unwish) fun _ _ z=>False.elim z
end
section
variable {X:Cx} {st:Stmt} {rest:List Stmt} {t u:TS} {e:Expr} {te:TE} {pos:Pos}
def tNext:TS:=fun D σ H=>D.nx σ H
def zu (t u:TS):TS:=fun D σ H=>t { D with nx:=u D } σ H
theorem bQ:PSs X [] tNext:=fun _ _ σ H _ I h=>wpAny_execs_nil ⟨σ,H,I,h⟩
theorem aB (h1:PS X st t) (h2:PSs X rest u):PSs X (st:: rest) (zu t u):=by
 intro pins s σ H D I h
 refine wpAny_execs_cons (thn (h1 pins s σ H { D with nx:=u D } I h) fun f s1 q=>?_)
 cases f with
 | next=>
  obtain⟨σ',H',I',q⟩:=q
  exact h2 pins s1 σ' H' D I' q
 | ret v=>exact q
 | brk=>exact q
 | cont=>exact q
theorem aC (h1:PS X st t):PSs X [st] t:=by
 intro pins s σ H D I h
 refine wpAny_execs_cons (thn (h1 pins s σ H D I h) fun f s1 q=>?_)
 cases f with
 | next=>exact wpAny_execs_nil q
 | ret v=>exact q
 | brk=>exact q
 | cont=>exact q
theorem Inv.quiet {pins:List (Addr×Obj)} {σ:St} {H:Hp} {s:Shared} (I:Inv X pins σ H s):interactive X.env=false:=by simp [interactive,I.ok.kind]
def tDrop (te:TE):TS:=fun D σ H=>te σ H fun _ H1=>D.nx σ H1
theorem bF (he:PE X e te) (hs:swapsWith e none pos.line X.env=pure false:=by rfl):PS X (.Expr e pos) (tDrop te):=by
 intro pins s σ H D I h
 exact wpAny_Expr_any (thn (he pins s σ H _ I h) fun v s1 ⟨x,H1,I1,r1,q1⟩=>⟨σ,H1,I1,q1⟩) I.quiet hs
def tRet (te:TE):TS:=fun D σ H=>te σ H D.rt
theorem aZ (he:PE X e te):PS X (.Return (some e) pos) (tRet te):=by
 intro pins s σ H D I h
 exact wpAny_Return_some (thn (he pins s σ H _ I h) fun v s1 ⟨x,H1,I1,r1,q1⟩=>⟨x,σ,H1,I1,r1,q1⟩)
def tIfS (c:TT) (t u:TS):TS:=fun D σ H=>c σ H fun b H1=>if b=true then t D σ H1 else u D σ H1
theorem cg {c:Expr} {a b:List Stmt} {tc:TT} (hc:PT X c tc) (ha:PSs X a t) (hb:PSs X b u):PS X (.If c a b pos) (tIfS tc t u):=by
 intro pins s σ H D I h
 refine wpAny_If (thn (hc pins s σ H _ I h) fun d s1 hpt=>?_)
 obtain⟨H1,I1,q1⟩:=hpt
 cases d with
 | true=>exact ha pins s1 σ H1 D I1 q1
 | false=>exact hb pins s1 σ H1 D I1 q1
def tNever:TS:=fun _ _ _=>False
theorem gJ:PS X st tNever:=fun _ _ _ _ _ _ h=>h.elim
end
abbrev TG:=V→St→Hp→(St→Hp→Prop)→Prop
abbrev TGs:=List V→St→Hp→(St→Hp→Prop)→Prop
def PG (X:Cx) (target:Expr) (t:TG):Prop:=
 ∀(pins:List (Addr×Obj)) (s:Shared) (σ:St) (H:Hp) (v:V) (u:Value) (Q:St→Hp→Prop),Inv X pins σ H s→RelV v u→t v σ H Q→
  wpAny (model X.prog X.w) X.A (assign target X.env u) (fun _ s'=>∃σ' H',Inv X pins σ' H' s'∧Q σ' H') X.xe s
def PGs (X:Cx) (ts:List Expr) (t:TGs):Prop:=
 ∀(pins:List (Addr×Obj)) (s:Shared) (σ:St) (H:Hp) (vs:List V) (us:List Value) (Q:St→Hp→Prop),Inv X pins σ H s→Vals vs us→t vs σ H Q→
  wpAny (model X.prog X.w) X.A (assignInOrder ((assignEach ts X.env).map (·.2)) us) (fun _ s'=>∃σ' H',Inv X pins σ' H' s'∧Q σ' H') X.xe s
section
variable {X:Cx} {pos:Pos}
def gName (i:Nat):TG:=fun v σ H Q=>Q (σ.set i (some v)) H
theorem dz {i:Nat} {x:Str} (hN:X.N.Nodup) (hi:X.N[i]?=some x) (hx:Loc X.env.scope x) (hf:X.fn x=true∨X.env.scope.names.lookup x=some .local:=by first | exact .inl rfl | exact .inr rfl | assumption):PG X (.Name x pos) (gName i):=by
 intro pins s σ H v u Q I r h
 exact wpAny_assign_Name (vd I hN hi hx r (fun s' I'=>⟨_,H,I',h⟩) hf)
def gNil:TGs:=fun vs σ H Q=>vs=[]∧Q σ H
def gCons (t:TG) (u:TGs):TGs:=fun vs σ H Q=>∃v r,vs=v:: r∧t v σ H fun σ' H'=>u r σ' H' Q
theorem pgs_nil:PGs X [] gNil:=by
 intro pins s σ H vs us Q I r h
 obtain⟨e,h⟩:=h
 subst e
 cases r
 exact assignInOrder_nil ⟨σ,H,I,h⟩
theorem yh {e:Expr} {es:List Expr} {t:TG} {u:TGs} (h1:PG X e t) (h2:PGs X es u)
  (hs:(assignEach (e:: es) X.env).map (·.2)=assign e X.env:: (assignEach es X.env).map (·.2):=by rfl):PGs X (e:: es) (gCons t u):=by
 intro pins s σ H vs us Q I r h
 obtain⟨v,vr,e1,h⟩:=h
 subst e1
 cases r with
 | cons r rr=>
  rw [hs]
  refine assignInOrder_cons (thn (h1 pins s σ H _ _ _ I r h) fun _ s1 hpt=>?_)
  obtain⟨σ1,H1,I1,q1⟩:=hpt
  exact h2 pins s1 σ1 H1 _ _ Q I1 rr q1
def gTup (K:PySem.W.Frag) (n:Nat) (t:TGs):TG:=fun v σ H Q=>∃a xs,v=.ref a∧SqT K H a xs∧xs.length=n∧t xs σ H Q
theorem pg_tup {es:List Expr} {k:Nat} {t:TGs} {n:Nat} (hc:X.calm=true) (h:PGs X es t)
  (hn:(assignEach es X.env).length=n:=by rfl) (hst:(assignEach es X.env).findIdx? (·.1)=none:=by rfl):PG X (.Tuple es k pos) (gTup X.K n t):=by
 intro pins s σ H v u Q I r hw
 obtain⟨a,xs,e1,hq,hl,hw⟩:=hw
 subst e1
 cases r
 obtain⟨its,rv,ht,hz⟩:=I.tuple hq
 refine assign_Tuple_tuple (I.ok.hd hc) ht (by simp [hn,←hl,rv.length]) hst fun h' hx=>?_
 have I1:Inv X pins σ H { s with heap:=h' }:=I.kept (t':=s.toks) fun b o e=>hx b o (Nat.ne_of_lt (Heap.lt_size e)) e
 exact h pins _ σ H xs _ Q I1 (by simpa using rv) hw
def tAsg (te:TE) (g:TG):TS:=fun D σ H=>te σ H fun x H1=>g x σ H1 D.nx
theorem ps_asg {tg e:Expr} {te:TE} {g:TG} (he:PE X e te) (hg:PG X tg g) (hs:swapsWithSole [tg] e pos.line X.env=pure false:=by rfl) (hw:swappedStores [tg] e X.env=pure none:=by rfl)
  (h1:(assignEach [tg] X.env).map (·.2)=[assign tg X.env]:=by rfl):PS X (.Assign [tg] e pos) (tAsg te g):=by
 intro pins s σ H D I h
 refine wpAny_Assign_stores (thn (he pins s σ H _ I h) fun v s1 hpt=>?_) hs hw
 obtain⟨x,H1,I1,r1,q1⟩:=hpt
 rw [h1]
 exact thn (hg pins s1 σ H1 x v _ I1 r1 q1) fun _ s2 q=>q
theorem aX {i:Nat} {x:Str} {e:Expr} {te:TE} {pos':Pos} (hN:X.N.Nodup) (hi:X.N[i]?=some x) (hx:Loc X.env.scope x) (he:PE X e te) (hs:swapsWith e (some (.Name x pos')) pos.line X.env=pure false:=by rfl) (hf:X.fn x=true∨X.env.scope.names.lookup x=some .local:=by first | exact .inl rfl | exact .inr rfl | assumption):
  PS X (.Assign [.Name x pos'] e pos) (tAsg te (gName i)):=by
 intro pins s σ H D I h
 refine wpAny_Assign_Name (thn (he pins s σ H _ I h) fun v s1 hpt=>?_) hs
 obtain⟨y,H1,I1,r1,q1⟩:=hpt
 exact vd I1 hN hi hx r1 (fun s2 I2=>⟨_,H1,I2,q1⟩) hf
end
section
variable {X:Cx} {pos:Pos}
def tWhile (c:TT) (tb:TS):TS:=fun D σ H=>∃W:Nat→St→Hp→Prop,(∃m,W m σ H)∧∀m σ H,W m σ H→
 c σ H fun b H1=>if b=true then ∃N:St→Hp→Prop,(∀σ' H',N σ' H'→∃m',m' <m∧W m' σ' H')∧tb { D with nx:=N,ct:=N,bk:=D.nx } σ H1 else D.nx σ H1
theorem yc {c:Expr} {body:List Stmt} {tc:TT} {tb:TS} (hp:PassesOwn (model X.prog X.w) X.A X.env X.xe) (hc:PT X c tc) (hb:PSs X body tb):PS X (.While c body [] pos) (tWhile tc tb):=by
 intro pins s σ H D I h
 obtain⟨W,⟨m0,w0⟩,turn⟩:=h
 refine wpAny_While (codeAny_whileLoop (fun n s'=>∃σ' H',Inv X pins σ' H' s'∧W n σ' H') ?_ m0 ⟨σ,H,I,w0⟩)
 rintro n s1 ⟨σ1,H1,I1,w1⟩
 refine wpAny_passesOwn hp (thn (hc pins s1 σ1 H1 _ I1 (turn n σ1 H1 w1)) fun b s2 hpt=>?_)
 obtain⟨H2,I2,q2⟩:=hpt
 cases b with
 | true=>
  obtain⟨N,hN,q2⟩:=q2
  rw [if_pos rfl]
  refine wpAny_passesOwn hp (thn (hb pins s2 σ1 H2 _ I2 q2) fun f s3 q3=>?_)
  cases f with
  | next=>
   obtain⟨σ3,H3,I3,n3⟩:=q3
   obtain⟨m',hm,w3⟩:=hN σ3 H3 n3
   exact⟨m',hm,σ3,H3,I3,w3⟩
  | cont=>
   obtain⟨σ3,H3,I3,n3⟩:=q3
   obtain⟨m',hm,w3⟩:=hN σ3 H3 n3
   exact⟨m',hm,σ3,H3,I3,w3⟩
  | brk=>exact q3
  | ret v=>exact q3
 | false=>
  rw [if_neg Bool.false_ne_true]
  exact wpAny_execs_nil ⟨σ1,H2,I2,q2⟩
end
structure It where
 go:Nat→Hp→Prop
 yld:Nat→Hp→V→Hp→Prop
 stop:Nat→Hp→Prop
def FpOk (X:Cx) (pins:List (Addr×Obj)) (H:Hp) (b:Addr):Prop:=
 H b=none∧b≠X.env.locals∧b∉X.fs∧(b∈X.ex∨X.s₀.heap.objs.size≤b)∧(∀x c,X.env.cells.lookup x=some c→c≠b)∧∀p∈X.pn ++ pins,p.1≠b
theorem Inv.fpOk {X:Cx} {pins:List (Addr×Obj)} {σ:St} {H H':Hp} {s:Shared} {b:Addr} (I:Inv X pins σ H s) (hb:s.heap.objs.size≤b) (hn:H' b=none):FpOk X pins H' b:=by
 refine⟨hn,Nat.ne_of_gt (Nat.lt_of_lt_of_le I.lt hb),I.nofs hb,.inr (Nat.le_trans I.sz hb),fun x c e z=>?_,fun p hp z=>?_⟩
 ·obtain⟨v,q⟩:=I.cell x c e
  exact absurd (Nat.lt_of_lt_of_le q.lt (by rw [z];exact hb)) (Nat.lt_irrefl _)
 ·exact absurd (Nat.lt_of_lt_of_le (Heap.lt_size (I.pin p hp).1) (by rw [z];exact hb)) (Nat.lt_irrefl _)
structure Turn (P:Program) (w:World) (K:PySem.W.Frag) (tg:Expr) (J:It) (fp:List Addr) (it:Addr) (tn:Nat→Heap→Prop):Prop where
 mem:it∈fp
 obj:∀i h,tn i h→∀b∈fp,∃o,h.get? b=some o∧∀v,o.data≠.cell v
 keep:∀i h h',tn i h→(∀b∈fp,∀o,h.get? b=some o→h'.get? b=some o)→tn i h'
 item:∀(X:Cx),X.prog=P→X.w=w→X.K=K→X.calm=true→∀(i:Nat) (pins:List (Addr×Obj)) (s:Shared) (σ:St) (H:Hp) (E:Value→Shared→Prop),Inv X pins σ H s→(∀b∈fp,FpOk X pins H b)→tn i s.heap→J.go i H→
  wpAny (model P w) X.A (pyNext (.ref it)) (fun r s1=>∃u,r=some u∧
   wpAny (model P w) X.A (letOwnedTupleGo tg (.ref it) u) (fun _ s2=>∃x H',Inv X pins σ H' s2∧RelV x u∧J.yld i H x H'∧tn (i+1) s2.heap∧∀b∈fp,H' b=none) E s1) E s
 done:∀(X:Cx),X.prog=P→X.w=w→X.K=K→X.calm=true→∀(i:Nat) (pins:List (Addr×Obj)) (s:Shared) (σ:St) (H:Hp) (E:Value→Shared→Prop),Inv X pins σ H s→(∀b∈fp,FpOk X pins H b)→tn i s.heap→J.stop i H→
  wpAny (model P w) X.A (pyNext (.ref it)) (fun r s1=>r=none∧Inv X pins σ H s1) E s
 self:∀(A:Around) (i:Nat) (s:Shared) (Q:Value→Shared→Prop) (E:Value→Shared→Prop),tn i s.heap→Q (.ref it) s→wpAny (model P w) A (pyIter (.ref it)) Q E s
abbrev TI:=St→Hp→(It→Hp→Prop)→Prop
def PIE (X:Cx) (pins:List (Addr×Obj)) (σ:St) (tg:Expr) (R:It→Hp→Prop) (itv:Value) (s2:Shared):Prop:=
 ∃(it:Addr) (fp:List Addr) (tn:Nat→Heap→Prop) (J:It) (H':Hp),itv=.ref it∧Inv X pins σ H' s2∧Turn X.prog X.w X.K tg J fp it tn∧tn 0 s2.heap∧(∀b∈fp,FpOk X pins H' b)∧R J H'
def PI (X:Cx) (tg iter:Expr) (wi:TI):Prop:=
 ∀(pins:List (Addr×Obj)) (s:Shared) (σ:St) (H:Hp) (R:It→Hp→Prop),Inv X pins σ H s→wi σ H R→
  wpAny (model X.prog X.w) X.A (eval iter X.env) (fun v s1=>wpAny (model X.prog X.w) X.A (pyIter v) (PIE X pins σ tg R) X.xe s1) X.xe s
theorem go_of {M:Model} {A:Around} {E:Value→Shared→Prop} {s:Shared} {tg:Expr} {it:Addr} {u:Value} {o:Obj} {n:String} {vs:Array Value} {Q:Unit→Shared→Prop} (ho:s.heap.get? it=some o) (hc:o.cls=.type n) (hd:o.data=.fields vs)
  (hn:["enumerate", "zip", "dict_itemiterator", "dict_reverseitemiterator", "odict_iterator", "itertools.zip_longest", "itertools.pairwise"].contains n=false) (hQ:Q () s):wpAny M A (letOwnedTupleGo tg (.ref it) u) Q E s:=by
 unfold letOwnedTupleGo
 cases tg <;> first
  | exact wpAny_pure hQ
  | (cases u <;> first
    | exact wpAny_pure hQ
    | (refine wpAny_bind (wpAny_load ho ?_)
       rw [hc,hd]
       show wpAny M A (if (["enumerate", "zip", "dict_itemiterator", "dict_reverseitemiterator", "odict_iterator", "itertools.zip_longest", "itertools.pairwise"].contains n && vs[0]? == some (rawInt _))=true then _ else _) Q E s
       rw [if_neg (by intro h;rw [hn,Bool.false_and] at h;cases h)]
       exact wpAny_pure hQ))
def Itl (K:PySem.W.Frag) (a:Addr):It:=
 ⟨fun i H=>∃xs x,SqL K H a xs∧xs[i]?=some x,fun i H x H'=>H'=H∧∀xs,SqL K H a xs→xs[i]?=some x,fun i H=>∃xs,SqL K H a xs∧xs.length≤i⟩
def Itt (K:PySem.W.Frag) (a:Addr):It:=
 ⟨fun i H=>∃xs x,SqT K H a xs∧xs[i]?=some x,fun i H x H'=>H'=H∧∀xs,SqT K H a xs→xs[i]?=some x,fun i H=>∃xs,SqT K H a xs∧xs.length≤i⟩
def Itr (lo:Int) (n:Nat):It:=⟨fun i _=>i <n,fun i H x H'=>H'=H∧x=.int (lo+i),fun i _=>n≤i⟩
theorem turn_list {P:Program} {w:World} {K:PySem.W.Frag} {tg:Expr} (a it:Addr):Turn P w K tg (Itl K a) [it] it (fun i h=>h.IsListIter it a i) where
 mem:=by simp
 obj:=fun i h st b hb=>by
  have e:b=it:=by simpa using hb
  subst e
  obtain⟨o,e,c,d⟩:=st
  exact⟨o,e,fun v z=>by rw [d] at z;cases z⟩
 keep:=fun i h h' st k=>st.at fun o e=>k it (by simp) o e
 item:=by
  intro X hP hw hK hc i pins s σ H E I hf st hg
  subst hP hw hK
  obtain⟨xs,x,hq,hx⟩:=hg
  obtain⟨its,rv,p,hz⟩:=I.list hq
  obtain⟨u,hu,ru⟩:=rv.get hx
  obtain⟨f0,f1,f2,f3,f4,f5⟩:=hf it (by simp)
  refine wpAny_pyNext_list_item st p.isList (x:=u) (by simpa using hu) fun h' st' sb=>?_
  have I1:Inv X pins σ H { s with heap:=h' }:=I.turned (t':=s.toks) (fun b o hb e=>(sb.2 b hb).trans e) f0 f1 f3 f4 f5
  obtain⟨o,e,c,d⟩:=id st'
  exact⟨u,rfl,go_of (s:={ s with heap:=h' }) e c d (by decide) ⟨x,H,I1,ru,⟨rfl,fun ys hy=>by rw [I.list_inj hy hq];exact hx⟩,st',fun b hb=>(hf b hb).1⟩⟩
 done:=by
  intro X hP hw hK hc i pins s σ H E I hf st hg
  subst hP hw hK
  obtain⟨xs,hq,hx⟩:=hg
  obtain⟨its,rv,p,hz⟩:=I.list hq
  obtain⟨f0,f1,f2,f3,f4,f5⟩:=hf it (by simp)
  have hl:=rv.length
  exact wpAny_pyNext_list_end (I.ok.hd hc) st p.isList (by simp;omega) fun h' eb=>⟨rfl,I.turned (t':=s.toks) (fun b o hb e=>eb b o hb e) f0 f1 f3 f4 f5⟩
 self:=fun _ _ _ _ _ st h=>wpAny_pyIter_listiter st h
theorem turn_tuple {P:Program} {w:World} {K:PySem.W.Frag} {tg:Expr} (a it:Addr):Turn P w K tg (Itt K a) [it] it (fun i h=>h.IsTupleIter it a i) where
 mem:=by simp
 obj:=fun i h st b hb=>by
  have e:b=it:=by simpa using hb
  subst e
  obtain⟨o,e,c,d⟩:=st
  exact⟨o,e,fun v z=>by rw [d] at z;cases z⟩
 keep:=fun i h h' st k=>st.at fun o e=>k it (by simp) o e
 item:=by
  intro X hP hw hK hc i pins s σ H E I hf st hg
  subst hP hw hK
  obtain⟨xs,x,hq,hx⟩:=hg
  obtain⟨its,rv,p,hz⟩:=I.tuple hq
  obtain⟨u,hu,ru⟩:=rv.get hx
  obtain⟨f0,f1,f2,f3,f4,f5⟩:=hf it (by simp)
  refine wpAny_pyNext_tuple_item st (show s.heap.IsTuple a its.toArray from p) (x:=u) (by simpa using hu) fun h' st' sb=>?_
  have I1:Inv X pins σ H { s with heap:=h' }:=I.turned (t':=s.toks) (fun b o hb e=>(sb.2 b hb).trans e) f0 f1 f3 f4 f5
  obtain⟨o,e,c,d⟩:=id st'
  exact⟨u,rfl,go_of (s:={ s with heap:=h' }) e c d (by decide) ⟨x,H,I1,ru,⟨rfl,fun ys hy=>by rw [I.tuple_inj hy hq];exact hx⟩,st',fun b hb=>(hf b hb).1⟩⟩
 done:=by
  intro X hP hw hK hc i pins s σ H E I hf st hg
  subst hP hw hK
  obtain⟨xs,hq,hx⟩:=hg
  obtain⟨its,rv,p,hz⟩:=I.tuple hq
  obtain⟨f0,f1,f2,f3,f4,f5⟩:=hf it (by simp)
  have hl:=rv.length
  exact wpAny_pyNext_tuple_end (I.ok.hd hc) st (show s.heap.IsTuple a its.toArray from p) (by simp;omega) fun h' eb=>⟨rfl,I.turned (t':=s.toks) (fun b o hb e=>eb b o hb e) f0 f1 f3 f4 f5⟩
 self:=fun _ _ _ _ _ st h=>wpAny_pyIter_tupleiter st h
theorem turn_range {P:Program} {w:World} {K:PySem.W.Frag} {tg:Expr} (it:Addr) (lo:Int) (n:Nat):Turn P w K tg (Itr lo n) [it] it (fun i h=>IsRangeIter h it (lo+(i:Nat) * 1) ((n:Int) - (i:Nat)) 1) where
 mem:=by simp
 obj:=fun i h st b hb=>by
  have e:b=it:=by simpa using hb
  subst e
  exact⟨_,st,fun v z=>by
   have z':Data.fields _=Data.cell v:=z
   cases z'⟩
 keep:=fun i h h' st k=>k it (by simp) _ st
 item:=by
  intro X hP hw hK hc i pins s σ H E I hf st hg
  subst hP hw hK
  obtain⟨f0,f1,f2,f3,f4,f5⟩:=hf it (by simp)
  have W:=Walks.range (prog:=X.prog) (w:=X.w) (I.ok.hd hc) it lo 1 n
  refine W.item i s _ _ hg st fun v h' tk hv st' kk=>?_
  obtain⟨t,rfl⟩:=hv
  have I1:Inv X pins σ H { s with heap:=h',toks:=tk }:=I.turned (fun b o hb e=>kk b o (by simpa using hb) e) f0 f1 f3 f4 f5
  refine⟨_,rfl,go_of (s:={ s with heap:=h',toks:=tk }) (n:= "range_iterator") st' rfl rfl (by decide) ⟨.int (lo+i),H,I1,⟨t,?_⟩,⟨rfl,rfl⟩,st',fun b hb=>(hf b hb).1⟩⟩
  rw [Int.mul_one]
 done:=by
  intro X hP hw hK hc i pins s σ H E I hf st hg
  subst hP hw hK
  obtain⟨f0,f1,f2,f3,f4,f5⟩:=hf it (by simp)
  exact wpAny_pyNext_range_end (I.ok.hd hc) st (by have:n≤i:=hg;omega) fun h' eb=>⟨rfl,I.turned (t':=s.toks) (fun b o hb e=>eb b o hb e) f0 f1 f3 f4 f5⟩
 self:=fun _ _ _ _ _ st h=>wpAny_pyIter_rangeiter st h
end L2
namespace L2
open PySem PySem.Spec PyProof.Rows
section
variable {X:Cx} {tg:Expr}
def iList (K:PySem.W.Frag) (tl:TE):TI:=fun σ H R=>tl σ H fun x H1=>∃a,x=.ref a∧(∃xs,SqL K H1 a xs)∧R (Itl K a) H1
def iTup (K:PySem.W.Frag) (tl:TE):TI:=fun σ H R=>tl σ H fun x H1=>∃a,x=.ref a∧(∃xs,SqT K H1 a xs)∧R (Itt K a) H1
theorem iQ {l:Expr} {tl:TE} (hl:PE X l tl):PI X tg l (iList X.K tl):=by
 intro pins s σ H R I h
 refine thn (hl pins s σ H _ I h) fun v s1 hpt=>?_
 obtain⟨x,H1,I1,r1,q1⟩:=hpt
 obtain⟨a,e,⟨xs,hq⟩,q⟩:=q1
 subst e
 cases r1
 obtain⟨its,rv,p,hz⟩:=I1.list hq
 refine wpAny_pyIter_list p.isList ?_
 refine⟨s1.heap.objs.size,[s1.heap.objs.size],_,_,H1,rfl,I1.kept (t':=s1.toks) fun b o e=>Heap.get?_push_of_some _ e,turn_list a _,⟨_,Heap.get?_push_size _ rfl,rfl,rfl⟩,fun b hb=>?_,q⟩
 have e:b=s1.heap.objs.size:=by simpa using hb
 subst e
 exact I1.fpOk (Nat.le_refl _) (I1.hok.fresh (Nat.le_refl _))
theorem pi_tup {l:Expr} {tl:TE} (hl:PE X l tl):PI X tg l (iTup X.K tl):=by
 intro pins s σ H R I h
 refine thn (hl pins s σ H _ I h) fun v s1 hpt=>?_
 obtain⟨x,H1,I1,r1,q1⟩:=hpt
 obtain⟨a,e,⟨xs,hq⟩,q⟩:=q1
 subst e
 cases r1
 obtain⟨its,rv,p,hz⟩:=I1.tuple hq
 refine wpAny_pyIter_tuple (show s1.heap.IsTuple a its.toArray from p) ?_
 refine⟨s1.heap.objs.size,[s1.heap.objs.size],_,_,H1,rfl,I1.kept (t':=s1.toks) fun b o e=>Heap.get?_push_of_some _ e,turn_tuple a _,⟨_,Heap.get?_push_size _ rfl,rfl,rfl⟩,fun b hb=>?_,q⟩
 have e:b=s1.heap.objs.size:=by simpa using hb
 subst e
 exact I1.fpOk (Nat.le_refl _) (I1.hok.fresh (Nat.le_refl _))
theorem range_it {pins:List (Addr×Obj)} {σ:St} {H:Hp} {s:Shared} {R:It→Hp→Prop} {E:Value→Shared→Prop} {lo hi:Int} {t u v:Tok} {tk:Nat} (I:Inv X pins σ H s) (h1: -(2 ^ 62)≤lo) (h2:lo <2 ^ 62) (h3: -(2 ^ 62)≤hi) (h4:hi <2 ^ 62)
  (q:R (Itr lo (hi - lo).toNat) H):wpAny (model X.prog X.w) X.A (pyIter (.ref s.heap.objs.size)) (PIE X pins σ tg R) E { s with heap:=s.heap.push { cls:=.type "range",data:=.fields #[.int lo t,.int hi u,.int 1 v] },toks:=tk }:=by
 refine wpAny_pyIter_range (IsRange.new ..) (small_one h1 h2 h3 h4) ?_
 have I1:Inv X pins σ H { s with heap:=s.heap.push { cls:=.type "range",data:=.fields #[.int lo t,.int hi u,.int 1 v] },toks:=tk }:=I.kept fun b o e=>Heap.get?_push_of_some _ e
 refine⟨(s.heap.push { cls:=.type "range",data:=.fields #[.int lo t,.int hi u,.int 1 v] }).objs.size,[(s.heap.push { cls:=.type "range",data:=.fields #[.int lo t,.int hi u,.int 1 v] }).objs.size],_,_,H,rfl,
  I1.kept (t':=tk) fun b o e=>Heap.get?_push_of_some _ e,turn_range _ lo (hi - lo).toNat,?_,fun b hb=>?_,q⟩
 ·have e1:lo+((0:Nat):Int) * 1=lo:=by simp
  have e2:(((hi - lo).toNat:Nat):Int) - ((0:Nat):Int)=Builtin.Range.rangeSize lo hi 1:=by rw [rangeSize_one];split <;> omega
  show IsRangeIter _ _ (lo+((0:Nat):Int) * 1) ((((hi - lo).toNat:Nat):Int) - ((0:Nat):Int)) 1
  rw [e1,e2]
  exact Heap.get?_push_size _ rfl
 ·have e:b=(s.heap.push { cls:=.type "range",data:=.fields #[.int lo t,.int hi u,.int 1 v] }).objs.size:=by simpa using hb
  subst e
  exact I1.fpOk (Nat.le_refl _) (I1.hok.fresh (Nat.le_refl _))
def iRng1 (ta:TA):TI:=fun σ H R=>ta σ H fun vs H1=>∃j:Int,vs=[.int j]∧ -(2 ^ 62)≤j∧j <2 ^ 62∧R (Itr 0 j.toNat) H1
theorem kO {a:Expr} {ta:TA} {p pos:Pos} (hg:Gl X "range") (hm:X.mg "range" =none) (ha:PA X [a] ta) (hs:starEach [a] X.env=[(false,eval a X.env)]:=by rfl):PI X tg (.Call (.Name "range" p) [a] [] pos) (iRng1 ta):=by
 intro pins s σ H R I h
 refine Call_ (BR I hg hm boot_range (PyProof.Rows.callWith_type1 (thn (ha pos pins s σ H _ I h) fun us s1 ⟨vs,H1,I1,r1,q1⟩=>?_) hs rfl))
 obtain⟨j,e,q1,q2,q⟩:=q1
 subst e
 cases r1 with
 | cons r rr=>
  cases rr
  obtain⟨t,rfl⟩:=r
  exact call_range_1 (range_it I1 (by omega) (by omega) q1 q2 (by simpa using q))
def tFor (wi:TI) (g:TG) (tb:TS):TS:=fun D σ H=>wi σ H fun J H1=>∃W:Nat→Nat→St→Hp→Prop,(∃m,W 0 m σ H1)∧∀i m σ H,W i m σ H→
 (J.stop i H∧D.nx σ H)∨(J.go i H∧∃N:St→Hp→Prop,(∀σ' H',N σ' H'→∃m',m' <m∧W (i+1) m' σ' H')∧∀x H',J.yld i H x H'→g x σ H' fun σ2 H2=>tb { D with nx:=N,ct:=N,bk:=D.nx } σ2 H2)
def Ay (fp:List Addr) (h:Heap):List (Addr×Obj):=fp.filterMap fun b=>(h.get? b).map fun o=>(b,o)
theorem uv {fp:List Addr} {h:Heap} {b:Addr} {o:Obj} (hb:b∈fp) (e:h.get? b=some o):(b,o)∈Ay fp h:=List.mem_filterMap.mpr ⟨b,hb,by rw [e];rfl⟩
theorem of_pinsAt {fp:List Addr} {h:Heap} {p:Addr×Obj} (hp:p∈Ay fp h):p.1∈fp∧h.get? p.1=some p.2:=by
 obtain⟨b,hb,e⟩:=List.mem_filterMap.mp hp
 cases q:h.get? b with
 | none=>rw [q] at e;cases e
 | some o=>
  rw [q] at e
  have e':(b,o)=p:=Option.some.inj e
  subst e'
  exact⟨hb,q⟩
theorem Inv.pinned {pins:List (Addr×Obj)} {σ:St} {H:Hp} {s:Shared} {fp:List Addr} (I:Inv X pins σ H s) (hf:∀b∈fp,FpOk X pins H b) (ho:∀b∈fp,∃o,s.heap.get? b=some o∧∀v,o.data≠.cell v):Inv X (pins ++ Ay fp s.heap) σ H s:=
 I.pins_of fun p hp=>(List.mem_append.mp hp).elim (fun z=>I.pin p (List.mem_append_right _ z)) fun z=>by
  obtain⟨hb,e⟩:=of_pinsAt z
  obtain⟨f0,f1,f2,_⟩:=hf p.1 hb
  obtain⟨o,e',d⟩:=ho p.1 hb
  rw [e] at e';cases e'
  exact⟨e,f0,f1,f2,d⟩
theorem Inv.unpinned {pins pl:List (Addr×Obj)} {σ:St} {H:Hp} {s:Shared} (I:Inv X (pins ++ pl) σ H s):Inv X pins σ H s:=I.pins_of fun p hp=>I.pin p (List.mem_append_right _ (List.mem_append_left _ hp))
theorem gQ {iter:Expr} {body:List Stmt} {wi:TI} {g:TG} {tb:TS} {pos:Pos} (hp:PassesOwn (model X.prog X.w) X.A X.env X.xe) (hc:X.calm=true) (hi:PI X tg iter wi) (hg:PG X tg g) (hb:PSs X body tb)
  (hs:∀x,foldedSetIterable iter X.env x=pure x:=by intro _;rfl):PS X (.For tg iter body [] pos) (tFor wi g tb):=by
 intro pins s σ H D I h
 refine wpAny_For (thn (hi pins s σ H _ I h) fun v s1 h1=>thn h1 fun itv s2 h2=>?_) hs
 obtain⟨it,fp,tn,J,H2,e,I2,T,st2,f2,W,⟨m0,w0⟩,turn⟩:=h2
 subst e
 have stat:∀{H':Hp},(∀b∈fp,H' b=none)→∀b∈fp,FpOk X pins H' b:=fun hn b hb=>⟨hn b hb,(f2 b hb).2⟩
 refine codeAny_forLoop_any (fun n s'=>∃i σ' H',Inv X pins σ' H' s'∧tn i s'.heap∧(∀b∈fp,H' b=none)∧W i n σ' H') ?_ m0 ⟨0,σ,H2,I2,st2,fun b hb=>(f2 b hb).1,w0⟩
 rintro n s3 ⟨i,σ3,H3,I3,st3,fr3,w3⟩
 rcases turn i n σ3 H3 w3 with ⟨stop,qn⟩ | ⟨go,N,hN,step⟩
 ·refine wpAny_passesOwn hp (thn (T.done X rfl rfl rfl hc i pins s3 σ3 H3 X.xe I3 (stat fr3) st3 stop) fun r s4 hpt=>?_)
  obtain⟨hr,I4⟩:=hpt
  subst hr
  exact wpAny_execs_nil ⟨σ3,H3,I4,qn⟩
 ·refine wpAny_passesOwn hp (thn (T.item X rfl rfl rfl hc i pins s3 σ3 H3 X.xe I3 (stat fr3) st3 go) fun r s4 hpt=>?_)
  obtain⟨u,hr,h4⟩:=hpt
  subst hr
  refine wpAny_passesOwn hp (thn h4 fun _ s5 hpt=>?_)
  obtain⟨x,H5,I5,r5,y5,st5,fr5⟩:=hpt
  have I5':=I5.pinned (stat fr5) (T.obj _ _ st5)
  refine wpAny_passesOwn hp (thn (hg _ s5 σ3 H5 x u _ I5' r5 (step x H5 y5)) fun _ s6 hpt=>?_)
  obtain⟨σ6,H6,I6,q6⟩:=hpt
  refine wpAny_passesOwn hp (thn (hb _ s6 σ6 H6 _ I6 q6) fun f s7 q7=>?_)
  have again:∀{σ7:St} {H7:Hp},Inv X (pins ++ Ay fp s5.heap) σ7 H7 s7→N σ7 H7→∃m,m <n∧∃i σ' H',Inv X pins σ' H' s7∧tn i s7.heap∧(∀b∈fp,H' b=none)∧W i m σ' H':=fun {σ7 H7} I7 n7=>by
   obtain⟨m',hm,w7⟩:=hN σ7 H7 n7
   refine⟨m',hm,i+1,σ7,H7,I7.unpinned,T.keep _ _ _ st5 fun b hb o e=>(I7.pin (b,o) (List.mem_append_right _ (List.mem_append_right _ (uv hb e)))).1,fun b hb=>?_,w7⟩
   obtain⟨o,e,d⟩:=T.obj _ _ st5 b hb
   exact(I7.pin (b,o) (List.mem_append_right _ (List.mem_append_right _ (uv hb e)))).2.1
  cases f with
  | next=>obtain⟨σ7,H7,I7,n7⟩:=q7;exact again I7 n7
  | cont=>obtain⟨σ7,H7,I7,n7⟩:=q7;exact again I7 n7
  | brk=>obtain⟨σ7,H7,I7,q7⟩:=q7;exact⟨σ7,H7,I7.unpinned,q7⟩
  | ret v=>obtain⟨x7,σ7,H7,I7,r7,q7⟩:=q7;exact⟨x7,σ7,H7,I7.unpinned,r7,q7⟩
end
theorem nH {K:PySem.W.Frag} {a:Addr} {xs:List V} {g:TG} {tb:TS} {D:Ends} {σ:St} {H:Hp} (Pv:Nat→St→Hp→Prop) (h0:Pv 0 σ H) (hl:∀i σ H,i≤xs.length→Pv i σ H→SqL K H a xs)
  (hs:∀i x σ H,xs[i]?=some x→Pv i σ H→g x σ H fun σ2 H2=>tb { D with nx:=Pv (i+1),ct:=Pv (i+1),bk:=D.nx } σ2 H2) (hd:∀σ H,Pv xs.length σ H→D.nx σ H):
  ∃W:Nat→Nat→St→Hp→Prop,(∃m,W 0 m σ H)∧∀i m σ H,W i m σ H→
   ((Itl K a).stop i H∧D.nx σ H)∨((Itl K a).go i H∧∃N:St→Hp→Prop,(∀σ' H',N σ' H'→∃m',m' <m∧W (i+1) m' σ' H')∧∀x H',(Itl K a).yld i H x H'→g x σ H' fun σ2 H2=>tb { D with nx:=N,ct:=N,bk:=D.nx } σ2 H2):=by
 refine⟨fun i m σ H=>m=xs.length - i∧i≤xs.length∧Pv i σ H,⟨xs.length,by simp,Nat.zero_le _,h0⟩,?_⟩
 rintro i m σ H ⟨rfl,hi,p⟩
 have q:=hl i σ H hi p
 by_cases hlt:i <xs.length
 ·refine .inr ⟨⟨xs,xs[i],q,by simp [hlt]⟩,Pv (i+1),fun σ' H' p'=>⟨xs.length - (i+1),by omega,rfl,hlt,p'⟩,fun x H' y=>?_⟩
  obtain⟨e,y⟩:=y
  subst e
  exact hs i x σ _ (y xs q) p
 ·have e:i=xs.length:=by omega
  subst e
  exact .inl ⟨⟨xs,q,Nat.le_refl _⟩,hd σ H p⟩
theorem for_tup {K:PySem.W.Frag} {a:Addr} {xs:List V} {g:TG} {tb:TS} {D:Ends} {σ:St} {H:Hp} (Pv:Nat→St→Hp→Prop) (h0:Pv 0 σ H) (hl:∀i σ H,i≤xs.length→Pv i σ H→SqT K H a xs)
  (hs:∀i x σ H,xs[i]?=some x→Pv i σ H→g x σ H fun σ2 H2=>tb { D with nx:=Pv (i+1),ct:=Pv (i+1),bk:=D.nx } σ2 H2) (hd:∀σ H,Pv xs.length σ H→D.nx σ H):
  ∃W:Nat→Nat→St→Hp→Prop,(∃m,W 0 m σ H)∧∀i m σ H,W i m σ H→
   ((Itt K a).stop i H∧D.nx σ H)∨((Itt K a).go i H∧∃N:St→Hp→Prop,(∀σ' H',N σ' H'→∃m',m' <m∧W (i+1) m' σ' H')∧∀x H',(Itt K a).yld i H x H'→g x σ H' fun σ2 H2=>tb { D with nx:=N,ct:=N,bk:=D.nx } σ2 H2):=by
 refine⟨fun i m σ H=>m=xs.length - i∧i≤xs.length∧Pv i σ H,⟨xs.length,by simp,Nat.zero_le _,h0⟩,?_⟩
 rintro i m σ H ⟨rfl,hi,p⟩
 have q:=hl i σ H hi p
 by_cases hlt:i <xs.length
 ·refine .inr ⟨⟨xs,xs[i],q,by simp [hlt]⟩,Pv (i+1),fun σ' H' p'=>⟨xs.length - (i+1),by omega,rfl,hlt,p'⟩,fun x H' y=>?_⟩
  obtain⟨e,y⟩:=y
  subst e
  exact hs i x σ _ (y xs q) p
 ·have e:i=xs.length:=by omega
  subst e
  exact .inl ⟨⟨xs,q,Nat.le_refl _⟩,hd σ H p⟩
theorem ww {lo:Int} {n:Nat} {g:TG} {tb:TS} {D:Ends} {σ:St} {H:Hp} (Pv:Nat→St→Hp→Prop) (h0:Pv 0 σ H)
  (hs:∀i σ H,i <n→Pv i σ H→g (.int (lo+i)) σ H fun σ2 H2=>tb { D with nx:=Pv (i+1),ct:=Pv (i+1),bk:=D.nx } σ2 H2) (hd:∀σ H,Pv n σ H→D.nx σ H):
  ∃W:Nat→Nat→St→Hp→Prop,(∃m,W 0 m σ H)∧∀i m σ H,W i m σ H→
   ((Itr lo n).stop i H∧D.nx σ H)∨((Itr lo n).go i H∧∃N:St→Hp→Prop,(∀σ' H',N σ' H'→∃m',m' <m∧W (i+1) m' σ' H')∧∀x H',(Itr lo n).yld i H x H'→g x σ H' fun σ2 H2=>tb { D with nx:=N,ct:=N,bk:=D.nx } σ2 H2):=by
 refine⟨fun i m σ H=>m=n - i∧i≤n∧Pv i σ H,⟨n,by simp,Nat.zero_le _,h0⟩,?_⟩
 rintro i m σ H ⟨rfl,hi,p⟩
 by_cases hlt:i <n
 ·refine .inr ⟨hlt,Pv (i+1),fun σ' H' p'=>⟨n - (i+1),by omega,rfl,hlt,p'⟩,fun x H' y=>?_⟩
  obtain⟨e,y⟩:=y
  subst e y
  exact hs i σ _ hlt p
 ·have e:i=n:=by omega
  subst e
  exact .inl ⟨Nat.le_refl _,hd σ H p⟩
theorem Bq {c:TT} {tb:TS} {D:Ends} {σ:St} {H:Hp} (Pv:St→Hp→Prop) (μ:St→Hp→Nat) (h0:Pv σ H)
  (hs:∀σ H,Pv σ H→c σ H fun b H1=>if b=true then tb { D with nx:=fun σ' H'=>Pv σ' H'∧μ σ' H' <μ σ H,ct:=fun σ' H'=>Pv σ' H'∧μ σ' H' <μ σ H,bk:=D.nx } σ H1 else D.nx σ H1)
  (mono:∀σ H Q Q',(∀b H1,Q b H1→Q' b H1)→c σ H Q→c σ H Q'):tWhile c tb D σ H:=by
 refine⟨fun m σ H=>m=μ σ H∧Pv σ H,⟨_,rfl,h0⟩,?_⟩
 rintro m σ H ⟨rfl,p⟩
 refine mono σ H _ _ (fun b H1 q=>?_) (hs σ H p)
 cases b with
 | true=>exact⟨_,fun σ' H' ⟨p',l⟩=>⟨_,l,rfl,p'⟩,q⟩
 | false=>exact q
end L2
namespace L2
open PySem PySem.Spec PyProof.Rows
abbrev R2:=V→V→Hp→VK→Prop
def OpR (X:Cx) (f:Value→Value→Sem Value) (r:R2):Prop:=
 ∀(pins:List (Addr×Obj)) (s:Shared) (σ:St) (H:Hp) (x y:V) (v u:Value) (Q:VK),Inv X pins σ H s→RelV x v→RelV y u→r x y H Q→
  wpAny (model X.prog X.w) X.A (f v u) (EP X pins σ Q) X.xe s
def qK (X:Cx) (f:Value) (r:List V→Hp→VK→Prop):Prop:=
 ∀(pins:List (Addr×Obj)) (s:Shared) (σ:St) (H:Hp) (xs:List V) (us:List Value) (Q:VK),Inv X pins σ H s→Vals xs us→r xs H Q→
  wpAny (model X.prog X.w) X.A (call f us) (EP X pins σ Q) X.xe s
def tOp (r:R2) (ta tb:TE):TE:=fun σ H Q=>ta σ H fun x H1=>tb σ H1 fun y H2=>r x y H2 Q
def rI (C:Int→Int→Prop) (g:Int→Int→V):R2:=fun x y H Q=>∃i j,x=.int i∧y=.int j∧C i j∧Q (g i j) H
def rI0 (g:Int→Int→V):R2:=fun x y H Q=>∃i j,x=.int i∧y=.int j∧Q (g i j) H
section
variable {X:Cx} {a b c:Expr} {ta tb tc:TE} {pos:Pos}
theorem binT (ha:PE X a ta) (hb:PE X b tb) {pins:List (Addr×Obj)} {s:Shared} {σ:St} {H:Hp} {R:V→V→Hp→Prop} (I:Inv X pins σ H s)
  (h:ta σ H fun x H1=>tb σ H1 fun y H2=>R x y H2) {Q:Value→Shared→Prop} {f:Value→Value→Sem Value}
  (hf:∀v u s2 x y H2,Inv X pins σ H2 s2→RelV x v→RelV y u→R x y H2→wpAny (model X.prog X.w) X.A (f v u) Q X.xe s2):
  wpAny (model X.prog X.w) X.A (eval a X.env) (fun v s₁=>wpAny (model X.prog X.w) X.A (eval b X.env) (fun u s₂=>wpAny (model X.prog X.w) X.A (f v u) Q X.xe s₂) X.xe s₁) X.xe s:=by
 refine thn (ha pins s σ H _ I h) fun v s1 hpt=>?_
 obtain⟨x,H1,I1,r1,q1⟩:=hpt
 refine thn (hb pins s1 σ H1 _ I1 q1) fun u s2 hpt=>?_
 obtain⟨y,H2,I2,r2,q2⟩:=hpt
 exact hf v u s2 x y H2 I2 r1 r2 q2
theorem bh {op:Operator} {r:R2} (ho:OpR X (binaryOp op) r) (ha:PE X a ta) (hb:PE X b tb):PE X (.BinOp a op b pos) (tOp r ta tb):=by
 intro pins s σ H Q I h
 exact wpAny_BinOp (binT ha hb I h fun v u s2 x y H2 I2 rx ry q=>ho pins s2 σ H2 x y v u Q I2 rx ry q)
theorem opI {f:Value→Value→Sem Value} {C:Int→Int→Prop} {g:Int→Int→Int}
  (rule:∀(i j:Int) (t u:Tok) (s:Shared) (Q:Value→Shared→Prop) (E:Value→Shared→Prop),C i j→Q (.int (g i j) s.toks) { s with toks:=s.toks+1 }→wpAny (model X.prog X.w) X.A (f (.int i t) (.int j u)) Q E s):
  OpR X f (rI C fun i j=>.int (g i j)):=by
 intro pins s σ H x y v u Q I rx ry h
 obtain⟨i,j,rfl,rfl,hc,q⟩:=h
 obtain⟨t,rfl⟩:=rx
 obtain⟨t',rfl⟩:=ry
 exact rule i j t t' s _ _ hc ⟨.int (g i j),H,I.tok _,⟨_,rfl⟩,q⟩
theorem opI0 {f:Value→Value→Sem Value} {g:Int→Int→Int}
  (rule:∀(i j:Int) (t u:Tok) (s:Shared) (Q:Value→Shared→Prop) (E:Value→Shared→Prop),Q (.int (g i j) s.toks) { s with toks:=s.toks+1 }→wpAny (model X.prog X.w) X.A (f (.int i t) (.int j u)) Q E s):
  OpR X f (rI0 fun i j=>.int (g i j)):=by
 intro pins s σ H x y v u Q I rx ry h
 obtain⟨i,j,rfl,rfl,q⟩:=h
 obtain⟨t,rfl⟩:=rx
 obtain⟨t',rfl⟩:=ry
 exact rule i j t t' s _ _ ⟨.int (g i j),H,I.tok _,⟨_,rfl⟩,q⟩
theorem opB0 {f:Value→Value→Sem Value} {g:Int→Int→Bool}
  (rule:∀(i j:Int) (t u:Tok) (s:Shared) (Q:Value→Shared→Prop) (E:Value→Shared→Prop),Q (.bool (g i j)) s→wpAny (model X.prog X.w) X.A (f (.int i t) (.int j u)) Q E s):
  OpR X f (rI0 fun i j=>.bl (g i j)):=by
 intro pins s σ H x y v u Q I rx ry h
 obtain⟨i,j,rfl,rfl,q⟩:=h
 obtain⟨t,rfl⟩:=rx
 obtain⟨t',rfl⟩:=ry
 exact rule i j t t' s _ _ ⟨.bl (g i j),H,I,rfl,q⟩
def CPow (i j:Int):Prop:=0≤j∧j≤1000000∧i.natAbs <2 ^ 64
theorem dN:OpR X (binaryOp .Add) (rI0 fun i j=>.int (i+j)):=opI0 fun _ _ _ _ _ _ _ q=>add_int q
theorem tV:OpR X (binaryOp .Sub) (rI0 fun i j=>.int (i - j)):=opI0 fun _ _ _ _ _ _ _ q=>sub_int q
theorem cQ:OpR X (binaryOp .Mod) (rI (fun _ j=>0 <j) fun i j=>.int (i % j)):=opI fun i j _ _ _ _ _ hc q=>by
 have h1:(0:Int) <j:=hc
 exact mod_int' (by omega) (by rw [Int.fmod_eq_emod_of_nonneg i (by omega)];exact q)
theorem op_pow:OpR X (binaryOp .Pow) (rI CPow fun i j=>.int (i ^ j.toNat)):=opI fun _ _ _ _ _ _ _ hc q=>pow_int_small hc.1 hc.2.1 hc.2.2 q
theorem iop_sub:OpR X (inplaceOp .Sub) (rI0 fun i j=>.int (i - j)):=opI0 fun _ _ _ _ _ _ _ q=>isub_int q
end
def scal:V→V→Bool
 | .non,.non=>true | .non,.int _=>true | .int _,.non=>true | .non,.bl _=>true | .bl _,.non=>true | .non,.str _=>true | .str _,.non=>true
 | .int _,.int _=>true | .bl _,.bl _=>true | .str _,.str _=>true | .byt _,.byt _=>true
 | .int _,.str _=>true | .str _,.int _=>true | .bl _,.str _=>true | .str _,.bl _=>true
 | _,_=>false
def rEq:R2:=fun x y H Q=>scal x y=true∧Q (.bl (decide (x=y))) H
def rNe:R2:=fun x y H Q=>scal x y=true∧Q (.bl (!decide (x=y))) H
theorem dec_int {i j:Int}:decide (V.int i=V.int j)=(i == j):=by
 rw [Bool.eq_iff_iff]
 simp
theorem dec_bl {i j:Bool}:decide (V.bl i=V.bl j)=(i == j):=by
 rw [Bool.eq_iff_iff]
 simp
theorem dec_str {i j:Str}:decide (V.str i=V.str j)=(i == j):=by
 rw [Bool.eq_iff_iff]
 simp
theorem dec_byt {i j:Array UInt8}:decide (V.byt i=V.byt j)=(i.toList == j.toList):=by
 rw [Bool.eq_iff_iff]
 cases i
 cases j
 simp
section
variable {X:Cx} {a b c:Expr} {ta tb tc:TE} {pos:Pos}
theorem cM {pins:List (Addr×Obj)} {σ:St} {H:Hp} {s:Shared} {Q:VK} {k k':Bool} (I:Inv X pins σ H s) (q:Q (.bl k) H) (e:k=k'):EP X pins σ Q (.bool k') s:=by
 subst e
 exact⟨.bl k,H,I,rfl,q⟩
theorem jd:OpR X (compareOp .Eq) rEq:=by
 intro pins s σ H x y v u Q I rx ry h
 obtain⟨hs,q⟩:=h
 cases x with
 | non=>
  cases rx
  cases y with
  | non=>cases ry;exact PySem.EqNone.eq_none_none (cM I q (by simp))
  | bl j=>cases ry;exact PySem.EqNone.eq_none_bool (cM I q (by simp))
  | int j=>obtain⟨t',rfl⟩:=ry;exact PySem.EqNone.eq_none_int (cM I q (by simp))
  | str j=>obtain⟨t',rfl⟩:=ry;exact PySem.EqNone.eq_none_str (cM I q (by simp))
  | _=>exact absurd (show false=true from hs) Bool.false_ne_true
 | bl i=>
  cases rx
  cases y with
  | non=>cases ry;exact PySem.EqNone.eq_bool_none (cM I q (by simp))
  | bl j=>cases ry;exact eq_bool (cM I q dec_bl)
  | str j=>obtain⟨t',rfl⟩:=ry;exact PySem.EqMixed.eq_bool_str (cM I q (by simp))
  | _=>exact absurd (show false=true from hs) Bool.false_ne_true
 | int i=>
  obtain⟨t,rfl⟩:=rx
  cases y with
  | non=>cases ry;exact PySem.EqNone.eq_int_none (cM I q (by simp))
  | int j=>obtain⟨t',rfl⟩:=ry;exact eq_int (cM I q dec_int)
  | str j=>obtain⟨t',rfl⟩:=ry;exact PySem.EqMixed.eq_int_str (cM I q (by simp))
  | _=>exact absurd (show false=true from hs) Bool.false_ne_true
 | str i=>
  obtain⟨t,rfl⟩:=rx
  cases y with
  | non=>cases ry;exact PySem.EqNone.eq_str_none (cM I q (by simp))
  | bl j=>cases ry;exact PySem.EqMixed.eq_str_bool (cM I q (by simp))
  | int j=>obtain⟨t',rfl⟩:=ry;exact PySem.EqMixed.eq_str_int (cM I q (by simp))
  | str j=>obtain⟨t',rfl⟩:=ry;exact eq_str (cM I q dec_str)
  | _=>exact absurd (show false=true from hs) Bool.false_ne_true
 | byt i=>
  obtain⟨t,rfl⟩:=rx
  cases y with
  | byt j=>obtain⟨t',rfl⟩:=ry;exact PySem.W.eq_bytes (cM I q dec_byt)
  | _=>exact absurd (show false=true from hs) Bool.false_ne_true
 | _=>cases y <;> exact absurd (show false=true from hs) Bool.false_ne_true
theorem op_ne:OpR X (compareOp .NotEq) rNe:=by
 intro pins s σ H x y v u Q I rx ry h
 obtain⟨hs,q⟩:=h
 cases x with
 | non=>
  cases rx
  cases y with
  | non=>cases ry;exact PySem.EqNone.ne_none_none (cM I q (by simp))
  | bl j=>cases ry;exact PySem.EqNone.ne_none_bool (cM I q (by simp))
  | int j=>obtain⟨t',rfl⟩:=ry;exact PySem.EqNone.ne_none_int (cM I q (by simp))
  | str j=>obtain⟨t',rfl⟩:=ry;exact PySem.EqNone.ne_none_str (cM I q (by simp))
  | _=>exact absurd (show false=true from hs) Bool.false_ne_true
 | bl i=>
  cases rx
  cases y with
  | non=>cases ry;exact PySem.EqNone.ne_bool_none (cM I q (by simp))
  | bl j=>cases ry;exact ne_bool (cM I q (congrArg not dec_bl))
  | str j=>obtain⟨t',rfl⟩:=ry;exact PySem.EqMixed.ne_bool_str (cM I q (by simp))
  | _=>exact absurd (show false=true from hs) Bool.false_ne_true
 | int i=>
  obtain⟨t,rfl⟩:=rx
  cases y with
  | non=>cases ry;exact PySem.EqNone.ne_int_none (cM I q (by simp))
  | int j=>obtain⟨t',rfl⟩:=ry;exact ne_int (cM I q (congrArg not dec_int))
  | str j=>obtain⟨t',rfl⟩:=ry;exact PySem.EqMixed.ne_int_str (cM I q (by simp))
  | _=>exact absurd (show false=true from hs) Bool.false_ne_true
 | str i=>
  obtain⟨t,rfl⟩:=rx
  cases y with
  | non=>cases ry;exact PySem.EqNone.ne_str_none (cM I q (by simp))
  | bl j=>cases ry;exact PySem.EqMixed.ne_str_bool (cM I q (by simp))
  | int j=>obtain⟨t',rfl⟩:=ry;exact PySem.EqMixed.ne_str_int (cM I q (by simp))
  | str j=>obtain⟨t',rfl⟩:=ry;exact ne_str (cM I q (congrArg not dec_str))
  | _=>exact absurd (show false=true from hs) Bool.false_ne_true
 | byt i=>
  obtain⟨t,rfl⟩:=rx
  cases y with
  | byt j=>obtain⟨t',rfl⟩:=ry;exact PySem.W.ne_bytes (cM I q (congrArg not dec_byt))
  | _=>exact absurd (show false=true from hs) Bool.false_ne_true
 | _=>cases y <;> exact absurd (show false=true from hs) Bool.false_ne_true
theorem wQ:OpR X (compareOp .Lt) (rI0 fun i j=>.bl (decide (i <j))):=opB0 fun _ _ _ _ _ _ _ q=>lt_int q
theorem uG:OpR X (compareOp .LtE) (rI0 fun i j=>.bl (decide (i≤j))):=opB0 fun _ _ _ _ _ _ _ q=>le_int q
theorem op_gt:OpR X (compareOp .Gt) (rI0 fun i j=>.bl (decide (j <i))):=opB0 fun _ _ _ _ _ _ _ q=>gt_int q
theorem zx:OpR X (compareOp .In) (fun x y H Q=>∃i j,x=.str i∧y=.str j∧Q (.bl (!(Builtin.Str.occurrences j i 0 j.length 1).isEmpty)) H):=by
 intro pins s σ H x y v u Q I rx ry h
 obtain⟨i,j,rfl,rfl,q⟩:=h
 obtain⟨t,rfl⟩:=rx
 obtain⟨t',rfl⟩:=ry
 exact in_str (cM I q rfl)
theorem bU (b:Expr) {op:CmpOp} (h:op≠.In:=by decide) (h2:op≠.NotIn:=by decide):behindInMarks op b=false:=by
 have e1:(op == CmpOp.In)=false:=by cases op <;> first | rfl | exact absurd rfl h
 have e2:(op == CmpOp.NotIn)=false:=by cases op <;> first | rfl | exact absurd rfl h2
 cases b <;> simp [behindInMarks,e1,e2]
theorem oV {op:CmpOp} {r:R2} (ho:OpR X (compareOp op) r) (ha:PE X a ta) (hb:PE X b tb) (hm:behindInMarks op b=false):PE X (.Compare a [op] [b] pos) (tOp r ta tb):=by
 intro pins s σ H Q I h
 exact wpAny_Compare1 (binT ha hb I h fun v u s2 x y H2 I2 rx ry q=>ho pins s2 σ H2 x y v u Q I2 rx ry q) hm
def tTest (t:TE):TT:=fun σ H Q=>t σ H fun x H'=>∃k,x=.bl k∧Q k H'
theorem bz {op:CmpOp} {r:R2} (ho:OpR X (compareOp op) r) (ha:PE X a ta) (hb:PE X b tb) (hm:behindInMarks op b=false):PT X (.Compare a [op] [b] pos) (tTest (tOp r ta tb)):=by
 intro pins s σ H Q I h
 refine wpAny_isTrue_Compare1 (thn (ha pins s σ H _ I h) fun v s1 ⟨x,H1,I1,r1,q1⟩=>thn (hb pins s1 σ H1 _ I1 q1) fun u s2 ⟨y,H2,I2,r2,q2⟩=>
  thn (ho pins s2 σ H2 x y v u _ I2 r1 r2 q2) fun c s3 ⟨z,H3,I3,r3,k,e,q3⟩=>?_) hm
 subst e
 cases r3
 exact wpAny_truthy_bool ⟨H3,I3,q3⟩
def tChain (r r':R2) (ta tb tc:TE):TE:=fun σ H Q=>ta σ H fun x H1=>tb σ H1 fun y H2=>r x y H2 fun z H3=>∃k,z=.bl k∧
 (if k=true then tc σ H3 fun w' H4=>r' y w' H4 Q else Q (.bl false) H3)
theorem pe_chain {op op':CmpOp} {r r':R2} (ho:OpR X (compareOp op) r) (ho':OpR X (compareOp op') r') (ha:PE X a ta) (hb:PE X b tb) (hc:PE X c tc)
  (hm:lastMarks [op,op'] [b,c]=false:=by with_unfolding_all rfl):PE X (.Compare a [op,op'] [b,c] pos) (tChain r r' ta tb tc):=by
 intro pins s σ H Q I h
 refine Compare_chain (thn (ha pins s σ H _ I h) fun v s1 ⟨x,H1,I1,r1,q1⟩=>chain_link (thn (hb pins s1 σ H1 _ I1 q1) fun u s2 ⟨y,H2,I2,r2,q2⟩=>
  thn (ho pins s2 σ H2 x y v u _ I2 r1 r2 q2) fun d s3 ⟨z,H3,I3,r3,k,e,q3⟩=>?_)) hm
 subst e
 cases r3
 refine wpAny_truthy_bool ?_
 cases k with
 | false=>exact ite_ff ⟨.bl false,H3,I3,rfl,q3⟩
 | true=>exact ite_tt (chain_last (thn (hc pins s3 σ H3 _ I3 q3) fun w' s4 ⟨z',H4,I4,r4,q4⟩=>ho' pins s4 σ H4 y z' u w' Q I4 r2 r4 q4))
theorem yr {op op':CmpOp} {r r':R2} (ho:OpR X (compareOp op) r) (ho':OpR X (compareOp op') r') (ha:PE X a ta) (hb:PE X b tb) (hc:PE X c tc)
  (hm:lastMarks [op,op'] [b,c]=false:=by with_unfolding_all rfl):PT X (.Compare a [op,op'] [b,c] pos) (tTest (tChain r r' ta tb tc)):=by
 intro pins s σ H Q I h
 refine isTrue_chain (thn (ha pins s σ H _ I h) fun v s1 ⟨x,H1,I1,r1,q1⟩=>test_link (thn (hb pins s1 σ H1 _ I1 q1) fun u s2 ⟨y,H2,I2,r2,q2⟩=>
  thn (ho pins s2 σ H2 x y v u _ I2 r1 r2 q2) fun d s3 ⟨z,H3,I3,r3,k,e,q3⟩=>?_)) hm
 subst e
 cases r3
 refine wpAny_truthy_bool ?_
 cases k with
 | false=>
  obtain⟨k',e',q'⟩:=q3
  cases e'
  exact ite_ff ⟨H3,I3,q'⟩
 | true=>
  refine ite_tt (test_last (thn (hc pins s3 σ H3 _ I3 q3) fun w' s4 ⟨z',H4,I4,r4,q4⟩=>thn (ho' pins s4 σ H4 y z' u w' _ I4 r2 r4 q4) fun d' s5 hpt=>?_))
  obtain⟨z2,H5,I5,r5,k2,e2,q5⟩:=hpt
  subst e2
  cases r5
  exact wpAny_truthy_bool ⟨H5,I5,q5⟩
theorem line63:(sizeLine:Nat) <2 ^ 63:=by rw [sizeLine_eq];decide
theorem w5:OpR X (binaryOp .Add) (fun x y H Q=>∃i j,x=.str i∧y=.str j∧i.length+j.length≤sizeLine∧Q (.str (i ++ j)) H):=by
 intro pins s σ H x y v u Q I rx ry h
 obtain⟨i,j,rfl,rfl,hz,q⟩:=h
 obtain⟨t,rfl⟩:=rx
 obtain⟨t',rfl⟩:=ry
 exact add_str (fun t' tk=>⟨.str (i ++ j),H,I.tok _,⟨_,rfl⟩,q⟩) hz
theorem vals1 {x:V} {us:List Value} (r:Vals [x] us):∃u,us=[u]∧RelV x u:=by
 cases r with
 | cons r1 r2=>cases r2;exact⟨_,rfl,r1⟩
theorem vals2 {x y:V} {us:List Value} (r:Vals [x,y] us):∃u w',us=[u,w']∧RelV x u∧RelV y w':=by
 cases r with
 | cons r1 r2=>
  cases r2 with
  | cons r3 r4=>cases r4;exact⟨_,_,rfl,r1,r3⟩
theorem zb (hc:X.calm=true):qK X (.builtin "max") (fun xs H Q=>∃i j,xs=[.int i,.int j]∧Q (.int (if j >i then j else i)) H):=by
 intro pins s σ H xs us Q I r h
 obtain⟨i,j,rfl,q⟩:=h
 obtain⟨u,w',rfl,⟨t,rfl⟩,⟨t',rfl⟩⟩:=vals2 r
 refine max_two_ints (I.ok.hd hc) fun h' tk k=>⟨_,H,I.kept k,?_,q⟩
 by_cases hj:j >i
 ·rw [if_pos hj,if_pos hj];exact⟨_,rfl⟩
 ·rw [if_neg hj,if_neg hj];exact⟨_,rfl⟩
theorem xY:qK X (.type "str") (fun xs H Q=>∃i,xs=[.int i]∧i.natAbs.log2 <1920∧Q (.str (toString i)) H):=by
 intro pins s σ H xs us Q I r h
 obtain⟨i,rfl,hz,q⟩:=h
 obtain⟨u,rfl,t,rfl⟩:=vals1 r
 exact PySem.P.str_of_int hz ⟨.str _,H,I.tok _,⟨_,rfl⟩,q⟩
def LenV (K:PySem.W.Frag) (x:V) (H:Hp) (n:Nat):Prop:=
 match x with
 | .str y=>y.length≤sizeLine∧n=y.length
 | .byt y=>y.size≤sizeLine∧n=y.size
 | .ref p=>(∃xs,SqL K H p xs∧n=xs.length)∨∃xs,SqT K H p xs∧n=xs.length
 | _=>False
theorem cj:qK X (.builtin "len") (fun xs H Q=>∃x n,xs=[x]∧LenV X.K x H n∧Q (.int n) H):=by
 intro pins s σ H xs us Q I r h
 obtain⟨x,n,rfl,e,q⟩:=h
 obtain⟨u,rfl,rx⟩:=vals1 r
 have hl:=line63
 have hs:sizeLine=16777216:=sizeLine_eq
 cases x with
 | str y=>
  obtain⟨t,rfl⟩:=rx
  obtain⟨hy,e'⟩:y.length≤sizeLine∧n=y.length:=e
  subst e'
  exact len_str (by omega) ⟨.int _,H,I.tok _,⟨_,rfl⟩,q⟩
 | byt y=>
  obtain⟨t,rfl⟩:=rx
  obtain⟨hy,e'⟩:y.size≤sizeLine∧n=y.size:=e
  subst e'
  exact PySem.W.len_bytes (by omega) ⟨.int _,H,I.tok _,⟨_,rfl⟩,q⟩
 | ref p=>
  cases rx
  have e':(∃xs,SqL X.K H p xs∧n=xs.length)∨∃xs,SqT X.K H p xs∧n=xs.length:=e
  rcases e' with ⟨xs,hx,e'⟩ | ⟨xs,hx,e'⟩
  ·subst e'
   obtain⟨its,r',pl,hz⟩:=I.list hx
   have hlen:=r'.length
   exact Calls.call_len_list pl.isList (by simp only [List.size_toArray];omega) ⟨.int xs.length,H,I.tok _,⟨_,by simp only [List.size_toArray];rw [hlen]⟩,q⟩
  ·subst e'
   obtain⟨its,r',pl,hz⟩:=I.tuple hx
   have hlen:=r'.length
   exact len_tuple pl (by simp only [List.size_toArray];omega) ⟨.int xs.length,H,I.tok _,⟨_,by simp only [List.size_toArray];rw [hlen]⟩,q⟩
 | _=>exact(show False from e).elim
end
end L2
namespace L2
open PySem PySem.Spec PyProof.Rows
structure ObjM (h:Heap) (x dx C:Addr) (mA:Str→Option Value):Prop where
 obj:h.get? x=some (PySem.W.instObj C dx)
 ns:h.Ns1 dx mA
 ne:dx≠x
theorem zB {h:Heap} {dx:Addr} {mA:Str→Option Value} (n:h.Ns1 dx mA):∃od,h.get? dx=some od∧∀name,PySem.W.lookIn name od=some (mA name):=by
 obtain⟨o,es,ep,ho,hd,hk,_,hm⟩:=n
 refine⟨o,ho,fun name=>?_⟩
 have e:=hm name
 unfold nsFind findBy at e
 rw [←Array.find?_toList] at e
 unfold PySem.W.lookIn
 rw [hd]
 dsimp only
 split
 ·rename_i y q
  rw [q] at e
  exact congrArg some e
 ·rename_i q
  rw [q] at e
  have a:es.toList.any (·.refKey)=false:=by
   rw [List.any_eq_false]
   intro y hy
   obtain⟨z,t,hkey⟩:=hk y (Array.mem_toList_iff.mp hy)
   simp [DictEntry.refKey,hkey]
  have a':¬es.toList.any (·.refKey)=true:=by rw [a];exact Bool.false_ne_true
  rw [if_neg a']
  exact congrArg some e
theorem ObjM.look {h:Heap} {x dx C:Addr} {mA:Str→Option Value} (I:ObjM h x dx C mA):∃od,PySem.W.InstAt h x (PySem.W.instObj C dx) C (some od)∧∀name,PySem.W.lookIn name od=some (mA name):=
 let ⟨od,ho,hl⟩:=zB I.ns
 ⟨od,⟨I.obj,rfl,rfl,ho⟩,hl⟩
section
variable {prog:Program} {w:World} {A:Around} {E:Value→Shared→Prop} {s:Shared} {K:PySem.W.Frag} {x dx C f:Addr} {mA:Str→Option Value} {name:Str} {v:Value}
theorem get_map {expr:Bool} {Q:Value→Shared→Prop} (X:K.In s.heap) (I:ObjM s.heap x dx C mA) (hg:PySem.W.plainGet K C name=true) (hh:PySem.W.hasDictIn K C=true)
  (ha:PySem.W.findIn K (.ref C) name=some none) (hv:mA name=some v) (hv':PySem.W.handedIn v=true) (h:Q v { s with toks:=s.toks+1 }):
  wpAny (model prog w) A (getAttr (.ref x) name expr) Q E s:=by
 obtain⟨od,J,hl⟩:=I.look
 exact PySem.W.get_value X J (PySem.W.plainGet_of hg).1 (PySem.W.findObj_own hh ha rfl (by rw [hl,hv])) hv' h
theorem get_meth {pl:Sem Bool} {Q:Value×List Value→Shared→Prop} (X:K.In s.heap) (I:ObjM s.heap x dx C mA) (hg:PySem.W.plainGet K C name=true)
  (hf:PySem.W.findIn K (.ref C) name=some (some (.ref f))) (ht:PySem.W.isFn K (.ref f)=true) (hv:mA name=none) (h:Q (.ref f,[.ref x]) s):
  wpAny (model prog w) A (getMethod (.ref x) name pl) Q E s:=by
 obtain⟨od,J,hl⟩:=I.look
 exact PySem.W.method_fn X J (PySem.W.plainGet_of hg).1 (PySem.W.plainGet_of hg).2 hf (beq_iff_eq.mp ht) (by show(PySem.W.lookIn name od).map (·.isSome)=some false;rw [hl,hv];rfl) h
theorem set_map {ns:List Str} {Q:Unit→Shared→Prop} (X:K.In s.heap) (I:ObjM s.heap x dx C mA)
  (hs:PySem.W.findIn K (.ref C) "__setattr__" =some (some (.builtin "object.__setattr__"))) (hp:PySem.W.plainOver K C=true) (ht:PySem.W.takerIn K C name=some none) (hh:PySem.W.hasDictIn K C=true)
  (hw:PySem.Within mA ns) (hsz:ns.length≤sizeLine)
  (h:∀h',ObjM h' x dx C (fun y=>if y=name then some v else mA y)→Heap.SameBut dx s.heap h'→Q () { s with heap:=h',toks:=s.toks+2 }):
  wpAny (model prog w) A (setAttr (.ref x) name v) Q E s:=by
 obtain⟨od,J,hl⟩:=I.look
 refine PySem.W.set_plain X J hs (PySem.W.osa_open (s:={ s with toks:=s.toks+1 }) (r:=none) X J hp ht fun b=>?_)
 obtain⟨cd,hc,hd'⟩:=PySem.W.any_some hh
 have hx:s.heap.get? x=some ⟨.ref C,some dx,.plain,#[]⟩:=I.obj
 refine wpAny_bind (wpAny_pure (wpAny_bind (wpAny_bind (wpAny_loadPart hx (wpAny_bind (PySem.W.Looks.here (s:={ s with toks:=s.toks+1 }) (PySem.W.looks_clsIn X hc) ?_))))))
 rw [hd']
 refine wpAny_pure (a:=some dx) (wpAny_bind (wpAny_pure (wpAny_bind ?_)))
 refine wpAny_nsSet1 (s:={ s with toks:=s.toks+1 }) I.ns fun h' hn2 hs2=>?_
 obtain⟨oD,esD,epD,hoD,hdD,hcD⟩:=hn2.count (PySem.Within.cons name v hw)
 refine wpAny_bind (wpAny_lookBehind hoD (by rw [hdD];exact pastItsLine_dict (Nat.le_trans hcD (by rw [List.length_cons];omega))) ?_)
 exact wpAny_pure (h _ ⟨(hs2.2 _ (Ne.symm I.ne)).trans I.obj,hn2,I.ne⟩ hs2)
theorem make_map {R:Result→Shared→Prop} {vs:List Value} {kw:List (Str×Value)} (X:K.In s.heap) (hm:PySem.W.makesIn K C=true)
  (hi:PySem.W.findIn K (.ref C) "__init__" =some (some (.ref f))) (hf:PySem.W.typeIn K (.ref f)=some (.type "function"))
  (h:codeAny (model prog w) (A.under (.builtin "type.__call__" ⟨.ref C:: vs,kw⟩)) (.call (.ref f) ⟨.ref (s.heap.objs.size+1):: vs,kw⟩) (PySem.W.InitBack (s.heap.objs.size+1) R)
   { s with heap:=(s.heap.push PySem.W.emptyDict).push (PySem.W.instObj C s.heap.objs.size) }):
  codeAny (model prog w) A (.call (.ref C) ⟨vs,kw⟩) R s:=by
 obtain⟨hh,g,d,t,os⟩:=s
 exact PySem.W.make_core (PySem.W.makes_of X hm) (PySem.W.looks_findIn X hi) (fun self=>PySem.W.bind_fn X self hf) (.inl rfl) h
end
def aY (f:Str) (v:V):List (Str×V)→List (Str×V)
 | []=>[(f,v)]
 | (g,x):: r=>if g=f then(g,v):: r else(g,x):: aY f v r
theorem aM (f g:Str) (v:V):∀fs:List (Str×V),(aY f v fs).lookup g=if g=f then some v else fs.lookup g
 | []=>by
  show List.lookup g [(f,v)]=_
  by_cases h:g=f
  ·have hb:(g == f)=true:=beq_iff_eq.mpr h
   simp only [List.lookup,hb,if_pos h]
  ·have hb:(g == f)=false:=beq_eq_false_iff_ne.mpr h
   simp only [List.lookup,hb,if_neg h]
 | (k,x):: r=>by
  have ih:=aM f g v r
  rw [show aY f v ((k,x):: r)=(if k=f then(k,v):: r else(k,x):: aY f v r) from rfl]
  by_cases hk:k=f
  ·rw [if_pos hk]
   by_cases h:g=k
   ·have hb:(g == k)=true:=beq_iff_eq.mpr h
    simp only [List.lookup,hb,if_pos (h.trans hk)]
   ·have hb:(g == k)=false:=beq_eq_false_iff_ne.mpr h
    simp only [List.lookup,hb,if_neg (fun e:g=f=>h (e.trans hk.symm))]
  ·rw [if_neg hk]
   by_cases h:g=k
   ·have hb:(g == k)=true:=beq_iff_eq.mpr h
    simp only [List.lookup,hb,if_neg (fun e:g=f=>hk (h.symm.trans e))]
   ·have hb:(g == k)=false:=beq_eq_false_iff_ne.mpr h
    simp only [List.lookup,hb]
    exact ih
theorem zG (f:Str) (v:V):∀fs:List (Str×V),f∈(aY f v fs).map (·.1)∧∀g,g∈fs.map (·.1)→g∈(aY f v fs).map (·.1)
 | []=>⟨by simp [aY],fun g h=>by simp at h⟩
 | (k,x):: r=>by
  obtain⟨i1,i2⟩:=zG f v r
  rw [show aY f v ((k,x):: r)=(if k=f then(k,v):: r else(k,x):: aY f v r) from rfl]
  by_cases hk:k=f
  ·rw [if_pos hk]
   subst hk
   exact⟨by simp,fun g h=>by simpa using h⟩
  ·rw [if_neg hk]
   refine⟨?_,fun g h=>?_⟩
   ·rw [List.map_cons]
    exact List.mem_cons_of_mem _ i1
   ·rw [List.map_cons] at h ⊢
    rcases List.mem_cons.mp h with e | e
    ·exact List.mem_cons.mpr (.inl e)
    ·exact List.mem_cons_of_mem _ (i2 g e)
theorem vo (f:Str) (v:V):∀fs:List (Str×V),(aY f v fs).length≤fs.length+1
 | []=>by simp [aY]
 | (k,x):: r=>by
  have ih:=vo f v r
  rw [show aY f v ((k,x):: r)=(if k=f then(k,v):: r else(k,x):: aY f v r) from rfl]
  by_cases hk:k=f
  ·rw [if_pos hk,List.length_cons,List.length_cons];omega
  ·rw [if_neg hk,List.length_cons,List.length_cons];omega
theorem qX.some_of {v:V} {o:Option Value} (r:qX (some v) o):∃u,o=some u∧RelV v u:=by
 cases o with
 | none=>exact(show False from r).elim
 | some u=>exact⟨u,rfl,r⟩
theorem qX.none_of {o:Option Value} (r:qX none o):o=none:=by
 cases o with
 | none=>rfl
 | some u=>exact(show False from r).elim
theorem handed_of {v:V} {u:Value} (r:RelV v u):PySem.W.handedIn u=true:=by
 cases v with
 | non=>cases (show u=Value.none from r);rfl
 | bl b=>cases (show u=Value.bool b from r);rfl
 | int i=>obtain⟨t,e⟩:=(show ∃t,u=Value.int i t from r);cases e;rfl
 | str x=>obtain⟨t,e⟩:=(show ∃t,u=Value.str x t from r);cases e;rfl
 | byt b=>obtain⟨t,e⟩:=(show ∃t,u=Value.bytes b t from r);cases e;rfl
 | flt b=>obtain⟨t,e⟩:=(show ∃t,u=Value.float b t from r);cases e;rfl
 | ref a=>cases (show u=Value.ref a from r);rfl
 | ty n=>cases (show u=Value.type n from r);rfl
section
variable {P:Program} {w:World} {H H':Hp} {h h':Heap} {a C dx:Addr} {fs fs':List (Str×V)}
theorem ins_get (hok:HOk P w H h) (e:H a=some (.ins C dx fs)):∃mA,ObjM h a dx C mA∧(∀f,qX (fs.lookup f) (mA f))∧PySem.Within mA (fs.map (·.1))∧fs.length≤1000∧H dx=some (.own a):=by
 obtain⟨d,z,ne,ob,mA,n,r,q⟩:=(show dC P w H h a (.ins C dx fs) from hok a _ e)
 exact⟨mA,⟨ob,n,ne⟩,r,q,z,d⟩
end
structure Cls (K:PySem.W.Frag) (C:Addr):Prop where
 pg:PySem.W.plainGet K C Str.empty=true
 hd:PySem.W.hasDictIn K C=true
 po:PySem.W.plainOver K C=true
 sa:PySem.W.findIn K (.ref C) "__setattr__" =some (some (.builtin "object.__setattr__"))
theorem Cls.get {K:PySem.W.Frag} {C:Addr} (c:Cls K C) (f:Str):PySem.W.plainGet K C f=true:=c.pg
def bu (K:PySem.W.Frag) (C:Addr) (f:Str):Prop:=PySem.W.findIn K (.ref C) f=some none
theorem bu.taker {K:PySem.W.Frag} {C:Addr} {f:Str} (n:bu K C f):PySem.W.takerIn K C f=some none:=by
 unfold PySem.W.takerIn
 rw [show PySem.W.findIn K (.ref C) f=some none from n]
 rfl
structure Meth (K:PySem.W.Frag) (C:Addr) (m:Str) (f:Addr):Prop where
 at_:PySem.W.findIn K (.ref C) m=some (some (.ref f))
 fn:PySem.W.isFn K (.ref f)=true
 kp:PySem.W.keepIn K (.ref f)=true
section
variable {X:Cx} {pins:List (Addr×Obj)} {σ:St} {H:Hp} {s:Shared} {a C dx:Addr} {fs:List (Str×V)} {f:Str} {v:V} {A:Around} {E:Value→Shared→Prop}
theorem getattr_ok {b:Bool} {Q:Value→Shared→Prop} (I:Inv X pins σ H s) (e:H a=some (.ins C dx fs)) (c:Cls X.K C) (n:bu X.K C f) (l:fs.lookup f=some v)
  (h:∀u s',Inv X pins σ H s'→RelV v u→Q u s'):wpAny (model X.prog X.w) A (getAttr (.ref a) f b) Q E s:=by
 obtain⟨mA,O,r,_,_,_⟩:=ins_get I.hok e
 obtain⟨u,hu,ru⟩:=qX.some_of (v:=v) (o:=mA f) (by rw [←l];exact r f)
 exact get_map I.kIn O (c.get f) c.hd n hu (handed_of ru) (h u _ (I.tok _) ru)
theorem xU {m:Str} {g:Addr} {pl:Sem Bool} {Q:Value×List Value→Shared→Prop} (I:Inv X pins σ H s) (e:H a=some (.ins C dx fs)) (c:Cls X.K C) (k:Meth X.K C m g) (l:fs.lookup m=none)
  (h:Q (.ref g,[.ref a]) s):wpAny (model X.prog X.w) A (getMethod (.ref a) m pl) Q E s:=by
 obtain⟨mA,O,r,_,_,_⟩:=ins_get I.hok e
 have hn:mA m=none:=qX.none_of (by rw [←l];exact r m)
 exact get_meth I.kIn O (c.get m) k.at_ k.fn hn h
theorem setattr_ok {y:V} {u:Value} {Q:Unit→Shared→Prop} (I:Inv X pins σ H s) (e:H a=some (.ins C dx fs)) (c:Cls X.K C) (n:bu X.K C f) (hl:fs.length <1000) (ry:RelV y u)
  (h:∀s',Inv X pins σ (upd H a (.ins C dx (aY f y fs))) s'→Q () s'):wpAny (model X.prog X.w) A (setAttr (.ref a) f u) Q E s:=by
 obtain⟨mA,O,r,wi,_,ho⟩:=ins_get I.hok e
 have hz:(fs.map (·.1)).length≤sizeLine:=by rw [List.length_map,sizeLine_eq];omega
 refine set_map I.kIn O c.sa c.po n.taker c.hd wi hz fun h' O' sb=>h _ ?_
 have hd:∃o,h'.get? dx=some o:=let ⟨o,_,_,e',_⟩:=O'.ns;⟨o,e'⟩
 refine I.write (x:=a) (e:=dx) (by rw [e];exact True.intro) (.inr ho) (fun b q hb z=>(sb.2 b hb).trans z) hd ?_
 refine⟨by rw [aH O.ne];exact ho,?_,O.ne,O'.obj,_,O'.ns,fun g=>?_,fun g hg=>?_⟩
 ·have:=vo f y fs;omega
 ·show qX ((aY f y fs).lookup g) (if g=f then some u else mA g)
  rw [aM]
  by_cases q:g=f
  ·rw [if_pos q,if_pos q];exact ry
  ·rw [if_neg q,if_neg q];exact r g
 ·by_cases q:g=f
  ·rw [q];exact(zG f y fs).1
  ·refine(zG f y fs).2 g (wi g fun z=>hg ?_)
   show(if g=f then some u else mA g)=none
   rw [if_neg q];exact z
theorem Inv.made (I:Inv X pins σ H s):Inv X pins σ (upd (upd H s.heap.objs.size (.own (s.heap.objs.size+1))) (s.heap.objs.size+1) (.ins C s.heap.objs.size []))
  { s with heap:=(s.heap.push PySem.W.emptyDict).push (PySem.W.instObj C s.heap.objs.size) }:=by
 have e1:(s.heap.push PySem.W.emptyDict).get? s.heap.objs.size=some PySem.W.emptyDict:=Heap.get?_push_size s.heap rfl
 have e2:((s.heap.push PySem.W.emptyDict).push (PySem.W.instObj C s.heap.objs.size)).get? (s.heap.objs.size+1)=some (PySem.W.instObj C s.heap.objs.size):=by
  have:=Heap.get?_push_size (s.heap.push PySem.W.emptyDict) (o:=PySem.W.instObj C s.heap.objs.size) rfl
  rwa [Heap.size_push] at this
 have e3:(s.heap.push PySem.W.emptyDict).Ns s.heap.objs.size (fun _=>none):=⟨PySem.W.emptyDict,#[],_,e1,rfl,(fun e he=>absurd he (by simp)),fun _=>rfl⟩
 have I1:=I.laid (a:=s.heap.objs.size) (o:=.own (s.heap.objs.size+1)) (h':=s.heap.push PySem.W.emptyDict) (t':=s.toks) (fun b u q=>Heap.get?_push_of_some _ q) (Nat.le_refl _) ⟨_,e1⟩
 refine I1.laid (a:=s.heap.objs.size+1) (o:=.ins C s.heap.objs.size []) (t':=s.toks) (fun b u q=>Heap.get?_push_of_some _ q) (Nat.le_of_eq (Heap.size_push _ _)) ?_
 have ne:s.heap.objs.size≠s.heap.objs.size+1:=Nat.ne_of_lt (Nat.lt_succ_self _)
 refine⟨by rw [aH ne,au],Nat.zero_le _,ne,e2,fun _=>none,(Heap.Ns1.of_empty e3).at fun o q=>Heap.get?_push_of_some _ q,fun _=>True.intro,fun y hy=>absurd rfl hy⟩
theorem attr_of {prog:Program} {w:World} {env:Env} {e:Expr} {f:Str} {pos:Pos} {s:Shared} {Q:Value→Shared→Prop} (hb:attributeBase e f env (eval e env)=eval e env)
  (h:wpAny (model prog w) A (eval e env) (fun o s₁=>wpAny (model prog w) A (getAttr o f true) Q E s₁) E s):wpAny (model prog w) A (eval (.Attribute e f pos) env) Q E s:=
 Attribute_any_ h (by rw [arm_eval_Attribute,hb])
end
def tFld (K:PySem.W.Frag) (ta:TE) (f:Str):TE:=fun σ H Q=>ta σ H fun x H1=>∃a C dx fs v,x=.ref a∧H1 a=some (.ins C dx fs)∧Cls K C∧bu K C f∧fs.lookup f=some v∧Q v H1
def sFld (K:PySem.W.Frag) (ta tv:TE) (f:Str):TS:=fun D σ H=>tv σ H fun y H1=>ta σ H1 fun x H2=>∃a C dx fs,x=.ref a∧H2 a=some (.ins C dx fs)∧Cls K C∧bu K C f∧fs.length <1000∧
 D.nx σ (upd H2 a (.ins C dx (aY f y fs)))
def InOp (X:Cx) (op:Operator) (rd:V→V→Hp→VK→Prop):Prop:=
 ∀(pins:List (Addr×Obj)) (s:Shared) (σ:St) (H:Hp) (x y:V) (u v:Value) (Q:VK),Inv X pins σ H s→RelV x u→RelV y v→rd x y H Q→wpAny (model X.prog X.w) X.A (inplaceOp op u v) (EP X pins σ Q) X.xe s
section
variable {X:Cx} {o e value:Expr} {f:Str} {pos pos' tpos:Pos} {ta tv:TE}
theorem cJ (he:PE X e ta) (hb:attributeBase e f X.env (eval e X.env)=eval e X.env):PE X (.Attribute e f pos) (tFld X.K ta f):=by
 intro pins s σ H Q I h
 refine attr_of hb (thn (he pins s σ H _ I h) fun u s1 hpt=>?_)
 obtain⟨x,H1,I1,rx,a,C,dx,fs,v,ex,ea,c,n,l,q⟩:=hpt
 subst ex
 obtain rfl:u=Value.ref a:=rx
 exact getattr_ok I1 ea c n l fun u' s2 I2 ru=>⟨v,H1,I2,ru,q⟩
theorem uq (ha:PE X o ta) (hv:PE X value tv) (hs:swapsWith value (some (.Attribute o f pos')) pos.line X.env=pure false):PS X (.Assign [.Attribute o f pos'] value pos) (sFld X.K ta tv f):=by
 intro pins s σ H D I h
 refine plainObj_wpAny_Assign_Attribute (thn (hv pins s σ H _ I h) fun u s1 ⟨y,H1,I1,ry,q⟩=>thn (ha pins s1 σ H1 _ I1 q) fun ov s2 hpt=>?_) hs
 obtain⟨x,H2,I2,rx,a,C,dx,fs,ex,ea,c,n,l,q2⟩:=hpt
 subst ex
 obtain rfl:ov=Value.ref a:=rx
 exact setattr_ok I2 ea c n l ry fun s3 I3=>⟨σ,_,I3,q2⟩
end
section
variable {X:Cx} {pins:List (Addr×Obj)} {σ:St} {H:Hp} {s:Shared} {A:Around} {E:Value→Shared→Prop} {Q:Value→Shared→Prop} {c:Value} {b:Bool}
end
end L2
namespace L2
open PySem PySem.Spec PyProof.Rows
structure Room (k:Nat) (A:Around):Prop where
 hd:A.handled=none
 dp:A.depth+3 * k+5 <recursionLimit
 un:A.units+16 * k+200 <cLine
theorem Room.mono {j k:Nat} {A:Around} (r:Room k A) (h:j≤k):Room j A:=⟨r.hd,by have:=r.dp;omega,by have:=r.un;omega⟩
theorem Room.deeper {k:Nat} {A:Around} (r:Room (k+1) A) (env:Env):Room k (A.deeper env):=
 ⟨r.hd,by have:=r.dp;show A.depth+1+3 * k+5 <_;omega,by have:=r.un;show A.units+3+16 * k+200 <_;omega⟩
theorem make_depth {A:Around} {C:Addr} {us:List Value} {kw:List (Str×Value)}:(A.under (.builtin "type.__call__" ⟨.ref C:: us,kw⟩)).depth=A.depth+1:=by
 first | rfl | simp [Around.under,Code.weight,Code.isCreation,Code.isGuard,Code.isCaller,Code.frames,Code.isFrame,guardIds]
theorem make_units {A:Around} {C:Addr} {us:List Value} {kw:List (Str×Value)}:(A.under (.builtin "type.__call__" ⟨.ref C:: us,kw⟩)).units=A.units+1:=by
 first | rfl | simp [Around.under,Code.cUnits,Code.frames,Code.isFrame]
theorem Room.make {k:Nat} {A:Around} (r:Room (k+1) A) (C:Addr) (us:List Value) (kw:List (Str×Value)):Room k (A.under (.builtin "type.__call__" ⟨.ref C:: us,kw⟩)):=
 ⟨r.hd,by have:=r.dp;rw [make_depth];omega,by have:=r.un;rw [make_units];omega⟩
theorem Room.depth {k:Nat} {A:Around} (r:Room k A):A.depth <recursionLimit:=by have:=r.dp;omega
theorem Room.units {k:Nat} {A:Around} (r:Room k A):A.units+64 <cLine:=by have:=r.un;omega
def tNil:TA:=fun _ H Q=>Q [] H
def tCons (ta:TE) (tr:TA):TA:=fun σ H Q=>ta σ H fun x H1=>tr σ H1 fun xs H2=>Q (x:: xs) H2
section
variable {X:Cx} {e:Expr} {es:List Expr} {te:TE} {t:TA} {pos:Pos}
theorem aq:PA X [] tNil:=fun _ _ _ _ H Q I h=>Calls.spliced_nil ⟨[],H,I,.nil,h⟩
theorem aj (ha:PE X e te) (hr:PA X es t) (hs:starEach (e:: es) X.env=(false,eval e X.env):: starEach es X.env:=by rfl):PA X (e:: es) (tCons te t):=by
 intro pos pins s σ H Q I h
 rw [hs]
 show wpAny _ _ (spliced ((false,eval e X.env):: backTo pos (starEach es X.env))) _ _ s
 refine Calls.spliced_cons (thn (ha pins s σ H _ I h) fun u s1 hpt=>?_)
 obtain⟨x,H1,I1,r1,q1⟩:=hpt
 exact thn (hr pos pins s1 σ H1 _ I1 q1) fun us s2 ⟨xs,H2,I2,r2,q2⟩=>⟨x:: xs,H2,I2,.cons r1 r2,q2⟩
def tTup (t:TA):TE:=fun σ H Q=>t σ H fun xs H1=>xs.length≤sizeLine∧∀p,H1 p=none→Q (.ref p) (upd H1 p (.tup xs))
def tLst (t:TA):TE:=fun σ H Q=>t σ H fun xs H1=>xs.length≤sizeLine∧∀p,H1 p=none→Q (.ref p) (upd H1 p (.lst xs))
theorem cV {x1} (h:PA X es t):PE X (.Tuple es x1 pos) (tTup t):=by
 intro pins s σ H Q I hq
 refine wpAny_Tuple_spliced (thn (h pos pins s σ H _ I hq) fun us s1 ⟨xs,H1,I1,r,z,q⟩=>⟨by rw [←r.length];exact z,?_⟩)
 have hf:H1 s1.heap.objs.size=none:=I1.hok.fresh (Nat.le_refl _)
 refine⟨.ref s1.heap.objs.size,upd H1 s1.heap.objs.size (.tup xs),I1.laid (t':=s1.toks) (fun b u e=>Heap.get?_push_of_some _ e) (Nat.le_refl _) ?_,rfl,q _ hf⟩
 exact⟨z,us,r,⟨_,Heap.get?_push_size _ rfl,rfl,_,rfl⟩⟩
theorem bA (h:PA X es t):PE X (.List es pos) (tLst t):=by
 intro pins s σ H Q I hq
 refine wpAny_List_spliced (thn (h pos pins s σ H _ I hq) fun us s1 ⟨xs,H1,I1,r,z,q⟩=>⟨by rw [←r.length];exact z,?_⟩)
 have hf:H1 s1.heap.objs.size=none:=I1.hok.fresh (Nat.le_refl _)
 refine⟨.ref s1.heap.objs.size,upd H1 s1.heap.objs.size (.lst xs),I1.laid (t':=s1.toks) (fun b u e=>Heap.get?_push_of_some _ e) (Nat.le_refl _) ?_,rfl,q _ hf⟩
 exact⟨z,us,0,r,Heap.get?_push_size _ rfl⟩
end
abbrev Sp:=List V→Hp→VK→XK→Prop
abbrev CXT:=List Env→Hp→Shared→XK→Value→Shared→Prop
structure Env0 (P:Program) (w:World) (K:PySem.W.Frag) (mg:Str→Option Value) (base:Heap) (A:Around) (outer:List Env) (s:Shared) (H:Hp):Prop where
 frames:A.frames=some outer
 mod:Mod K mg base
 bs:∀b o,base.get? b=some o→s.heap.get? b=some o∧H b=none
 bsz:base.objs.size≤s.heap.objs.size
 funs:s.heap.FunFrames base outer
 frf:∀b∈frs outer,H b=none
 hok:HOk P w H s.heap
 bare:AllBare s.gens
def CE (outer:List Env) (P:Program) (w:World) (H:Hp) (s:Shared) (Q:VK) (u:Value) (s':Shared):Prop:=
 ∃v H',s'.os=s.os∧AllBare s'.gens∧Un (frs outer) [] H H' s.heap s'.heap∧HOk P w H' s'.heap∧RelV v u∧Q v H'
def CR (CX:CXT) (outer:List Env) (P:Program) (w:World) (H:Hp) (s:Shared) (Q:VK) (E:XK) (r:Result) (s':Shared):Prop:=
 match r with
 | .ok (.ret u)=>CE outer P w H s Q u s'
 | .ok _=>False
 | .error e=>CX outer H s E e s'
structure FnOk (P:Program) (w:World) (K:PySem.W.Frag) (mg:Str→Option Value) (base:Heap) (CX:CXT) (k:Nat) (f:Addr) (fd:FuncData) (ps:List Str) (sp:Sp):Prop where
 len:∀vs H Q E,sp vs H Q E→vs.length=ps.length
 run:∀(A:Around) (outer:List Env) (s:Shared) (H:Hp) (args:Args) (us:List Value) (vs:List V) (Q:VK) (E:XK),Room k A→Env0 P w K mg base A outer s H→BindsTo s fd args (ps.zip us)→Vals vs us→sp vs H Q E→
  codeAny (model P w) A (.call (.ref f) args) (CR CX outer P w H s Q E) s
theorem Env0.make {P:Program} {w:World} {K:PySem.W.Frag} {mg:Str→Option Value} {base:Heap} {A:Around} {outer:List Env} {s:Shared} {H:Hp} (e:Env0 P w K mg base A outer s H) (C:Addr) (us:List Value) (kw:List (Str×Value)):
  Env0 P w K mg base (A.under (.builtin "type.__call__" ⟨.ref C:: us,kw⟩)) outer s H:=⟨by first | exact e.frames | (simpa [Around.under,Code.envs,Code.isFrame,pushEnvs] using e.frames),e.mod,e.bs,e.bsz,e.funs,e.frf,e.hok,e.bare⟩
section
variable {X:Cx} {pins:List (Addr×Obj)} {σ:St} {H:Hp} {s s':Shared}
theorem Inv.env0 (I:Inv X pins σ H s):Env0 X.prog X.w X.K X.mg X.base X.A X.stack s H:=
 ⟨I.ok.frames,I.ok.mod,I.bs,Nat.le_trans I.ok.bsz I.sz,I.stack,I.stkFree,I.hok,I.bare⟩
theorem Inv.after {Q:VK} {u:Value} (I:Inv X pins σ H s) (h:CE X.stack X.prog X.w H s Q u s'):EP X pins σ Q u s':=by
 obtain⟨v,H',os,bare,un,hok,r,q⟩:=h
 obtain⟨hh,g,d,t,os'⟩:=s'
 obtain rfl:os'=s.os:=os
 exact⟨v,H',I.call (h':=hh) (g':=g) (d':=d) (t':=t) (ch:=[]) un hok bare (fun b z=>absurd z (by simp)),r,q⟩
end
def tCall (sp:Sp) (dvs:List V) (E:XK) (t:TA):TE:=fun σ H Q=>t σ H fun vs H1=>sp (vs ++ dvs) H1 Q E
def tMeth (C:Addr) (m:Str) (sp:Sp) (dvs:List V) (E:XK) (ta:TE) (t:TA):TE:=fun σ H Q=>ta σ H fun x H1=>∃a dx fs,x=.ref a∧H1 a=some (.ins C dx fs)∧fs.lookup m=none∧
 t σ H1 fun vs H2=>sp (x:: (vs ++ dvs)) H2 Q E
def tMake (C:Addr) (sp:Sp) (dvs:List V) (E:XK) (t:TA):TE:=fun σ H Q=>t σ H fun vs H1=>∀x dx,H1 x=none→H1 dx=none→dx≠x→
 sp (.ref x:: (vs ++ dvs)) (upd (upd H1 dx (.own x)) x (.ins C dx [])) (fun v H2=>v=.non∧Q (.ref x) H2) E
def Binds (K:PySem.W.Frag) (fd:FuncData) (ps:List Str) (ds:List Value):Prop:=
 ∀(s:Shared) (us:List Value),K.In s.heap→(us ++ ds).length=ps.length→BindsTo s fd ⟨us,[]⟩ (ps.zip (us ++ ds))
theorem Binds.all {K:PySem.W.Frag} {fd:FuncData} {ps:List Str} (h:∀us:List Value,us.length=ps.length→bindArgs fd ⟨us,[]⟩=pure (ps.zip us)):Binds K fd ps []:=fun s us _ hl=>by
 rw [List.append_nil] at hl ⊢
 exact .of_eq (h us hl)
def oO (CX:CXT) (X:Cx) (E:XK):Prop:=∀(pins:List (Addr×Obj)) (σ:St) (H:Hp) (s:Shared) (e:Value) (s':Shared),Inv X pins σ H s→CX X.stack H s E e s'→X.xe e s'
section
variable {X:Cx} {CX:CXT} {k:Nat} {f C:Addr} {fd:FuncData} {ps:List Str} {sp:Sp} {dvs:List V} {ds:List Value} {E:XK} {x m:Str} {p pos apos:Pos} {e o:Expr} {es:List Expr} {ta:TE} {t:TA}
theorem run_fn {pins:List (Addr×Obj)} {σ:St} {H:Hp} {s:Shared} {Q:VK} {us:List Value} {vs:List V} (F:FnOk X.prog X.w X.K X.mg X.base CX k f fd ps sp) (hr:Room k X.A) (hb:Binds X.K fd ps ds) (hd:Vals dvs ds) (hx:oO CX X E)
  (I:Inv X pins σ H s) (r:Vals vs us) (h:sp (vs ++ dvs) H Q E):wpAny (model X.prog X.w) X.A (call (.ref f) us) (EP X pins σ Q) X.xe s:=by
 have r2:Vals (vs ++ dvs) (us ++ ds):=r.append hd
 have hl:(us ++ ds).length=ps.length:=by rw [←r2.length];exact F.len _ _ _ _ h
 refine wpAny_call (codeAny_mono (F.run X.A X.stack s H ⟨us,[]⟩ (us ++ ds) (vs ++ dvs) Q E hr I.env0 (hb s us I.kIn hl) r2 h) fun r s' hq=>?_)
 cases r with
 | error e=>exact hx pins σ H s e s' I hq
 | ok fl=>
  cases fl with
  | ret u=>exact I.after hq
  | next=>exact False.elim hq
  | brk=>exact False.elim hq
  | cont=>exact False.elim hq
theorem aJ (F:FnOk X.prog X.w X.K X.mg X.base CX k f fd ps sp) (hr:Room k X.A) (hg:Gl X x) (hm:X.mg x=some (.ref f)) (hk:PySem.W.keepIn X.K (.ref f)=true) (hb:Binds X.K fd ps ds) (hd:Vals dvs ds) (hx:oO CX X E)
  (ha:PA X (e:: es) t) (hdb:(x == ("__debug__" :Str))=false:=by decide) (he:starEach (e:: es) X.env=(false,eval e X.env):: starEach es X.env:=by rfl) (hpl:(backTo pos (starEach es X.env)).any (·.1)=false:=by rfl):
  PE X (.Call (.Name x p) (e:: es) [] pos) (tCall sp dvs E t):=by
 intro pins s σ H Q I h
 refine wpAny_Call_Name_kw (tU I hg hm ?_ hdb)
 refine PySem.W.callWith_K (h₀:=X.base) I.ok.mod.kin hk (thn (ha pos pins s σ H _ I h) fun us s1 ⟨vs,H1,I1,r,q⟩=>⟨I1.kIn,?_⟩) he hpl
 exact run_fn F hr hb hd hx I1 r q
theorem qj {pl:Sem Bool} (he:PE X o ta) (c:Cls X.K C) (hm:Meth X.K C m f) (F:FnOk X.prog X.w X.K X.mg X.base CX k f fd ps sp) (hr:Room k X.A) (hb:Binds X.K fd ps ds) (hd:Vals dvs ds) (hx:oO CX X E) (ha:PA X (e:: es) t)
  (hst:starEach (e:: es) X.env=(false,eval e X.env):: starEach es X.env:=by rfl) (hpl:(backTo pos (starEach es X.env)).any (·.1)=false:=by rfl)
  (ht:eval (.Call (.Attribute o m apos) (e:: es) [] pos) X.env=(do
   let ov ←eval o X.env
   standAt apos.atName
   let (f,first) ←holding [ov] (getMethod ov m pl)
   callWith pos f first (backTo pos (starEach (e:: es) X.env)) (backToKw pos (keywordEach [] X.env))):=by rfl):
  PE X (.Call (.Attribute o m apos) (e:: es) [] pos) (tMeth C m sp dvs E ta t):=by
 intro pins s σ H Q I h
 refine PySem.W.methodCall_KW (pl:=pl) (thn (he pins s σ H _ I h) fun u s1 hpt=>?_) ht
 obtain⟨x,H1,I1,rx,a,dx,fs,ex,ea,l,q⟩:=hpt
 subst ex
 obtain rfl:u=Value.ref a:=rx
 refine xU I1 ea c hm l ?_
 refine PySem.W.callWith_K (first:=[.ref a]) (h₀:=X.base) I.ok.mod.kin hm.kp (thn (ha pos pins s1 σ H1 _ I1 q) fun us s2 ⟨vs,H2,I2,r,q2⟩=>⟨I2.kIn,?_⟩) hst hpl
 exact run_fn (us:=.ref a:: us) (vs:=.ref a:: vs) F hr hb hd hx I2 (.cons rfl r) q2
theorem lw {pl:Sem Bool} (he:PE X o ta) (c:Cls X.K C) (hm:Meth X.K C m f) (F:FnOk X.prog X.w X.K X.mg X.base CX k f fd ps sp) (hr:Room k X.A) (hb:Binds X.K fd ps ds) (hd:Vals dvs ds) (hx:oO CX X E)
  (ht:eval (.Call (.Attribute o m apos) [] [] pos) X.env=(do
   let ov ←eval o X.env
   standAt apos.atName
   let (f,first) ←holding [ov] (getMethod ov m pl)
   callWith pos f first (backTo pos (starEach [] X.env)) (backToKw pos (keywordEach [] X.env))):=by rfl):
  PE X (.Call (.Attribute o m apos) [] [] pos) (tMeth C m sp dvs E ta tNil):=by
 intro pins s σ H Q I h
 refine PySem.W.methodCall_KW (pl:=pl) (thn (he pins s σ H _ I h) fun u s1 hpt=>?_) ht
 obtain⟨x,H1,I1,rx,a,dx,fs,ex,ea,l,q⟩:=hpt
 subst ex
 obtain rfl:u=Value.ref a:=rx
 refine xU I1 ea c hm l ?_
 exact PySem.W.callWith_K0 (first:=[.ref a]) I1.kIn hm.kp (run_fn (us:=[.ref a]) (vs:=[.ref a]) F hr hb hd hx I1 (.cons rfl .nil) q)
structure Mk (K:PySem.W.Frag) (C f:Addr):Prop where
 makes:PySem.W.makesIn K C=true
 init:PySem.W.findIn K (.ref C) "__init__" =some (some (.ref f))
 fn:PySem.W.isFn K (.ref f)=true
 kp:PySem.W.keepIn K (.ref C)=true
theorem run_make {pins:List (Addr×Obj)} {σ:St} {H:Hp} {s:Shared} {Q:VK} {us:List Value} {vs:List V} (M:Mk X.K C f) (F:FnOk X.prog X.w X.K X.mg X.base CX k f fd ps sp) (hr:Room (k+1) X.A) (hb:Binds X.K fd ps ds) (hd:Vals dvs ds)
  (hx:oO CX X E) (I:Inv X pins σ H s) (r:Vals vs us)
  (h:∀x dx,H x=none→H dx=none→dx≠x→sp (.ref x:: (vs ++ dvs)) (upd (upd H dx (.own x)) x (.ins C dx [])) (fun v H2=>v=.non∧Q (.ref x) H2) E):
  wpAny (model X.prog X.w) X.A (call (.ref C) us) (EP X pins σ Q) X.xe s:=by
 have hq:=h (s.heap.objs.size+1) s.heap.objs.size (I.hok.fresh (Nat.le_succ _)) (I.hok.fresh (Nat.le_refl _)) (Nat.ne_of_lt (Nat.lt_succ_self _))
 have I2:=Inv.made (C:=C) I
 have r2:Vals (V.ref (s.heap.objs.size+1):: (vs ++ dvs)) (Value.ref (s.heap.objs.size+1):: (us ++ ds)):=.cons rfl (r.append hd)
 have hl:(Value.ref (s.heap.objs.size+1):: us ++ ds).length=ps.length:=by
  have e:=r2.length
  rw [F.len _ _ _ _ hq] at e
  exact e.symm
 refine wpAny_call (make_map (f:=f) I.kIn M.makes M.init (beq_iff_eq.mp M.fn) (codeAny_mono (F.run _ X.stack _ _ ⟨Value.ref (s.heap.objs.size+1):: us,[]⟩ (Value.ref (s.heap.objs.size+1):: (us ++ ds)) _ _ E (hr.make C us [])
  (I2.env0.make C us []) (hb _ (Value.ref (s.heap.objs.size+1):: us) I2.kIn hl) r2 hq) fun r s' hq'=>?_))
 cases r with
 | error e=>exact hx pins σ _ _ e s' I2 hq'
 | ok fl=>
  cases fl with
  | ret u=>
   obtain⟨v,H',I3,rv,ev,q3⟩:=I2.after hq'
   subst ev
   exact⟨rv,⟨V.ref (s.heap.objs.size+1),H',I3,rfl,q3⟩⟩
  | next=>exact False.elim hq'
  | brk=>exact False.elim hq'
  | cont=>exact False.elim hq'
theorem jK (M:Mk X.K C f) (F:FnOk X.prog X.w X.K X.mg X.base CX k f fd ps sp) (hr:Room (k+1) X.A) (hg:Gl X x) (hm:X.mg x=some (.ref C)) (hb:Binds X.K fd ps ds) (hd:Vals dvs ds) (hx:oO CX X E)
  (ha:PA X (e:: es) t) (hdb:(x == ("__debug__" :Str))=false:=by decide) (he:starEach (e:: es) X.env=(false,eval e X.env):: starEach es X.env:=by rfl) (hpl:(backTo pos (starEach es X.env)).any (·.1)=false:=by rfl):
  PE X (.Call (.Name x p) (e:: es) [] pos) (tMake C sp dvs E t):=by
 intro pins s σ H Q I h
 refine wpAny_Call_Name_kw (tU I hg hm ?_ hdb)
 refine PySem.W.callWith_K (h₀:=X.base) I.ok.mod.kin M.kp (thn (ha pos pins s σ H _ I h) fun us s1 ⟨vs,H1,I1,r,q⟩=>⟨I1.kIn,?_⟩) he hpl
 exact run_make M F hr hb hd hx I1 r q
end
section
variable {X:Cx} {CX:CXT} {k:Nat} {f C:Addr} {fd:FuncData} {ps ks:List Str} {sp:Sp} {E:XK} {x m:Str} {p pos apos kpos:Pos} {e o:Expr} {es:List Expr} {kws:List Keyword} {te ta:TE} {t tk:TA} {nm:Option Str}
variable {g:List Value→List Value→List Value} {gV:List V→List V→List V}
end
structure FnScope (N P:List Str) (sc:Scope):Prop where
 kind:sc.kind=.function
 co:sc.isCoroutine=false
 gen:sc.isGenerator=false
 nd:N.Nodup
 pre:N.take P.length=P
 par:∀x∈P,sc.names.lookup x=some .local∨sc.names.lookup x=some .cell
 nofree:∀y∈sc.names,y.2≠.free
theorem bindL_out {kindOf:Str→Option NameKind} {x:Str}:∀{binds:List (Str×Value)} {m:Str→Option Value},(∀v,(x,v)∉binds)→bindL kindOf binds m x=m x
 | [],_,_=>rfl
 | (n,v):: r,m,h=>by
  unfold bindL
  rw [bindL_out fun w hw=>h w (List.mem_cons_of_mem _ hw)]
  split
  ·have:x≠n:=by rintro rfl;exact h v List.mem_cons_self
   simp [this]
  ·rfl
theorem bindC_out {kindOf:Str→Option NameKind} {x:Str}:∀{binds:List (Str×Value)} {m:Str→Option Value},(∀v,(x,v)∉binds)→bindC kindOf binds m x=m x
 | [],_,_=>rfl
 | (n,v):: r,m,h=>by
  unfold bindC
  rw [bindC_out fun w hw=>h w (List.mem_cons_of_mem _ hw)]
  split
  ·rfl
  ·have:x≠n:=by rintro rfl;exact h v List.mem_cons_self
   simp [this]
theorem bindL_get {kindOf:Str→Option NameKind} {x:Str} {v:Value}:∀{P:List Str} {vs:List Value} {i:Nat} {m:Str→Option Value},P.Nodup→P[i]?=some x→vs[i]?=some v→kindOf x=some .local→
  bindL kindOf (P.zip vs) m x=some v
 | [],_,_,_,_,h,_,_=>by simp at h
 | _:: _,[],_,_,_,_,h,_=>by simp at h
 | p:: P,w:: vs,0,m,nd,h1,h2,hk=>by
  simp at h1 h2;subst h1;subst h2
  show bindL kindOf ((p,w):: P.zip vs) m p=_
  unfold bindL
  rw [bindL_out fun v hv=>(List.nodup_cons.mp nd).1 (List.of_mem_zip hv).1,if_pos hk]
  simp
 | p:: P,w:: vs,i+1,m,nd,h1,h2,hk=>by
  show bindL kindOf ((p,w):: P.zip vs) m x=_
  unfold bindL
  exact bindL_get (i:=i) (List.nodup_cons.mp nd).2 (by simpa using h1) (by simpa using h2) hk
theorem bindC_get {kindOf:Str→Option NameKind} {x:Str} {v:Value}:∀{P:List Str} {vs:List Value} {i:Nat} {m:Str→Option Value},P.Nodup→P[i]?=some x→vs[i]?=some v→kindOf x≠some .local→
  bindC kindOf (P.zip vs) m x=some v
 | [],_,_,_,_,h,_,_=>by simp at h
 | _:: _,[],_,_,_,_,h,_=>by simp at h
 | p:: P,w:: vs,0,m,nd,h1,h2,hk=>by
  simp at h1 h2;subst h1;subst h2
  show bindC kindOf ((p,w):: P.zip vs) m p=_
  unfold bindC
  rw [bindC_out fun v hv=>(List.nodup_cons.mp nd).1 (List.of_mem_zip hv).1,if_neg hk]
  simp
 | p:: P,w:: vs,i+1,m,nd,h1,h2,hk=>by
  show bindC kindOf ((p,w):: P.zip vs) m x=_
  unfold bindC
  exact bindC_get (i:=i) (List.nodup_cons.mp nd).2 (by simpa using h1) (by simpa using h2) hk
def start (N:List Str) (vs:List V):St:=vs.map some ++ List.replicate (N.length - vs.length) none
def jz (CX:CXT) (P:Program) (w:World) (K:PySem.W.Frag) (mg:Str→Option Value) (base:Heap) (N:List Str) (qual:Str) (scope:Scope) (f:Addr) (cd:Value) (A:Around) (outer:List Env) (s:Shared) (H:Hp) (E:XK):Cx where
 prog:=P
 w:=w
 K:=K
 mg:=mg
 base:=base
 A:=A.deeper (envOfC qual scope s.heap.objs.size f cd)
 N:=N
 s₀:=s
 H₀:=H
 env:=envOfC qual scope s.heap.objs.size f cd
 outer:=outer
 stack:=envOfC qual scope s.heap.objs.size f cd:: outer
 ex:=[]
 calm:=true
 fn:=fun _=>true
 pn:=[]
 xe:=fun e s'=>wpAny (model P w) (A.deeper (envOfC qual scope s.heap.objs.size f cd)) (leaving (envOfC qual scope s.heap.objs.size f cd) e) (fun _ s''=>CX outer H s E e s'') (fun e' s''=>CX outer H s E e' s'') s'
theorem cell_has {sc:Scope} {n:Nat} {x:Str} (h:sc.names.lookup x=some .cell):∃c,(cellsFrom n sc.names []).lookup x=some c:=by
 have q:=PySem.W.cellsFrom_some sc.names n [] (.inl h)
 exact Option.isSome_iff_exists.mp q
theorem inv_start {CX:CXT} {P:Program} {w:World} {K:PySem.W.Frag} {mg:Str→Option Value} {base:Heap} {N ps:List Str} {qual:Str} {scope:Scope} {f:Addr} {cd:Value} {A:Around} {outer:List Env} {s s1:Shared} {H:Hp} {E:XK} {us:List Value} {vs:List V}
  (S:FnScope N ps scope) (hd:A.handled=none) (e0:Env0 P w K mg base A outer s H) (hl:vs.length=ps.length) (r:Vals vs us)
  (x:InCallC s s.heap.objs.size (bindL (envOfC qual scope s.heap.objs.size f cd).kindOf (ps.zip us) fun _=>none) (cellsFrom (s.heap.objs.size+1) scope.names []) (bindC (envOfC qual scope s.heap.objs.size f cd).kindOf (ps.zip us) fun _=>none) s1):
  Inv (jz CX P w K mg base N qual scope f cd A outer s H E) [] (start N vs) H s1:=by
 have hpl:ps.length≤N.length:=by have:=congrArg List.length S.pre;rw [List.length_take] at this;omega
 obtain⟨h1,tk,rfl,hk⟩:=x.done
 have noA:∀b:Addr,b∉(jz CX P w K mg base N qual scope f cd A outer s H E).ex:=fun b z=>absurd (show b∈([]:List Addr) from z) (by simp)
 refine⟨⟨e0.mod,S.kind,rfl,rfl,Nat.le_refl _,fun y z c h1 h2=>?_,fun y hy=>?_,fun y c _ h=>?_,fun _=>hd,Around.frames_deeper e0.frames,.inr ⟨rfl,rfl⟩,fun b z=>absurd z (noA b),e0.bs,e0.bsz,fun b _ _=>noA b,fun b z=>absurd z (noA b),e0.funs,e0.frf⟩,
  rfl,e0.bare,Un.kept hk,⟨_,x.toInCall.ns,fun i y v h1 h2 h3=>?_⟩,fun y c h=>⟨_,x.cell y c h⟩,e0.hok.fresh (Nat.le_refl _),fun y c h=>?_,fun p hp=>absurd (show p∈([]:List (Addr×Obj)) from hp) (by simp),e0.hok.kept hk,?_⟩
 ·exact name_of_addr x.apart (PySem.mem_of_lookup h1) (PySem.mem_of_lookup h2)
 ·have hy:scope.names.lookup y=some .cell∨scope.names.lookup y=some .free:=hy
  rcases hy with hy | hy
  ·exact cell_has hy
  ·exact absurd rfl (S.nofree _ (PySem.mem_of_lookup hy))
 ·exact Nat.le_of_lt (x.above y c (PySem.mem_of_lookup h))
 ·have hi:i <vs.length:=by
   unfold start at h2
   by_cases hi:i <vs.length
   ·exact hi
   ·rw [List.getElem?_append_right (by simpa using hi)] at h2
    rw [List.getElem?_replicate] at h2
    split at h2 <;> cases h2
  have ha:vs[i]?=some v:=by
   unfold start at h2
   rw [List.getElem?_append_left (by simpa using hi),List.getElem?_map] at h2
   cases e:vs[i]? with
   | none=>rw [e] at h2;cases h2
   | some a=>rw [e] at h2;cases h2;rfl
  obtain⟨u,hu,rv⟩:=r.get ha
  have hp:ps[i]?=some y:=by
   rw [←S.pre,List.getElem?_take_of_lt (by omega)];exact h1
  have ndP:ps.Nodup:=by rw [←S.pre];exact S.nd.sublist (List.take_sublist _ _)
  refine⟨u,rv,?_⟩
  rcases S.par y (List.mem_of_getElem? hp) with k | k
  ·exact .inl ⟨k,bindL_get ndP hp hu k⟩
  ·obtain⟨c,e⟩:=cell_has (n:=s.heap.objs.size+1) k
   refine .inr ⟨.inl k,c,e,?_⟩
   have q:=x.cell y c e
   rw [bindC_get ndP hp hu (by show scope.names.lookup y≠_;rw [k];decide)] at q
   exact q
 ·exact e0.hok.fresh (Nat.le_of_lt (x.above y c (PySem.mem_of_lookup h)))
 ·unfold start
  show _=N.length
  rw [List.length_append,List.length_map,List.length_replicate]
  omega
theorem fn_of {CX:CXT} {P:Program} {w:World} {K:PySem.W.Frag} {mg:Str→Option Value} {base:Heap} {k:Nat} {f:Addr} {name qual:Str} {params:Arguments} {body:List Stmt} {scope:Scope} {dV kV doc pm cdv ct oc:Value} {an od:Option Addr}
  {osl:Array (Option Value)} {N ps:List Str} {sp:Sp} (lk:K.lookup f=some ⟨oc,od,.func (PySem.W.fnOf name qual params body scope dV kV doc pm an cdv ct),osl⟩) (hcd:PySem.W.codeIn K cdv qual=true) (S:FnScope N ps scope)
  (len:∀vs H Q E,sp vs H Q E→vs.length=ps.length)
  (hbody:∀(A:Around) (outer:List Env) (s:Shared) (H:Hp) (vs:List V) (Q:VK) (E:XK),Room k (A.deeper (envOfC qual scope s.heap.objs.size f cdv))→sp vs H Q E→
   ∃t,PSs (jz CX P w K mg base N qual scope f cdv A outer s H E) body t∧t { nx:=fun _ H'=>Q .non H',rt:=Q } (start N vs) H):
  FnOk P w K mg base CX (k+1) f (PySem.W.fnOf name qual params body scope dV kV doc pm an cdv ct) ps sp:=by
 refine⟨len,fun A outer s H args us vs Q E hr e0 hb r hsp=>?_⟩
 have hl:=len _ _ _ _ hsp
 have KX:K.In s.heap:=e0.mod.kin.keeps fun b o e=>(e0.bs b o e).1
 have lim:s.heap.NoLimit:=e0.mod.nolimit.keeps fun b o e=>(e0.bs b o e).1
 have hkind:∀y∈ps.zip us,scope.names.lookup y.1=some .local∨(scope.names.lookup y.1=some .cell∧((cellsFrom (s.heap.objs.size+1) scope.names []).lookup y.1).isSome=true):=fun⟨n,v⟩ hy=>by
  rcases S.par n (List.of_mem_zip hy).1 with q | q
  ·exact .inl q
  ·exact .inr ⟨q,PySem.W.cellsFrom_some _ _ _ (.inl q)⟩
 refine codeAny_call_function hr.depth (KX _ _ lk) rfl S.co S.gen rfl (PySem.W.codeRec_of KX hcd) (hb _ _ _ _ ?_)
 refine wpAny_newFunctionEnv_cells S.kind hkind fun env he s1 x=>?_
 subst he
 refine⟨lim.keeps x.toInCall.keep,codeAny_func ?_⟩
 obtain⟨t,ht,hq⟩:=hbody A outer s H vs Q E (hr.deeper _) hsp
 have I:Inv (jz CX P w K mg base N qual scope f cdv A outer s H E) [] (start N vs) H s1:=inv_start S hr.hd e0 hl r x
 refine wpAny_mono (ht [] s1 (start N vs) H _ I hq) (fun fl s' hs=>?_) fun e s' hs=>hs
 have fin:∀{σ':St} {H':Hp} {v:V} {u:Value},Inv (jz CX P w K mg base N qual scope f cdv A outer s H E) [] σ' H' s'→RelV v u→Q v H'→CE outer P w H s Q u s':=
  fun {σ' H' v u} J rv q=>⟨v,H',J.os,J.bare,J.base,J.hok,rv,q⟩
 cases fl with
 | ret u=>
  obtain⟨v,σ',H',J,rv,q⟩:=hs
  exact fin J rv q
 | next=>
  obtain⟨σ',H',J,q⟩:=hs
  exact fin (v:=V.non) (u:=Value.none) J rfl q
 | brk=>
  obtain⟨_,_,_,q⟩:=hs
  exact False.elim q
 | cont=>
  obtain⟨_,_,_,q⟩:=hs
  exact False.elim q
end L2
namespace L2
open PySem PySem.Spec PyProof.Rows
section
variable {X:Cx} {x:Str} {p pos:Pos} {e:Expr} {es:List Expr} {t:TA} {id T:String} {r:List V→Hp→VK→Prop}
def tCB (r:List V→Hp→VK→Prop) (t:TA):TE:=fun σ H Q=>t σ H fun vs H1=>r vs H1 Q
theorem bL (hc:qK X (.builtin id) r) (hg:Gl X x) (hm:X.mg x=none) (hv:bootBuiltins x=some (.builtin id)) (ha:PA X (e:: es) t) (hn:x≠ "__name__" :=by decide) (hdb:(x == ("__debug__" :Str))=false:=by decide)
  (he:starEach (e:: es) X.env=(false,eval e X.env):: starEach es X.env:=by rfl) (hpl:(backTo pos (starEach es X.env)).any (·.1)=false:=by rfl):PE X (.Call (.Name x p) (e:: es) [] pos) (tCB r t):=by
 intro pins s σ H Q I h
 refine wpAny_Call_Name_kw (BR I hg hm hv ?_ hn hdb)
 exact PyProof.Rows.callWith_builtin1 (thn (ha pos pins s σ H _ I h) fun us s1 ⟨vs,H1,I1,r1,q1⟩=>hc pins s1 σ H1 vs us Q I1 r1 q1) he hpl
theorem eZ (hc:qK X (.type T) r) (hg:Gl X x) (hm:X.mg x=none) (hv:bootBuiltins x=some (.type T)) (ha:PA X (e:: es) t) (hn:x≠ "__name__" :=by decide) (hdb:(x == ("__debug__" :Str))=false:=by decide)
  (he:starEach (e:: es) X.env=(false,eval e X.env):: starEach es X.env:=by rfl) (hpl:(backTo pos (starEach es X.env)).any (·.1)=false:=by rfl):PE X (.Call (.Name x p) (e:: es) [] pos) (tCB r t):=by
 intro pins s σ H Q I h
 refine wpAny_Call_Name_kw (BR I hg hm hv ?_ hn hdb)
 exact PyProof.Rows.callWith_type1 (thn (ha pos pins s σ H _ I h) fun us s1 ⟨vs,H1,I1,r1,q1⟩=>hc pins s1 σ H1 vs us Q I1 r1 q1) he hpl
end
end L2
namespace HT
open PySem PyProof.Rows
section
open PySem.SeqAt
open PySem.AutoSeq1 (wpAny_loadPart')
open PySem.MeetsSeq PySem.MeetsSeq2 PySem.MeetsSeq3
end
section
variable {prog:Program} {w:World} {A:Around} {E:Value→Shared→Prop} {s:Shared}
def sIx (n d:Nat):Option Int→Nat
 | none=>d
 | some v=>if v <0 then(v+(n:Int)).toNat else min v.toNat n
theorem sIx_none (n d:Nat):sIx n d none=d:=rfl
theorem sIx_nat (n d k:Nat):sIx n d (some (k:Int))=min k n:=by
 show(if (k:Int) <0 then((k:Int)+(n:Int)).toNat else min (k:Int).toNat n)=min k n
 rw [if_neg (by omega),Int.toNat_natCast]
end
end HT
namespace L2
open PySem PySem.Spec PyProof.Rows
abbrev TO:=St→Hp→(Option Int→Hp→Prop)→Prop
def PO (X:Cx) (e:Option Expr) (t:TO):Prop:=
 ∀(pins:List (Addr×Obj)) (s:Shared) (σ:St) (H:Hp) (Q:Option Int→Hp→Prop),Inv X pins σ H s→t σ H Q→
  wpAny (model X.prog X.w) X.A (evalPart e X.env) (fun u s'=>∃o H',Inv X pins σ H' s'∧IsPart u o∧Q o H') X.xe s
def tNoPart:TO:=fun _ H Q=>Q none H
def tPart (t:TE):TO:=fun σ H Q=>t σ H fun x H1=>∃i,x=.int i∧Q (some i) H1
section
variable {X:Cx} {e:Expr} {te:TE} {lo hi:Option Expr} {tl th:TO} {pos p2:Pos}
theorem yQ:PO X none tNoPart:=by
 intro pins s σ H Q I h
 rw [evalPart_none]
 exact wpAny_pure ⟨none,H,I,.none,h⟩
theorem yR (h:PE X e te):PO X (some e) (tPart te):=by
 intro pins s σ H Q I hw
 rw [evalPart_some]
 refine thn (h pins s σ H _ I hw) fun u s1 hpt=>?_
 obtain⟨x,H1,I1,r1,q1⟩:=hpt
 obtain⟨i,rfl,q⟩:=q1
 obtain⟨t,rfl⟩:=r1
 exact⟨some i,H1,I1,.int i t,q⟩
def SlR (X:Cx) (r:V→Option Int→Option Int→Hp→VK→Prop):Prop:=
 ∀(pins:List (Addr×Obj)) (s:Shared) (σ:St) (H:Hp) (x:V) (v vl vu:Value) (lo hi:Option Int) (sl:Addr) (Q:VK),Inv X pins σ H s→RelV x v→s.heap.IsSliceOf sl vl vu .none→IsPart vl lo→IsPart vu hi→r x lo hi H Q→
  ∃T id,typeLookup (.type T) "__getitem__" =pure (some (.builtin id))∧s.TypeIs v T∧wpAny (model X.prog X.w) X.A (getItem v (.ref sl)) (EP X pins σ Q) X.xe s
def tSl (r:V→Option Int→Option Int→Hp→VK→Prop) (te:TE) (tl th:TO):TE:=fun σ H Q=>te σ H fun x H1=>tl σ H1 fun l H2=>th σ H2 fun u H3=>r x l u H3 Q
theorem uW {r:V→Option Int→Option Int→Hp→VK→Prop} (hr:SlR X r) (he:PE X e te) (hl:PO X lo tl) (hu:PO X hi th):PE X (.Subscript e (.Slice lo hi none p2) pos) (tSl r te tl th):=by
 intro pins s σ H Q I h
 refine Subscript_ (thn (he pins s σ H _ I h) fun v s1 hpt=>?_)
 obtain⟨x,H1,I1,r1,q1⟩:=hpt
 refine wpAny_Slice (thn (hl pins s1 σ H1 _ I1 q1) fun vl s2 ⟨l,H2,I2,pl,q2⟩=>thn (hu pins s2 σ H2 _ I2 q2) fun vu s3 hpt=>?_)
 obtain⟨u,H3,I3,pu,q3⟩:=hpt
 rw [evalPart_none]
 refine wpAny_pure ?_
 have I4:Inv X pins σ H3 { s3 with heap:=s3.heap.push { cls:=.type "slice",data:=.fields #[vl,vu,.none] } }:=I3.kept (t':=s3.toks) fun b ob q=>Heap.get?_push_of_some _ q
 obtain⟨T,id,hT,ht,hg⟩:=hr pins { s3 with heap:=s3.heap.push { cls:=.type "slice",data:=.fields #[vl,vu,.none] } } σ H3 x v vl vu l u s3.heap.objs.size Q I4 r1 (Heap.IsSliceOf.new ..) pl pu q3
 show wpAny (model X.prog X.w) X.A (subscriptTail e (.Slice lo hi none p2) v (.ref s3.heap.objs.size)) (EP X pins σ Q) X.xe { s3 with heap:=s3.heap.push { cls:=.type "slice",data:=.fields #[vl,vu,.none] } }
 exact tail_any (ops:=[.ref s3.heap.objs.size,v]) ht hT hg (by with_unfolding_all rfl)
def cutV (xs:List V) (lo hi:Option Int):List V:=(xs.drop (HT.sIx xs.length 0 lo)).take (HT.sIx xs.length xs.length hi - HT.sIx xs.length 0 lo)
theorem cutV_length (xs:List V) (lo hi:Option Int):(cutV xs lo hi).length≤xs.length:=by
 unfold cutV
 rw [List.length_take,List.length_drop]
 omega
end
end L2
namespace L2
open PySem PySem.Spec PyProof.Rows
def ixN (n:Nat) (i:Int):Option Nat:=if 0≤i then(if i <n then some i.toNat else none) else if -(n:Int)≤i then some (i+n).toNat else none
def atI {α:Type} (xs:List α) (i:Int):Option α:=(ixN xs.length i).bind fun j=>xs[j]?
theorem ixN_seq {n:Nat} {i:Int} {j:Nat} (h:ixN n i=some j):seqIndex? i n=some j∧j <n∧ -(n:Int)≤i∧i <n:=by
 unfold ixN at h
 by_cases h0:0≤i
 ·rw [if_pos h0] at h
  by_cases h1:i <n
  ·rw [if_pos h1] at h
   have e:i.toNat=j:=Option.some.inj h
   exact⟨by rw [seqIndex_of h0 h1,e],by omega,by omega,h1⟩
  ·rw [if_neg h1] at h;cases h
 ·rw [if_neg h0] at h
  by_cases h1: -(n:Int)≤i
  ·rw [if_pos h1] at h
   have e:(i+n).toNat=j:=Option.some.inj h
   exact⟨by rw [seqIndex_neg (by omega) h1,e],by omega,h1,by omega⟩
  ·rw [if_neg h1] at h;cases h
theorem atI_get {α:Type} {xs:List α} {i:Int} {v:α} (h:atI xs i=some v):∃j,seqIndex? i xs.length=some j∧xs[j]?=some v∧j <xs.length∧ -(xs.length:Int)≤i∧i <xs.length:=by
 unfold atI at h
 cases e:ixN xs.length i with
 | none=>rw [e] at h;cases h
 | some j=>
  rw [e] at h
  obtain⟨h1,h2,h3,h4⟩:=ixN_seq e
  exact⟨j,h1,h,h2,h3,h4⟩
theorem aN {α:Type} {xs:List α} {j:Nat} {v:α} (h:xs[j]?=some v):atI xs (j:Int)=some v:=by
 have hj:j <xs.length:=(List.getElem?_eq_some_iff.mp h).1
 have e:ixN xs.length (j:Int)=some j:=by
  unfold ixN
  rw [if_pos (by omega),if_pos (by omega)];simp
 unfold atI;rw [e];exact h
def PlainIx (b:Expr):Prop:=∀o i,subscripted b false o i=operate [o,i] (getItem o i)
def IxR (X:Cx) (r:R2):Prop:=
 ∀(value slice:Expr) (pins:List (Addr×Obj)) (s:Shared) (σ:St) (H:Hp) (x y:V) (v u:Value) (Q:VK),Inv X pins σ H s→RelV x v→RelV y u→r x y H Q→
  subscripted slice false v u=operate [v,u] (getItem v u)→wpAny (model X.prog X.w) X.A (subscriptTail value slice v u) (EP X pins σ Q) X.xe s
def MtR (X:Cx) (id:String) (r:V→List V→Hp→VK→Prop):Prop:=
 ∀(pins:List (Addr×Obj)) (s:Shared) (σ:St) (H:Hp) (x:V) (xs:List V) (v:Value) (us:List Value) (Q:VK),Inv X pins σ H s→RelV x v→Vals xs us→r x xs H Q→
  wpAny (model X.prog X.w) X.A (call (.builtin id) (v:: us)) (EP X pins σ Q) X.xe s
section
variable {X:Cx} {a b:Expr} {ta tb:TE} {pos:Pos}
theorem aW {r:R2} (hr:IxR X r) (ha:PE X a ta) (hb:PE X b tb) (hs:PlainIx b):PE X (.Subscript a b pos) (tOp r ta tb):=by
 intro pins s σ H Q I h
 exact Subscript_ (binT ha hb I h fun v u s2 x y H2 I2 rx ry q=>hr a b pins s2 σ H2 x y v u Q I2 rx ry q (hs _ _))
def rIxL (K:PySem.W.Frag):R2:=fun x y H Q=>∃p xs i v,x=.ref p∧y=.int i∧SqL K H p xs∧atI xs i=some v∧Q v H
def rIxT (K:PySem.W.Frag):R2:=fun x y H Q=>∃p xs i v,x=.ref p∧y=.int i∧SqT K H p xs∧atI xs i=some v∧Q v H
def rIxS:R2:=fun x y H Q=>∃z i c,x=.str z∧y=.int i∧z.length≤sizeLine∧atI z.cps.toList i=some c∧Q (.str ⟨#[c]⟩) H
theorem bN:IxR X (rIxL X.K):=by
 intro value slice pins s σ H x y v u Q I rx ry h hs
 obtain⟨p,xs,i,z,rfl,rfl,hq,he,q⟩:=h
 cases rx
 obtain⟨t,rfl⟩:=ry
 obtain⟨its,r,pl,hz⟩:=I.list hq
 obtain⟨j,h1,h2,h3,h4,h5⟩:=atI_get he
 obtain⟨w,ew,rw'⟩:=r.get h2
 have hl:=r.length
 have hn:=line63
 have fin:EP X pins σ Q w s:=⟨z,H,I,rw',q⟩
 by_cases h0:0≤i
 ·have hj:i.toNat=j:=by
   rw [seqIndex_of h0 h5] at h1
   exact Option.some.inj h1
  exact item_listR pl.isList h0 (by omega) (by rw [hj];simpa using ew) fin hs
 ·have hj:(i+(its.toArray.size:Int)).toNat=j:=by
   rw [seqIndex_neg (by omega) h4] at h1
   rw [List.size_toArray,←hl]
   exact Option.some.inj h1
  exact subscriptTail_builtinR (x:=w) pl.isList.typeIs slot_list_getitem.lookup
   (wpAny_getItem_list_neg (Q:=fun r s'=>r=w∧EP X pins σ Q r s') pl.isList (by omega) (by rw [List.size_toArray] <;> omega) (by omega) (by rw [hj];simpa using ew) ⟨rfl,fin⟩) hs
theorem bT:IxR X (rIxT X.K):=by
 intro value slice pins s σ H x y v u Q I rx ry h hs
 obtain⟨p,xs,i,z,rfl,rfl,hq,he,q⟩:=h
 cases rx
 obtain⟨t,rfl⟩:=ry
 obtain⟨its,r,pl,hz⟩:=I.tuple hq
 obtain⟨j,h1,h2,h3,h4,h5⟩:=atI_get he
 obtain⟨w,ew,rw'⟩:=r.get h2
 have hl:=r.length
 have hn:=line63
 have fin:EP X pins σ Q w s:=⟨z,H,I,rw',q⟩
 exact subscriptTail_builtinR (x:=w) pl.typeIs slot_tuple_getitem.lookup
  (getItem_tuple (j:=j) (Q:=fun r s'=>r=w∧EP X pins σ Q r s') pl (by omega) (by omega) (by rw [List.size_toArray,←hl];exact h1) (by simpa using ew) ⟨rfl,fin⟩) hs
theorem ix_str:IxR X rIxS:=by
 intro value slice pins s σ H x y v u Q I rx ry h hs
 obtain⟨z,i,c,rfl,rfl,hz,he,q⟩:=h
 obtain⟨t,rfl⟩:=rx
 obtain⟨t',rfl⟩:=ry
 obtain⟨j,h1,h2,h3,h4,h5⟩:=atI_get he
 have hl:z.cps.toList.length=z.length:=by simp [Str.length]
 rw [hl] at h1 h4 h5
 have hn:=line63
 exact tail_any (typeIs_str s z t) slot_str_getitem.lookup (getItem_str (c:=c) (by
  have e1:decide (i < -(2 ^ 63:Int))=false:=decide_eq_false (by omega)
  have e2:decide (i≥2 ^ 63)=false:=decide_eq_false (by omega)
  rw [e1,e2,Bool.or_false]) (by rw [h1];simpa using h2) ⟨.str ⟨#[c]⟩,H,I.tok _,⟨_,rfl⟩,q⟩) hs
theorem slice_bounds (lo hi:Option Int) (n:Nat):(sliceBounds lo hi none n).1=((HT.sIx n 0 lo:Nat):Int)∧(sliceBounds lo hi none n).2.1=((HT.sIx n n hi:Nat):Int)∧(sliceBounds lo hi none n).2.2=1:=by
 refine⟨?_,?_,rfl⟩
 ·cases lo with
  | none=>simp [sliceBounds,HT.sIx]
  | some i=>
   simp only [sliceBounds,HT.sIx,Option.getD_none,show(1:Int) >0 by decide,if_true]
   by_cases h:i <0
   ·simp only [h,if_true] <;> omega
   ·simp only [h,if_false] <;> omega
 ·cases hi with
  | none=>simp [sliceBounds,HT.sIx]
  | some i=>
   simp only [sliceBounds,HT.sIx,Option.getD_none,show(1:Int) >0 by decide,if_true]
   by_cases h:i <0
   ·simp only [h,if_true] <;> omega
   ·simp only [h,if_false] <;> omega
theorem slicePick_cut (its:List Value) (lo hi:Option Int):slicePick its.toArray lo hi none=((its.drop (HT.sIx its.length 0 lo)).take (HT.sIx its.length its.length hi - HT.sIx its.length 0 lo)).toArray:=by
 obtain⟨h1,h2,h3⟩:=slice_bounds lo hi its.toArray.size
 unfold slicePick
 rw [h1,h2,h3]
 simp only [sliceRange_one,pick_run,List.size_toArray] <;> rfl
def rSlL (K:PySem.W.Frag):V→Option Int→Option Int→Hp→VK→Prop:=fun x lo hi H Q=>∃a xs,x=.ref a∧SqL K H a xs∧∀p,H p=none→Q (.ref p) (upd H p (.lst (cutV xs lo hi)))
theorem sl_list:SlR X (rSlL X.K):=by
 intro pins s σ H x v vl vu lo hi sl Q I rx hs pl pu h
 obtain⟨a,xs,rfl,hx,q⟩:=h
 cases rx
 obtain⟨its,r,ht,hz⟩:=I.list hx
 have hlen:=r.length
 refine⟨"list",_,slot_list_getitem.lookup,ht.isList.typeIs,?_⟩
 refine wpAny_getItem_list_slice ht.isList hs pl pu .none (by simp) ?_ (by rw [List.size_toArray] <;> omega)
 rw [slicePick_cut,←hlen]
 refine⟨.ref s.heap.objs.size,_,I.laid (t':=s.toks) (o:=.lst (cutV xs lo hi)) (fun b ob q=>Heap.get?_push_of_some _ q) (Nat.le_refl _) ?_,rfl,q _ (I.hok.fresh (Nat.le_refl _))⟩
 exact⟨Nat.le_trans (cutV_length xs lo hi) hz,_,0,(r.drop (HT.sIx xs.length 0 lo)).take (HT.sIx xs.length xs.length hi - HT.sIx xs.length 0 lo),Heap.get?_push_size _ rfl⟩
def rJ:V→Bool
 | .non=>true
 | .bl _=>true
 | .int _=>true
 | .str _=>true
 | _=>false
def eqV:V→V→Bool
 | .non,.non=>true
 | .bl a,.bl b=>a == b
 | .bl a,.int b=>(if a then 1 else 0) == b
 | .int a,.bl b=>a == (if b then 1 else 0)
 | .int a,.int b=>a == b
 | .str a,.str b=>a == b
 | _,_=>false
theorem eqAt_V {A:Around} {s:Shared} {y x:V} {u v:Value} (ry:RelV y u) (rx:RelV x v) (fy:rJ y=true) (fx:rJ x=true):SeqAt.EqAt A s u v (eqV y x):=by
 cases y with
 | non=>
  cases ry
  cases x with
  | non=>cases rx;exact SeqAt.EqAt.same _
  | bl b=>cases rx;exact SeqAt.EqAt.none_bool b
  | int b=>obtain⟨t,rfl⟩:=rx;exact SeqAt.EqAt.none_int b t
  | str b=>obtain⟨t,rfl⟩:=rx;exact SeqAt.EqAt.none_str b t
  | _=>exact absurd (show false=true from fx) Bool.false_ne_true
 | bl a=>
  cases ry
  cases x with
  | non=>cases rx;exact SeqAt.EqAt.bool_none a
  | bl b=>cases rx;exact SeqAt.EqAt.bool_bool a b
  | int b=>obtain⟨t,rfl⟩:=rx;exact SeqAt.EqAt.bool_int a b t
  | str b=>obtain⟨t,rfl⟩:=rx;exact SeqAt.EqAt.bool_str a b t
  | _=>exact absurd (show false=true from fx) Bool.false_ne_true
 | int a=>
  obtain⟨t',rfl⟩:=ry
  cases x with
  | non=>cases rx;exact SeqAt.EqAt.int_none a t'
  | bl b=>cases rx;exact SeqAt.EqAt.int_bool a t' b
  | int b=>obtain⟨t,rfl⟩:=rx;exact SeqAt.EqAt.int_int a t' b t
  | str b=>obtain⟨t,rfl⟩:=rx;exact SeqAt.EqAt.int_str a t' b t
  | _=>exact absurd (show false=true from fx) Bool.false_ne_true
 | str a=>
  obtain⟨t',rfl⟩:=ry
  cases x with
  | non=>cases rx;exact SeqAt.EqAt.str_none a t'
  | bl b=>cases rx;exact SeqAt.EqAt.str_bool a t' b
  | int b=>obtain⟨t,rfl⟩:=rx;exact SeqAt.EqAt.str_int a t' b t
  | str b=>obtain⟨t,rfl⟩:=rx;exact SeqAt.EqAt.str_str a t' b t
  | _=>exact absurd (show false=true from fx) Bool.false_ne_true
 | _=>exact absurd (show false=true from fy) Bool.false_ne_true
def eqU (x:V) (u:Value):Bool:=match u with
 | .none=>eqV .non x
 | .bool b=>eqV (.bl b) x
 | .int i _=>eqV (.int i) x
 | .str z _=>eqV (.str z) x
 | _=>false
theorem eqU_of {x y:V} {u:Value} (r:RelV y u) (f:rJ y=true):eqU x u=eqV y x:=by
 cases y with
 | non=>cases r;rfl
 | bl b=>cases r;rfl
 | int i=>obtain⟨t,rfl⟩:=r;rfl
 | str z=>obtain⟨t,rfl⟩:=r;rfl
 | _=>exact absurd (show false=true from f) Bool.false_ne_true
theorem yI {x:V}:∀{xs:List V} {us:List Value},Vals xs us→xs.all rJ=true→us.any (eqU x)=xs.any fun y=>eqV y x
 | _,_,.nil,_=>rfl
 | y:: xs,u:: us,.cons r t,f=>by
  rw [List.all_cons,Bool.and_eq_true] at f
  rw [List.any_cons,List.any_cons,eqU_of r f.1,yI t f.2]
theorem uF {A:Around} {s:Shared} {x:V} {v:Value} (rx:RelV x v) (fx:rJ x=true):∀{xs:List V} {us:List Value},Vals xs us→xs.all rJ=true→∀u∈us,SeqAt.EqAt A s u v (eqU x u)
 | _,_,.nil,_=>fun u hu=>by cases hu
 | y:: xs,u:: us,.cons r t,f=>fun u' hu=>by
  rw [List.all_cons,Bool.and_eq_true] at f
  rcases List.mem_cons.mp hu with rfl | hu
  ·rw [eqU_of r f.1];exact eqAt_V r rx f.1 fx
  ·exact uF rx fx t f.2 u' hu
def inV (x:V) (xs:List V):Bool:=xs.any fun y=>eqV y x
def rIn (K:PySem.W.Frag) (neg:Bool):R2:=fun x y H Q=>∃p xs,y=.ref p∧(SqL K H p xs∨SqT K H p xs)∧rJ x=true∧xs.all rJ=true∧Q (.bl (if neg then !inV x xs else inV x xs)) H
theorem zj:OpR X (compareOp .In) (rIn X.K false):=by
 intro pins s σ H x y v u Q I rx ry h
 obtain⟨p,xs,rfl,hq,fx,fs,q⟩:=h
 cases ry
 rcases hq with hq | hq
 ·obtain⟨its,r,pl,hz⟩:=I.list hq
  refine SeqAt.in_listAt (eqU x) pl.isList (fun w hw=>uF rx fx r fs w (by simpa using hw)) ⟨.bl _,H,I,rfl,?_⟩
  rw [show its.toArray.any (eqU x)=its.any (eqU x) by simp,yI r fs]
  exact q
 ·obtain⟨its,r,pl,hz⟩:=I.tuple hq
  refine SeqAt.in_tupleAt (eqU x) pl (fun w hw=>uF rx fx r fs w (by simpa using hw)) ⟨.bl _,H,I,rfl,?_⟩
  rw [show its.toArray.any (eqU x)=its.any (eqU x) by simp,yI r fs]
  exact q
theorem yt:OpR X (compareOp .NotIn) (rIn X.K true):=by
 intro pins s σ H x y v u Q I rx ry h
 obtain⟨p,xs,rfl,hq,fx,fs,q⟩:=h
 cases ry
 rcases hq with hq | hq
 ·obtain⟨its,r,pl,hz⟩:=I.list hq
  refine SeqAt.notIn_listAt (eqU x) pl.isList (fun w hw=>uF rx fx r fs w (by simpa using hw)) ⟨.bl _,H,I,rfl,?_⟩
  rw [show its.toArray.any (eqU x)=its.any (eqU x) by simp,yI r fs]
  exact q
 ·obtain⟨its,r,pl,hz⟩:=I.tuple hq
  refine SeqAt.notIn_tupleAt (eqU x) pl (fun w hw=>uF rx fx r fs w (by simpa using hw)) ⟨.bl _,H,I,rfl,?_⟩
  rw [show its.toArray.any (eqU x)=its.any (eqU x) by simp,yI r fs]
  exact q
theorem yP:qK X (.type "list") (fun xs H Q=>∃p ys,xs=[.ref p]∧(SqL X.K H p ys∨SqT X.K H p ys)∧∀l,H l=none→Q (.ref l) (upd H l (.lst ys))):=by
 intro pins s σ H xs us Q I r h
 obtain⟨p,ys,rfl,hq,q⟩:=h
 obtain⟨u,rfl,rx⟩:=vals1 r
 cases rx
 have fin:∀(its:List Value),Vals ys its→ys.length≤sizeLine→∀(h':Heap) (c':Nat),(∀b o',s.heap.get? b=some o'→h'.get? b=some o')→
   h'.get? s.heap.objs.size=some { cls:=.type "list",dict:=none,data:=.seq its.toArray c',slots:=#[] }→EP X pins σ Q (.ref s.heap.objs.size) { s with heap:=h' }:=fun its r' hz h' c' kp e=>
  ⟨.ref s.heap.objs.size,_,I.laid (t':=s.toks) kp (Nat.le_refl _) (show dC X.prog X.w _ h' _ (.lst ys) from⟨hz,its,c',r',e⟩),rfl,q _ (I.hok.fresh (Nat.le_refl _))⟩
 rcases hq with hq | hq
 ·obtain⟨its,r',pl,hz⟩:=I.list hq
  have hlen:=r'.length
  obtain⟨o,ho,hc,n,hd⟩:=pl.isList
  exact call_list_seq p (.inl rfl) ho hc hd (fun h' c' kp e=>fin its r' hz h' c' kp e) (by simp only [List.size_toArray] <;> omega)
 ·obtain⟨its,r',pl,hz⟩:=I.tuple hq
  have hlen:=r'.length
  obtain⟨o,ho,hc,n,hd⟩:=pl
  exact call_list_seq p (.inr rfl) ho hc hd (fun h' c' kp e=>fin its r' hz h' c' kp e) (by simp only [List.size_toArray] <;> omega)
theorem call_tuple_of:qK X (.type "tuple") (fun xs H Q=>∃p ys,xs=[.ref p]∧((SqL X.K H p ys∧∀l,H l=none→Q (.ref l) (upd H l (.tup ys)))∨(SqT X.K H p ys∧Q (.ref p) H))):=by
 intro pins s σ H xs us Q I r h
 obtain⟨p,ys,rfl,h⟩:=h
 obtain⟨u,rfl,rx⟩:=vals1 r
 cases rx
 rcases h with ⟨hq,q⟩ | ⟨hq,q⟩
 ·obtain⟨its,r',pl,hz⟩:=I.list hq
  have hlen:=r'.length
  refine call_tuple_list pl.isList (fun h' kp=>?_) (by simp only [List.size_toArray] <;> omega)
  have I1:Inv X pins σ H { s with heap:=h' }:=I.kept (t':=s.toks) kp
  have I2:Inv X pins σ (upd H h'.objs.size (.tup ys)) { s with heap:=h'.push { cls:=.type "tuple",data:=.seq its.toArray } }:=
   I1.laid (t':=s.toks) (fun b o e=>Heap.get?_push_of_some _ e) (Nat.le_refl _) (show dC X.prog X.w _ _ _ (.tup ys) from⟨hz,its,r',IsTup.new _ _⟩)
  exact⟨.ref h'.objs.size,_,I2,rfl,q _ (I1.hok.fresh (Nat.le_refl _))⟩
 ·obtain⟨its,r',pl,hz⟩:=I.tuple hq
  exact call_tuple_same pl ⟨.ref p,H,I,rfl,q⟩
def tyV (K:PySem.W.Frag) (T:String) (x:V) (H:Hp):Prop:=match x with
 | .str _=>T= "str"
 | .int _=>T= "int"
 | .ref p=>(T= "list" ∧∃xs,SqL K H p xs)∨(T= "tuple" ∧∃o,K.lookup p=some o∧o.cls=.type "tuple" ∧o.dict=none)∨
   (T= "dict" ∧((∃kvs,H p=some (.dK kvs))∨∃kvs,H p=some (.dT kvs)))∨(T= "set" ∧∃S n,H p=some (.set S n))
 | _=>False
theorem tyV_is {pins:List (Addr×Obj)} {σ:St} {H:Hp} {s:Shared} {T:String} {x:V} {v:Value} (I:Inv X pins σ H s) (r:RelV x v) (ty:tyV X.K T x H):
  s.TypeIs v T∧∀a,v=.ref a→∃ob,s.heap.get? a=some ob∧ob.dict=none:=by
 cases x with
 | str z=>
  obtain⟨t,rfl⟩:=r
  cases (show T= "str" from ty)
  exact⟨typeIs_str s z t,fun _ e=>nomatch e⟩
 | int i=>
  obtain⟨t,rfl⟩:=r
  cases (show T= "int" from ty)
  exact⟨typeIs_int s i t,fun _ e=>nomatch e⟩
 | ref p=>
  cases r
  rcases ty with ⟨rfl,xs,hq⟩ | ⟨rfl,o,hk,hc,hd⟩ | ⟨rfl,hk⟩ | ⟨rfl,S,n,hk⟩
  ·obtain⟨its,_,pl,_⟩:=I.list hq
   refine⟨pl.isList.typeIs,fun a e=>?_⟩
   cases e
   obtain⟨o,n,e,c,hd,_⟩:=pl
   exact⟨o,e,hd⟩
  ·refine⟨⟨o,I.kIn p o hk,hc⟩,fun a e=>?_⟩
   cases e
   exact⟨o,I.kIn _ o hk,hd⟩
  ·have z:∃o,s.heap.get? p=some o∧o.ExactDict:=by
    rcases hk with ⟨kvs,hk⟩ | ⟨kvs,hk⟩
    ·obtain⟨_,_,_,_,o,_,_,e,ex,_⟩:=I.hok p _ hk
     exact⟨o,e,ex⟩
    ·obtain⟨_,_,_,_,o,_,_,e,ex,_⟩:=I.hok p _ hk
     exact⟨o,e,ex⟩
   obtain⟨o,e,ex⟩:=z
   refine⟨⟨o,e,ex.1⟩,fun a e2=>?_⟩
   cases e2
   exact⟨o,e,ex.2.1⟩
  ·obtain⟨o,_,_,_,e,ex,_⟩:=I.hok p _ hk
   refine⟨⟨o,e,ex.1⟩,fun a e2=>?_⟩
   cases e2
   exact⟨o,e,ex.2.1⟩
 | _=>exact False.elim ty
def tBM0 (K:PySem.W.Frag) (T:String) (r:V→List V→Hp→VK→Prop) (to:TE):TE:=fun σ H Q=>to σ H fun x H1=>tyV K T x H1∧r x [] H1 Q
def tBM (K:PySem.W.Frag) (T:String) (r:V→List V→Hp→VK→Prop) (to:TE) (t:TA):TE:=fun σ H Q=>to σ H fun x H1=>tyV K T x H1∧t σ H1 fun xs H2=>r x xs H2 Q
variable {o e:Expr} {es:List Expr} {to:TE} {t:TA} {name:Str} {apos cpos:Pos} {T id:String} {r:V→List V→Hp→VK→Prop}
theorem pe_bm0 (pa:PlainAttrs T) (slot:Slot T name id) (hty:typeOf (.builtin id)=pure (.type "method_descriptor")) (hm:MtR X id r) (ho:PE X o to)
  (hbase:attributeBase o name X.env (eval o X.env)=eval o X.env:=by rfl) (hline:(apos.endLine == cpos.line)=true:=by rfl):PE X (.Call (.Attribute o name apos) [] [] cpos) (tBM0 X.K T r to):=by
 intro pins s σ H Q I h
 refine wpAny_Call_method0_late hbase hline (thn (ho pins s σ H _ I h) fun v s1 hpt=>?_)
 obtain⟨x,H1,I1,r1,ty,q1⟩:=hpt
 obtain⟨h1,h2⟩:=tyV_is I1 r1 ty
 exact⟨T,id,pa,slot,hty,h1,h2,Calls.callWith_builtin rfl (PySem.evalArgs_none (hm pins s1 σ H1 x [] v [] Q I1 r1 .nil q1))⟩
theorem oU (pa:PlainAttrs T) (slot:Slot T name id) (hty:typeOf (.builtin id)=pure (.type "method_descriptor")) (hm:MtR X id r) (ho:PE X o to) (ha:PA X (e:: es) t)
  (hbase:attributeBase o name X.env (eval o X.env)=eval o X.env:=by rfl)
  (hfew:((backTo cpos (starEach (e:: es) X.env)).all (fun x=>!x.1) && (backToKw cpos (keywordEach [] X.env)).all (fun x=>x.1.isSome)
   && decide ((e:: es).length+([]:List Keyword).length+(if ([]:List Keyword).isEmpty then 0 else 1) <30))=true:=by rfl)
  (hline:(apos.endLine == cpos.line)=true:=by rfl) (hs:starEach (e:: es) X.env=(false,eval e X.env):: starEach es X.env:=by rfl) (hplain:(backTo cpos (starEach es X.env)).any (·.1)=false:=by rfl):
  PE X (.Call (.Attribute o name apos) (e:: es) [] cpos) (tBM X.K T r to t):=by
 intro pins s σ H Q I h
 refine wpAny_Call_method_late hbase hfew hline rfl (thn (ho pins s σ H _ I h) fun v s1 hpt=>?_)
 obtain⟨x,H1,I1,r1,ty,q1⟩:=hpt
 obtain⟨h1,h2⟩:=tyV_is I1 r1 ty
 refine⟨T,id,pa,slot,hty,h1,h2,?_⟩
 have hA:=ha cpos pins s1 σ H1 _ I1 q1
 rw [hs] at hA ⊢
 refine Calls.callWith_builtin (by show(false || (backTo cpos (starEach es X.env)).any (·.1))=false;rw [hplain] <;> rfl) (Calls.evalArgs_plain ?_)
 exact thn hA fun us s2 ⟨vs,H2,I2,r2,q2⟩=>hm pins s2 σ H2 x vs v us Q I2 r1 r2 q2
end
end L2
namespace L2
open PySem PySem.Spec PyProof.Rows
def MtM (X:Cx) (id:String) (r:V→List V→Hp→VK→Prop):Prop:=
 ∀(pins:List (Addr×Obj)) (s:Shared) (σ:St) (H:Hp) (x:V) (xs:List V) (v:Value) (us:List Value) (Q:VK),Inv X pins σ H s→RelV x v→Vals xs us→r x xs H Q→
  wpAny (model X.prog X.w) X.A (call (.builtin id) (v:: us)) (EP X pins σ Q) X.xe s
theorem Vals.one:∀{x:V} {us:List Value},Vals [x] us→∃u,us=[u]∧RelV x u
 | _,_,.cons r .nil=>⟨_,rfl,r⟩
theorem Vals.zero:∀{us:List Value},Vals [] us→us=[]
 | _,.nil=>rfl
theorem Vals.dropLast {xs:List V} {us:List Value} (h:Vals xs us):Vals xs.dropLast us.dropLast:=by
 induction h with
 | nil=>exact .nil
 | cons r t ih=>
  cases t with
  | nil=>exact .nil
  | cons q t'=>exact .cons r ih
theorem Vals.eraseIdx:∀{xs:List V} {us:List Value} (i:Nat),Vals xs us→Vals (xs.eraseIdx i) (us.eraseIdx i)
 | _,_,_,.nil=>.nil
 | _,_,0,.cons _ t=>t
 | _,_,i+1,.cons r t=>.cons r (Vals.eraseIdx i t)
theorem erase_last {α:Type} (l:List α):l.eraseIdx (l.length - 1)=l.dropLast:=by
 induction l with
 | nil=>rfl
 | cons a r ih=>
  cases r with
  | nil=>rfl
  | cons b r=>
   have e:(a:: b:: r).length - 1=((b:: r).length - 1)+1:=by
    have h1:(a:: b:: r).length=r.length+2:=rfl
    have h2:(b:: r).length=r.length+1:=rfl
    omega
   rw [e,List.eraseIdx_cons_succ,ih]
   all_goals rfl
theorem len_erase {α:Type}:∀(l:List α) (i:Nat),(l.eraseIdx i).length≤l.length
 | [],_=>Nat.le_refl _
 | _:: _,0=>Nat.le_succ _
 | _:: r,i+1=>Nat.succ_le_succ (len_erase r i)
section
variable {X:Cx} {pins:List (Addr×Obj)} {σ:St} {H:Hp} {s:Shared} {l b:Addr} {xs ys zs:List V}
theorem Inv.lset {its its':List Value} {n:Nat} {f:Array Value→Array Value} {t':Nat} (I:Inv X pins σ H s) (hH:H l=some (.lst xs))
  (e:s.heap.get? l=some { cls:=.type "list",data:=.seq its.toArray n }) (hf:f its.toArray=its'.toArray) (hv:Vals ys its') (hz:ys.length≤sizeLine):
  Inv X pins σ (upd H l (.lst ys)) { s with heap:=s.heap.update l (Obj.mapSeq f),toks:=t' }:=by
 have q:=PySem.IsL.update e f
 rw [hf] at q
 refine I.write (x:=l) (e:=l) (by rw [hH];exact trivial) (.inl rfl) (fun b' u hb hu=>(Heap.get?_update_other s.heap (Obj.mapSeq f) (Ne.symm hb)).trans hu) ⟨_,q⟩ ?_
 exact⟨hz,its',_,hv,q⟩
theorem Inv.lnew {its:List Value} {t':Nat} (I:Inv X pins σ H s) (hv:Vals ys its) (hz:ys.length≤sizeLine):
  Inv X pins σ (upd H s.heap.objs.size (.lst ys)) { s with heap:=s.heap.push { cls:=.type "list",data:=.seq its.toArray },toks:=t' }:=
 I.laid (fun _ _ q=>Heap.get?_push_of_some _ q) (Nat.le_refl _) ⟨hz,its,0,hv,Heap.get?_push_size _ rfl⟩
theorem Inv.fresh (I:Inv X pins σ H s):H s.heap.objs.size=none:=I.hok.fresh (Nat.le_refl _)
theorem Inv.lstM (I:Inv X pins σ H s) (hH:H l=some (.lst xs)):xs.length≤sizeLine∧∃(its:List Value) (n:Nat),Vals xs its∧xs.length=its.length∧s.heap.get? l=some { cls:=.type "list",data:=.seq its.toArray n }:=by
 obtain⟨z,its,n,r,e⟩:=I.hok l _ hH
 exact⟨z,its,n,r,r.length,e⟩
theorem notLongL {n:Nat} (h:n≤sizeLine):Builtin.List.listTooLong n=false:=by
 unfold Builtin.List.listTooLong
 exact decide_eq_false (by omega)
end
section
variable {X:Cx}
def rAppend:V→List V→Hp→VK→Prop:=fun x vs H Q=>∃l xs y,x=.ref l∧vs=[y]∧H l=some (.lst xs)∧xs.length <sizeLine∧Q .non (upd H l (.lst (xs ++ [y])))
theorem j0:MtM X "list.append" rAppend:=by
 intro pins s σ H x vs v us Q I rx rv h
 obtain⟨l,xs,y,rfl,rfl,hH,hz,q⟩:=h
 cases rx
 obtain⟨u,rfl,ru⟩:=rv.one
 obtain⟨z,its,n,r,hl,e⟩:=I.lstM hH
 refine call_meets F.slot_list_append ⟨_,e,rfl⟩ F.entry_list_append (F.args_list_append_2 _ _) (PySem.list_append l its.toArray n u (by rw [List.size_toArray];omega)) ⟨e,?_⟩
 refine⟨.non,_,I.lset (its':=its ++ [u]) hH e (by simp) (r.append (.cons ru .nil)) ?_,rfl,q⟩
 rw [List.length_append,List.length_singleton]
 omega
def rExtend:V→List V→Hp→VK→Prop:=fun x vs H Q=>∃l b xs zs,x=.ref l∧vs=[.ref b]∧H l=some (.lst xs)∧H b=some (.lst zs)∧xs.length+zs.length≤sizeLine∧Q .non (upd H l (.lst (xs ++ zs)))
theorem yU:MtM X "list.extend" rExtend:=by
 intro pins s σ H x vs v us Q I rx rv h
 obtain⟨l,b,xs,zs,rfl,rfl,hH,hB,hz,q⟩:=h
 cases rx
 obtain⟨u,rfl,ru⟩:=rv.one
 cases ru
 obtain⟨z,its,n,r,hl,e⟩:=I.lstM hH
 obtain⟨z2,its2,n2,r2,hl2,e2⟩:=I.lstM hB
 have hsz:its.toArray.size+its2.toArray.size≤sizeLine:=by rw [List.size_toArray,List.size_toArray];omega
 have hlong:¬(!its.toArray.isEmpty && Builtin.List.listTooLong (its.toArray.size+its2.toArray.size))=true:=by
  rw [notLongL hsz,Bool.and_false]
  exact Bool.false_ne_true
 refine call_meets F.slot_list_extend ⟨_,e,rfl⟩ F.entry_list_extend (F.args_list_extend_2 _ _)
  (AutoSeq1.list_extend_list_list_0 l its.toArray n b its2.toArray n2 hlong (by rw [List.size_toArray];omega) (by omega)) ⟨e,e2,?_⟩
 refine⟨.non,_,I.lset (its':=its ++ its2) hH e (by simp) (r.append r2) ?_,rfl,q⟩
 rw [List.length_append]
 omega
def rPop:V→List V→Hp→VK→Prop:=fun x vs H Q=>∃l xs y,x=.ref l∧vs=[]∧H l=some (.lst xs)∧xs[xs.length - 1]?=some y∧Q y (upd H l (.lst xs.dropLast))
theorem mt_pop:MtM X "list.pop" rPop:=by
 intro pins s σ H x vs v us Q I rx rv h
 obtain⟨l,xs,y,rfl,rfl,hH,hy,q⟩:=h
 cases rx
 have hus:=rv.zero
 subst hus
 obtain⟨z,its,n,r,hl,e⟩:=I.lstM hH
 obtain⟨u,hu,ru⟩:=r.get hy
 have hy':its.toArray[its.toArray.size - 1]?=some u:=by
  show its.toArray[its.length - 1]?=some u
  rw [←Array.getElem?_toList,←hl]
  exact hu
 refine call_meets F.slot_list_pop ⟨_,e,rfl⟩ F.entry_list_pop (F.args_list_pop_1 _) (MeetsSeq.list_pop_last l its.toArray n u hy' (by rw [List.size_toArray];omega)) ⟨e,?_⟩
 refine⟨y,_,I.lset (its':=its.dropLast) hH e ?_ r.dropLast ?_,ru,q⟩
 ·show its.toArray.eraseIdxIfInBounds (its.toArray.size - 1)=its.dropLast.toArray
  rw [List.size_toArray,List.eraseIdxIfInBounds_toArray,erase_last]
 ·rw [List.length_dropLast]
  omega
def rPopAt:V→List V→Hp→VK→Prop:=fun x vs H Q=>∃l xs i k y,x=.ref l∧vs=[.int i]∧H l=some (.lst xs)∧ -(2 ^ 63)≤i∧i <2 ^ 63∧seqIndex? i xs.length=some k∧xs[k]?=some y∧Q y (upd H l (.lst (xs.eraseIdx k)))
theorem Ao:MtM X "list.pop" rPopAt:=by
 intro pins s σ H x vs v us Q I rx rv h
 obtain⟨l,xs,i,k,y,rfl,rfl,hH,h1,h2,hk,hy,q⟩:=h
 cases rx
 obtain⟨u,rfl,ru⟩:=rv.one
 obtain⟨t,rfl⟩:=ru
 obtain⟨z,its,n,r,hl,e⟩:=I.lstM hH
 obtain⟨w,hw,rw'⟩:=r.get hy
 refine call_meets F.slot_list_pop ⟨_,e,rfl⟩ F.entry_list_pop (F.args_list_pop_2 _ _)
  (MeetsSeq.list_pop_at l its.toArray n i t k w (fitsIndex_both h1 h2) (by rw [List.size_toArray,←hl];exact hk) (by rw [←Array.getElem?_toList];exact hw) (by rw [List.size_toArray];omega)) ⟨e,?_⟩
 refine⟨y,_,I.lset (its':=its.eraseIdx k) hH e ?_ (r.eraseIdx k) ?_,rw',q⟩
 ·show its.toArray.eraseIdxIfInBounds k=(its.eraseIdx k).toArray
  rw [List.eraseIdxIfInBounds_toArray]
 ·have:=len_erase xs k
  omega
def rCat:R2:=fun x y H Q=>∃l b xs zs,x=.ref l∧y=.ref b∧H l=some (.lst xs)∧H b=some (.lst zs)∧xs.length+zs.length≤sizeLine∧∀p,H p=none→Q (.ref p) (upd H p (.lst (xs ++ zs)))
theorem op_cat:OpR X (binaryOp .Add) rCat:=by
 intro pins s σ H x y v u Q I rx ry h
 obtain⟨l,b,xs,zs,rfl,rfl,hH,hB,hz,q⟩:=h
 cases rx
 cases ry
 obtain⟨z,its,n,r,hl,e⟩:=I.lstM hH
 obtain⟨z2,its2,n2,r2,hl2,e2⟩:=I.lstM hB
 refine PySem.P.add_list e e2 ?_ (by rw [List.size_toArray,List.size_toArray];omega)
 have ea:its.toArray ++ its2.toArray=(its ++ its2).toArray:=by simp
 rw [ea]
 exact⟨.ref _,_,I.lnew (t':=s.toks) (r.append r2) (by rw [List.length_append];omega),rfl,q _ I.fresh⟩
end
section
variable {prog:Program} {w:World} {A:Around} {E:Value→Shared→Prop} {s:Shared}
end
section
variable {X:Cx}
end
end L2
namespace Att
open PySem PySem.W PySem.Calls PyProof.Rows
theorem ints_of_wellAll {P:Params} {h:Heap}:∀(ns:List Int) (vs:List Value),WellAll P h vs (ns.map WData.int)→IntsAre vs ns:=by
 intro ns
 induction ns with
 | nil=>
  intro vs w
  rw [List.map_nil] at w
  cases w
  exact .nil
 | cons n ns ih=>
  intro vs w
  rw [List.map_cons] at w
  cases w with
  | cons a b=>
   cases a
   exact .cons _ _ (ih _ b)
theorem script_of {l:OpenLaw} {n:Nat} (hn:l.most=some n) {P:Params} {h:Heap} {args:List WData} {vals:List Value}
  (hpre:l.row.toRowW.claim.pre args=true) (hwl:WellAll P h vals args):
  ∃a vs ns,vals=[Value.ref a]∧args=[WData.list (ns.map WData.int)]∧h.get? a=some { cls:=.type "list",data:=.seq vs.toArray }∧IntsAre vs ns∧ns.length≤n:=by
 have hsh:WShape.hasAll [] args [.list .int]=true:=(pre_splitW hpre).1
 have hc:l.pre.holds [] { args:=args }=true:=(pre_splitW hpre).2
 obtain⟨d,r,rfl,h1,h2⟩:=hasAllW_cons hsh
 obtain rfl:=hasAllW_nil h2
 obtain⟨xs,rfl,h3⟩:=hasW_list h1
 obtain⟨ns,rfl⟩:=items_int h3
 have hlen:ns.length≤n:=by
  unfold OpenLaw.pre at hc
  have h4:(WTm.not (.lt (.lit (.int (n:Int))) (.len (.arg 0)))).holds [] { args:=[.list (ns.map .int)] }=true:=by
   have h4:=(holds_andW hc).1
   rw [hn] at h4
   exact h4
  have h5:=condW_of h4 (w_not (w_lt w_lit (w_len_list (w_arg rfl))))
  rw [List.length_map] at h5
  refine Nat.le_of_not_lt fun q=>?_
  have q':(n:Int) <((ns.length:Nat):Int):=by omega
  first
   | (rw [decide_eq_true q'] at h5;exact absurd h5 (by decide))
   | (simp at h5;omega)
 cases hwl with
 | cons w1 w2=>
  cases w2
  cases w1 with
  | list ho hall=>exact⟨_,_,ns,rfl,rfl,ho,ints_of_wellAll ns _ hall,hlen⟩
theorem post_true (l:OpenLaw) (args:List WData):l.row.toRowW.claim.post args (.bool true) args=true:=
 postW_of (r:=l.row.toRowW) (X:=(true == true))
  (show WShape.has [] (.bool true) .bool=true by first | rfl | decide | simp [WShape.has,WShape.arms,WShape.armsAll])
  (show(WTm.eq .res (.lit (.bool true))).value [] { args:=args,res:=some (.bool true),after:=args }=some (.bool (true == true)) from w_eq_bool (w_res rfl) w_lit) rfl
theorem attach_call {l:OpenLaw} {n:Nat} {q:Program} {loose:List Str} {XP:(Str→Option Value)→Heap→Prop} {YP:World→Heap→Prop} {d:DefRec}
  (hn:l.most=some n) (hdf:d.params.defaults=[])
  (call:∀(w:World) (s₀ s₁:Shared) (mg mb:Str→Option Value) (fa:Addr) (o:Obj) (pm cd doc:Value) (a:Addr) (vs:List Value) (ns:List Int),
   Ground q loose [] XP w s₀ mg mb s₁.heap→YP w s₁.heap→
   s₁.heap.get? fa=some o→o.data=.func (docDef d.name d.params d.body d.scope pm cd doc)→s₁.heap.CodeRec cd d.name→mg d.name=some (.ref fa)→
   s₁.heap.get? a=some { cls:=.type "list",data:=.seq vs.toArray }→IntsAre vs ns→ns.length≤n→s₁.gens= #[]→
   codeAny (model l.prog w) callerA (.call (.ref fa) ⟨[.ref a],[]⟩) (fun r s'=>r=.ok (.ret (.bool true))∧OldK s₁.heap s'.heap∧s'.os=s₁.os∧AllBare s'.gens) s₁):
  WalkO q loose XP YP l.row.toRowW d [] (fun f vs=>PySem.call f vs):=by
 intro w s₀ s₁ mg mb G Y fa o pm cd doc dV kV ho hd hcd hD hmg hg args vals as hpre hlay hrd hwl hlo
 obtain rfl:dV=.none:=Dflts.none hD hdf
 obtain rfl:kV=.none:=Dflts.noKw hD
 obtain⟨a,vs,ns,rfl,rfl,hobj,hints,hlen⟩:=script_of hn hpre hwl
 refine enter_call (codeAny_mono (call w s₀ s₁ mg mb fa o pm cd doc a vs ns G Y ho (fd_plain hd) hcd hmg hobj hints hlen hg) fun r s' hq=>?_)
 obtain⟨rfl,h2,h3,h4⟩:=hq
 exact⟨.inl ⟨.bool true,.bool true,[],rfl,fun _=>rfl,.bool true,post_true l _,fun _=>⟨List.Pairwise.nil,fun _ hm=>(nomatch hm)⟩⟩,h2,h3,h4⟩
section
variable {prog:Program} {w:World} {A:Around} {E:Value→Shared→Prop} {s:Shared} {K:Frag}
end
end Att
namespace L2
open PySem PySem.Spec PyProof.Rows
theorem vals_ints:∀{vs:List Value} {ns:List Int},IntsAre vs ns→Vals (ns.map V.int) vs
 | _,_,.nil=>.nil
 | _,_,.cons n t h=>.cons ⟨t,rfl⟩ (vals_ints h)
def Only (H:Hp):Prop:=∀b,H b=none∨∃o xs,H b=some (.frz o (.lst xs))
theorem law_call {P:Program} {w:World} {K:PySem.W.Frag} {mg mb:Str→Option Value} {CX:CXT} {k:Nat} {fa a:Addr} {fd:FuncData} {x:Str} {sp:Sp} {s₁:Shared} {vs:List Value} {ns:List Int}
  (KX:K.In s₁.heap) (hns:s₁.heap.Ns mainGlobals mg) (hb:s₁.heap.Ns builtinsNs mb) (hbb:∀x:Str,x≠ "__name__" →mb x=bootBuiltins x) (hlim:s₁.heap.NoLimit) (hg:s₁.gens= #[])
  (ha:s₁.heap.get? a=some { cls:=.type "list",data:=.seq vs.toArray }) (hi:IntsAre vs ns) (hl:ns.length≤sizeLine) (hr:Room k callerA)
  (F:∀base:Heap,K.In base→base.Ns mainGlobals mg→FnOk P w K mg base CX k fa fd [x] sp) (hbind:∀(s:Shared) (u:Value),BindsTo s fd ⟨[u],[]⟩ [(x,u)])
  (hsp:∀H:Hp,Only H→SqL K H a (ns.map V.int)→sp [.ref a] H (fun v _=>v=.bl true) fun _ _ _=>False)
  (hCX:∀H e s',CX [] H s₁ (fun _ _ _=>False) e s'→False):
  codeAny (model P w) callerA (.call (.ref fa) ⟨[.ref a],[]⟩) (fun r s'=>r=.ok (.ret (.bool true))∧OldK s₁.heap s'.heap∧s'.os=s₁.os∧AllBare s'.gens) s₁:=by
 have rv:=vals_ints hi
 have lenV:=hi.length
 have core:∀H:Hp,Only H→SqL K H a (ns.map V.int)→HOk P w H s₁.heap→(∀b,H b≠none→b=a)→(H a≠none→K.lookup a=none)→
   codeAny (model P w) callerA (.call (.ref fa) ⟨[.ref a],[]⟩) (fun r s'=>r=.ok (.ret (.bool true))∧OldK s₁.heap s'.heap∧s'.os=s₁.os∧AllBare s'.gens) s₁:=by
  intro H hO hS hok hA hK
  have base_of:∀{b:Addr} {o:Obj},s₁.heap.get? b=some o→H b=none→(hidT s₁.heap H).get? b=some o:=fun e n=>hidT_get e n
  have noA:∀{b:Addr} {o:Obj} {es:Array DictEntry} {ep:Nat},s₁.heap.get? b=some o→o.data=.dict es ep→H b=none:=fun {b o es ep} e d=>by
   cases q:H b with
   | none=>rfl
   | some u=>
    have e':b=a:=hA b (by rw [q];simp)
    subst e'
    rw [ha] at e;cases e
    have d':Data.seq vs.toArray _=Data.dict es ep:=d
    cases d'
  have nsK:∀{b:Addr} {m:Str→Option Value},s₁.heap.Ns b m→(hidT s₁.heap H).Ns b m:=fun {b m} ⟨o,es,ep,e,d,r⟩=>⟨o,es,ep,base_of e (noA e d),d,r⟩
  have hKb:K.In (hidT s₁.heap H):=fun b o e=>base_of (KX b o e) (by
   cases q:H b with
   | none=>rfl
   | some u=>
    have e':b=a:=hA b (by rw [q];simp)
    subst e'
    rw [hK (by rw [q];simp)] at e;cases e)
  have hM:Mod K mg (hidT s₁.heap H):=⟨hKb,nsK hns,⟨mb,nsK hb,hbb⟩,let ⟨mc,h1,h2⟩:=hlim;⟨mc,nsK h1,h2⟩⟩
  have e0:Env0 P w K mg (hidT s₁.heap H) callerA [] s₁ H:=⟨rfl,hM,fun b o e=>of_hidT e,Nat.le_of_eq (hidT_size _ _),trivial,fun b hb=>absurd (show b∈([]:List Addr) from hb) (by simp),hok,.of_eq hg⟩
  refine codeAny_mono ((F _ hKb (nsK hns)).run callerA [] s₁ H ⟨[.ref a],[]⟩ [.ref a] [.ref a] _ _ hr e0 (hbind s₁ (.ref a)) (.cons rfl .nil) (hsp H hO hS)) fun r s' h=>?_
  cases r with
  | error e=>exact(hCX H e s' h).elim
  | ok fl=>
   cases fl with
   | next=>exact False.elim h
   | brk=>exact False.elim h
   | cont=>exact False.elim h
   | ret u=>
    obtain⟨v,H',os,bare,un,hok',r',q⟩:=h
    have q':v=.bl true:=q
    subst q'
    obtain rfl:u=Value.bool true:=r'
    refine⟨rfl,OldK.of_keep fun b o e=>?_,os,bare⟩
    cases q:H b with
    | none=>exact un.keep b o e q (by intro z;exact absurd (show b∈([]:List Addr) from z) (by simp)) (by simp)
    | some u=>
     rcases hO b with z | ⟨ob,xs,z⟩
     ·rw [q] at z;cases z
     ·have z2:=un.frzs b ob _ z
      obtain⟨e1,_⟩:=hok b _ z
      obtain⟨e2,_⟩:=hok' b _ z2
      rw [e] at e1;cases e1
      exact e2
 cases hk:K.lookup a with
 | some o=>
  have e:=KX a o hk
  rw [ha] at e
  cases e
  refine core (fun _=>none) (fun _=>.inl rfl) (.inr ⟨_,vs.toArray,_,hk,rfl,rfl,rfl,by rw [List.size_toArray,lenV];exact hl,by simpa using rv⟩) (fun b u z=>by have z':(none:Option HO)=some u:=z;cases z') (fun b z=>absurd rfl z) fun z=>absurd rfl z
 | none=>
  refine core (fun b=>if b=a then some (.frz { cls:=.type "list",data:=.seq vs.toArray } (.lst (ns.map V.int))) else none) (fun b=>?_) (.inl (.inr ⟨{ cls:=.type "list",data:=.seq vs.toArray },if_pos rfl⟩)) (fun b u z=>?_) (fun b z=>?_) fun _=>hk
  ·by_cases hb:b=a
   ·exact .inr ⟨_,_,if_pos hb⟩
   ·exact .inl (if_neg hb)
  ·by_cases hb:b=a
   ·have z':=(if_pos hb).symm.trans z
    cases z'
    subst hb
    exact⟨ha,by rw [List.length_map];exact hl,vs,_,rv,ha⟩
   ·have z':=(if_neg hb).symm.trans z
    cases z'
  ·by_cases hb:b=a
   ·exact hb
   ·exact absurd (if_neg hb) z
end L2
namespace L2
open PySem PySem.Spec PyProof.Rows
theorem walk_of {l:PySem.W.OpenLaw} {n k:Nat} {q:Program} {loose:List Str} {XP:(Str→Option Value)→Heap→Prop} {YP:World→Heap→Prop} {d:DefRec} {K:Params→PySem.W.Frag} {CX:World→CXT} {sp:World→Sp} {x:Str}
  (hn:l.most=some n) (hn2:n≤sizeLine) (hdf:d.params.defaults=[]) (hr:Room k callerA)
  (hY:∀(w:World) (h:Heap),YP w h→(K w.params).In h)
  (F:∀(w:World) (mg:Str→Option Value) (fa:Addr) (h:Heap),(K w.params).In h→h.Ns mainGlobals mg→mg d.name=some (.ref fa)→
   ∃fd:FuncData,(∀(s:Shared) (u:Value),BindsTo s fd ⟨[u],[]⟩ [(x,u)])∧
    ∀base:Heap,(K w.params).In base→base.Ns mainGlobals mg→FnOk l.prog w (K w.params) mg base (CX w) k fa fd [x] (sp w))
  (hsp:∀(w:World) (H:Hp) (a:Addr) (ns:List Int),ns.length≤n→Only H→SqL (K w.params) H a (ns.map V.int)→sp w [.ref a] H (fun v _=>v=.bl true) fun _ _ _=>False)
  (hCX:∀(w:World) (H:Hp) (s:Shared) (e:Value) (s':Shared),CX w [] H s (fun _ _ _=>False) e s'→False):
  PySem.W.WalkO q loose XP YP l.row.toRowW d [] (fun f vs=>PySem.call f vs):=by
 refine Att.attach_call hn hdf fun w s₀ s₁ mg mb fa o pm cd doc a vs ns G Y ho hd hcd hmg hobj hints hlen hg=>?_
 have KX:=hY w _ Y
 obtain⟨fd,hb,hF⟩:=F w mg fa _ KX G.T.g hmg
 exact law_call KX G.T.g G.T.b G.T.builtins G.T.nolimit hg hobj hints (Nat.le_trans hlen hn2) hr hF hb (fun H hO hS=>hsp w H a ns hlen hO hS) fun H e s'=>hCX w H s₁ e s'
end L2
namespace L2
open PySem PySem.Spec PyProof.Rows
def inClass (s:Stmt) (j:Nat):Stmt:=match s with
 | .ClassDef _ _ _ body _ _ _ _ _ _ _=>body.getD j (.Pass ⟨0,0,0,0⟩)
 | _=>.Pass ⟨0,0,0,0⟩
def aU (s:Stmt):Arguments:=match s with
 | .FunctionDef _ a _ _ _ _ _ _ _ _=>a
 | _=>{ posonlyargs:=[],args:=[],vararg:=none,kwonlyargs:=[],kw_defaults:=[],kwarg:=none,defaults:=[] }
def aR (s:Stmt):List Stmt:=match s with
 | .FunctionDef _ _ b _ _ _ _ _ _ _=>b
 | _=>[]
def aA (s:Stmt):Scope:=match s with
 | .FunctionDef _ _ _ _ _ _ sc _ _ _=>sc
 | _=>{ kind:=.function,names:=[],isGenerator:=false,isCoroutine:=false }
abbrev CX0:CXT:=fun _ _ _ _ _ _=>False
abbrev E0:XK:=fun _ _ _=>False
theorem aO {X:Cx}:oO CX0 X E0:=fun _ _ _ _ _ _ _ h=>h.elim
structure Fun (K:PySem.W.Frag) (x qual:Str) (st:Stmt) (f:Addr) (fd:FuncData):Prop where
 ex:∃(oc:Value) (od:Option Addr) (kV doc pm:Value) (an:Option Addr) (cdv ct:Value) (osl:Array (Option Value)),
  fd=PySem.W.fnOf x qual (aU st) (aR st) (aA st) .none kV doc pm an cdv ct∧K.lookup f=some ⟨oc,od,.func fd,osl⟩∧PySem.W.codeIn K cdv qual=true
 kp:PySem.W.keepIn K (.ref f)=true
section
variable {P:Program} {w:World} {K:PySem.W.Frag} {mg:Str→Option Value} {base:Heap}
theorem Fun.ok {x qual:Str} {st:Stmt} {f:Addr} {fd:FuncData} {N ps:List Str} {k:Nat} {sp:Sp} (F:Fun K x qual st f fd) (S:FnScope N ps (aA st)) (len:∀vs H Q E,sp vs H Q E→vs.length=ps.length)
  (hbody:∀(cdv:Value) (A:Around) (outer:List Env) (s:Shared) (H:Hp) (vs:List V) (Q:VK) (E:XK),Room k (A.deeper (envOfC qual (aA st) s.heap.objs.size f cdv))→sp vs H Q E→
   ∃t,PSs (jz CX0 P w K mg base N qual (aA st) f cdv A outer s H E).nox (aR st) t∧t { nx:=fun _ H'=>Q .non H',rt:=Q } (start N vs) H):FnOk P w K mg base CX0 (k+1) f fd ps sp:=by
 obtain⟨oc,od,kV,doc,pm,an,cdv,ct,osl,rfl,lk,hcd⟩:=F.ex
 refine fn_of lk hcd S len fun A outer s H vs Q E hr hsp=>?_
 obtain⟨t,h,q⟩:=hbody cdv A outer s H vs Q E hr hsp
 exact⟨t,h.nox,q⟩
theorem Fun.binds {x qual:Str} {st:Stmt} {f:Addr} {fd:FuncData} {ps:List Str} (F:Fun K x qual st f fd)
  (h:∀(kV doc pm:Value) (an:Option Addr) (cdv ct:Value) (us:List Value),us.length=ps.length→bindArgs (PySem.W.fnOf x qual (aU st) (aR st) (aA st) .none kV doc pm an cdv ct) ⟨us,[]⟩=pure (ps.zip us)):Binds K fd ps []:=by
 obtain⟨oc,od,kV,doc,pm,an,cdv,ct,osl,rfl,lk,hcd⟩:=F.ex
 exact .all (h kV doc pm an cdv ct)
theorem bc {x qual:Str} {st:Stmt} {f:Addr} {oc:Value} {od an:Option Addr} {osl:Array (Option Value)} {kV doc pm cdv ct:Value} (l:K.lookup f=some ⟨oc,od,.func (PySem.W.fnOf x qual (aU st) (aR st) (aA st) .none kV doc pm an cdv ct),osl⟩)
  (c:PySem.W.codeIn K cdv qual=true) (k:PySem.W.keepIn K (.ref f)=true):Fun K x qual st f (PySem.W.fnOf x qual (aU st) (aR st) (aA st) .none kV doc pm an cdv ct):=⟨⟨oc,od,kV,doc,pm,an,cdv,ct,osl,rfl,l,c⟩,k⟩
end
section
variable {X:Cx}
theorem pv (i:Nat) {x:Str} {pos:Pos} (hN:X.N[i]?=some x:=by rfl) (hv:Vis X.env.scope x:=by first | exact Or.inl rfl | exact Or.inr (Or.inl rfl) | exact Or.inr (Or.inr rfl)) (hd:(x == ("__debug__" :Str))=false:=by decide)
  (hcd:(x == ("__classdict__" :Str))=false:=by decide):PE X (.Name x pos) (tVar i):=pe_var hN hv hd hcd
end
theorem fX {A B:Prop} (h:B):if false=true then A else B:=by
 rw [if_neg Bool.false_ne_true]
 exact h
theorem lX {A B:Prop} (h:A):if true=true then A else B:=by
 rw [if_pos rfl]
 exact h
theorem jM {c A B:Prop} [Decidable c] (h1:c→A) (h2:¬c→B):if c then A else B:=by
 by_cases h:c
 ·rw [if_pos h]
  exact h1 h
 ·rw [if_neg h]
  exact h2 h
def aQ (H H':Hp):Prop:=∀b o,H b=some o→H' b=some o
theorem aQ.refl (H:Hp):aQ H H:=fun _ _ h=>h
theorem aQ.trans {H H1 H2:Hp} (a:aQ H H1) (b:aQ H1 H2):aQ H H2:=fun c o h=>b c o (a c o h)
theorem aQ.free {H H':Hp} (e:aQ H H') {l:Addr} (h:H' l=Option.none):H l=Option.none:=by
 cases q:H l with
 | none=>rfl
 | some o=>
  rw [e l o q] at h
  cases h
theorem aQ.seq {K:PySem.W.Frag} {H H':Hp} {a:Addr} {xs:List V} (e:aQ H H') (h:SqL K H a xs):SqL K H' a xs:=by
 rcases h with (h | ⟨o,h⟩) | h
 ·exact .inl (.inl (e _ _ h))
 ·exact .inl (.inr ⟨o,e _ _ h⟩)
 ·exact .inr h
end L2
set_option Elab.async false
set_option linter.all false
set_option maxRecDepth 100000
set_option Elab.async false
set_option maxHeartbeats 4000000
namespace L2
open PySem PySem.Spec PyProof.Rows
theorem hok_track {P:Program} {w:World} {H:Hp} {h:Heap} {a:Addr} {o:HO} (x:HOk P w H h) (hn:H a=none) (new:dC P w (upd H a o) h a o):HOk P w (upd H a o) h:=fun b u e=>by
 by_cases hb:b=a
 ·subst hb;rw [au] at e;cases e;exact new
 ·rw [aH hb] at e
  exact(x b u e).stay (fun c v _ q=>q) (fun c q=>by rw [aH (aF q hn)];exact q) fun c xs q=>by rw [aH (aF q hn)];exact q
theorem Ax {α β:Type} {f:α→β→Sem (ForInStep β)} (g:α→β→β):∀(l:List α) (c:β),(∀x∈l,∀c,f x c=pure (.yield (g x c)))→forIn l c f=pure (l.foldl (fun c x=>g x c) c)
 | [],_,_=>rfl
 | x:: l,c,h=>by
  rw [List.forIn_cons,h x List.mem_cons_self,pure_bind]
  exact Ax g l (g x c) fun y hy=>h y (List.mem_cons_of_mem _ hy)
def wG (env:Env) (x:Str×NameKind) (cs:List (Str×Addr)):List (Str×Addr):=
 if x.2=.free then(match env.cells.lookup x.1 with | some c=>(x.1,c):: cs | none=>cs) else cs
def clos (env:Env) (l:List (Str×NameKind)) (c:List (Str×Addr)):List (Str×Addr):=l.foldl (fun c x=>wG env x c) c
theorem wO {env:Env} {scope:Scope} (h:∀y∈scope.names,y.2=.free→∃c,env.cells.lookup y.1=some c):closureFor scope env=pure (clos env scope.names []):=by
 simp only [closureFor]
 rw [Ax (wG env) scope.names [] fun x hx c=>?_]
 ·rfl
 ·obtain⟨n,k⟩:=x
  by_cases hk:k=.free
  ·subst hk
   obtain⟨a,ha⟩:=h _ hx rfl
   have ha':env.cells.lookup n=some a:=ha
   simp [cellOf,ha',wG]
  ·have:(k == NameKind.free)=false:=by simpa using hk
   simp [this,wG,hk]
theorem clos_sub {env:Env}:∀(l:List (Str×NameKind)) (c:List (Str×Addr)),(∀y a,c.lookup y=some a→env.cells.lookup y=some a)→∀y a,(clos env l c).lookup y=some a→env.cells.lookup y=some a
 | [],_,h=>h
 | x:: l,c,h=>by
  refine clos_sub l (wG env x c) fun y a e=>?_
  unfold wG at e
  by_cases hk:x.2=.free
  ·rw [if_pos hk] at e
   cases q:env.cells.lookup x.1 with
   | none=>rw [q] at e;exact h y a e
   | some b=>
    rw [q] at e
    by_cases hy:(y == x.1)=true
    ·have:y=x.1:=by simpa using hy
     subst this
     have e':((x.1,b):: c).lookup x.1=some a:=e
     simp [List.lookup_cons] at e'
     rw [q,e']
    ·have hy':(y == x.1)=false:=by simpa using hy
     have e':((x.1,b):: c).lookup y=some a:=e
     rw [List.lookup_cons,hy'] at e'
     exact h y a e'
  ·rw [if_neg hk] at e;exact h y a e
theorem Av {env:Env}:∀(l:List (Str×NameKind)) (c:List (Str×Addr)) (y:Str),((∃a,c.lookup y=some a)∨∃k∈l,k.1=y∧k.2=.free∧∃a,env.cells.lookup y=some a)→∃a,(clos env l c).lookup y=some a
 | [],_,_,h=>by
  rcases h with h | ⟨k,hk,_⟩
  ·exact h
  ·cases hk
 | x:: l,c,y,h=>by
  refine Av l (wG env x c) y ?_
  have up:(∃a,c.lookup y=some a)→∃a,(wG env x c).lookup y=some a:=fun⟨a,e⟩=>by
   unfold wG
   split
   ·split
    ·rename_i b q
     by_cases hy:(y == x.1)=true
     ·exact⟨b,by rw [List.lookup_cons,hy]⟩
     ·have hy':(y == x.1)=false:=by simpa using hy
      exact⟨a,by rw [List.lookup_cons,hy'];exact e⟩
    ·exact⟨a,e⟩
   ·exact⟨a,e⟩
  rcases h with h | ⟨k,hk,h1,h2,a,h3⟩
  ·exact .inl (up h)
  ·rcases List.mem_cons.mp hk with e | hk
   ·subst e
    left
    unfold wG
    rw [if_pos h2,h1,h3]
    exact⟨a,by simp [List.lookup_cons]⟩
   ·exact .inr ⟨k,hk,h1,h2,a,h3⟩
theorem uR (scope:Scope) (env:Env) (y:Str):(relabel scope env).names.lookup y=(scope.names.lookup y).map fun k=>if (k == NameKind.free && env.scope.kind == .function && env.kindOf y == some .cell)=true then .cell else k:=by
 show(scope.names.map _).lookup y=_
 induction scope.names with
 | nil=>rfl
 | cons p l ih=>
  obtain⟨n,k⟩:=p
  rw [List.map_cons]
  show List.lookup y ((if (k == NameKind.free && env.scope.kind == .function && env.kindOf n == some .cell)=true then(n,NameKind.cell) else(n,k)):: _)=_
  by_cases hy:(y == n)=true
  ·have:y=n:=by simpa using hy
   subst this
   by_cases hc:(k == NameKind.free && env.scope.kind == .function && env.kindOf y == some .cell)=true
   ·rw [if_pos hc]
    simp only [List.lookup_cons,beq_self_eq_true,Option.map_some]
    rw [if_pos hc]
   ·rw [if_neg hc]
    simp only [List.lookup_cons,beq_self_eq_true,Option.map_some]
    rw [if_neg hc]
  ·have hy':(y == n)=false:=by simpa using hy
   by_cases hc:(k == NameKind.free && env.scope.kind == .function && env.kindOf n == some .cell)=true
   ·rw [if_pos hc]
    simp only [List.lookup_cons,hy']
    exact ih
   ·rw [if_neg hc]
    simp only [List.lookup_cons,hy']
    exact ih
theorem pure_elim {α β:Type} {M:Model} {A:Around} {a:α} {Q:α→Shared→Prop} {E:Value→Shared→Prop} {m:Sem β} {Q':β→Shared→Prop} {E':Value→Shared→Prop} {s:Shared} (h:wpAny M A (pure a) Q E s) (k:Q a s→wpAny M A m Q' E' s):
  wpAny M A m Q' E' s:=fun Γ p hΓ=>k (h Γ p hΓ) Γ p hΓ
def gh (N:List Str) (js:List Nat):List Str:=js.map fun j=>(N[j]?).getD Str.empty
def eQ (σ:St) (js:List Nat):St:=js.map fun j=>(σ[j]?).join
def xx (X:Cx) (scope:Scope) (x:Str) (js:List Nat) (cl:List (Str×Addr)) (C:Addr) (s:Shared) (H:Hp) (ex:List Addr):Cx where
 prog:=X.prog
 w:=X.w
 K:=X.K
 mg:=X.mg
 base:=X.base
 A:=X.A
 N:=x:: gh X.N js
 s₀:=s
 H₀:=H
 env:=compEnvC scope cl C X.env
 outer:=X.stack
 stack:=X.stack
 ex:=ex
 fn:=fun _=>false
 calm:=X.calm
 pn:=[]
 xe:=fun _ _=>False
def PF (X:Cx) (ifs:List Expr) (t:TT):Prop:=
 ∀(pins:List (Addr×Obj)) (s:Shared) (σ:St) (H:Hp) (Q:Bool→Hp→Prop),Inv X pins σ H s→t σ H Q→
  wpAny (model X.prog X.w) X.A (forIn ifs true fun c r=>if r=true then do let ok ←isTrue c X.env (eval c X.env);pure (ForInStep.yield ok) else pure (ForInStep.yield r)) (TP X pins σ Q) X.xe s
def tYes:TT:=fun _ H Q=>Q true H
theorem mL {X:Cx}:PF X [] tYes:=fun _ _ _ H _ I h=>wpAny_pure ⟨H,I,h⟩
theorem pf_one {X:Cx} {c:Expr} {t:TT} (hc:PT X c t):PF X [c] t:=by
 intro pins s σ H Q I h
 rw [List.forIn_cons,if_pos rfl]
 refine wpAny_bind (wpAny_bind (thn (hc pins s σ H Q I h) fun b s1 q=>wpAny_pure ?_))
 show wpAny (model X.prog X.w) X.A (pure b) (TP X pins σ Q) X.xe s1
 exact wpAny_pure q
def CompEnd (js:List Nat) (tt:TT) (te:TE) (σ:St) (Qd:List V→Hp→Prop) (J:It) (H1:Hp):Prop:=∃W:Nat→Nat→List V→Hp→Prop,(∃m,W 0 m [] H1)∧∀i m ys H2,W i m ys H2→
 (J.stop i H2∧ys.length≤sizeLine∧Qd ys H2)∨
 (J.go i H2∧ys.length <sizeLine∧∃N:List V→Hp→Prop,(∀ys' H',N ys' H'→∃m',m' <m∧W (i+1) m' ys' H')∧∀x H3,J.yld i H2 x H3→tt (some x:: eQ σ js) H3 fun b H4=>
  if b=true then te (some x:: eQ σ js) H4 fun y H5=>N (ys ++ [y]) H5 else N ys H4)
def tComp (js:List Nat) (wi:TI) (tt:TT) (te:TE):TE:=fun σ H Q=>wi σ H (CompEnd js tt te σ fun ys H2=>∀D,H2 D=none→Q (.ref D) (upd H2 D (.lst ys)))
section
variable {X:Cx} {x:Str} {px pos:Pos} {iter elt:Expr} {ifs:List Expr} {scope:Scope} {wi:TI} {tt:TT} {te:TE}
theorem BJ (js:List Nat) {pins:List (Addr×Obj)} {σ:St} {s:Shared} {itv:Value} {Q:List V→Hp→Prop} {RR:Value→Addr→Result→Shared→Prop} {E:Value→Shared→Prop}
  (hc:X.calm=true) (hk:scope.kind=.function) (hx:scope.names.lookup x=some .local) (hcell:∀y∈scope.names,y.2≠.cell)
  (hfree:∀y∈scope.names,y.2=.free→X.env.kindOf y.1=some .cell∨X.env.kindOf y.1=some .free)
  (hN:(x:: gh X.N js).Nodup) (hjs:∀y∈gh X.N js,scope.names.lookup y=some .free)
  (hif:∀cl C s H ex,PF (xx X scope x js cl C s H ex) ifs tt) (he:∀cl C s H ex,PE (xx X scope x js cl C s H ex) elt te)
  (hit:PIE X pins σ (.Name x px) (CompEnd js tt te σ Q) itv s)
  (hR:∀D C s' H2 ys m,Inv X pins σ (upd H2 D (.lst ys)) s'→H2 D=none→s'.heap.Ns C m→(∀h',Heap.SameBut C s'.heap h'→Inv X pins σ (upd H2 D (.lst ys)) { s' with heap:=h' })→FpOk X pins (upd H2 D (.lst ys)) C→C≠D→Q ys H2→RR (.ref D) C (.ok .next) s'):
  wpAny (model X.prog X.w) X.A (newList []) (fun acc s₃=>wpAny (model X.prog X.w) X.A (newFunctionEnv scope X.env.globals (clos X.env scope.names []) [] X.env.qual none .none (some X.env)) (fun cenv s₄=>
   codeAny (model X.prog X.w) X.A (.compStart (.ListComp elt [⟨.Name x px,iter,ifs,0⟩] scope pos) 0 itv acc { cenv with scope:=relabel scope X.env }) (RR acc cenv.locals) s₄) E s₃) E s:=by
 obtain⟨it,fp,tn,J,H1,rfl,I1,T,st1,f1,W,⟨m0,w0⟩,turn⟩:=hit
 refine wpAny_newObj_type (wpAny_newFunctionEnv hcell (by intro y hy;simp at hy) (fun h₁ hns₁ hsb₁=>?_) hk)
 dsimp only at hns₁ hsb₁ ⊢
 generalize hH2:s.heap.push { cls:=.type "list",dict:=none,data:=.seq ([]:List Value).toArray }=Hl at hns₁ hsb₁ ⊢
 generalize hDe:s.heap.objs.size=D
 have hCe:Hl.objs.size=D+1:=by rw [←hH2,Heap.size_push,hDe]
 generalize hC:Hl.objs.size=C at hns₁ hsb₁ hCe ⊢
 subst hCe
 have hDC:D≠D+1:=Nat.ne_of_lt (Nat.lt_succ_self _)
 have lt:∀b o,s.heap.get? b=some o→b <D:=fun b o e=>hDe ▸ Heap.lt_size e
 have old:∀b o,s.heap.get? b=some o→h₁.get? b=some o:=fun b o e=>by
  have hb:=lt b o e
  refine hsb₁.extBut b o (Nat.ne_of_lt (Nat.lt_succ_of_lt hb)) (Heap.get?_push_of_some _ ?_)
  rw [←hH2];exact Heap.get?_push_of_some _ e
 have accD:h₁.get? D=some { cls:=.type "list",dict:=none,data:=.seq ([]:List Value).toArray }:=by
  refine hsb₁.extBut _ _ hDC (Heap.get?_push_of_some _ ?_)
  rw [←hH2,←hDe];exact Heap.get?_push_size _ rfl
 have fresh:∀a,D≤a→H1 a=none:=fun a ha=>I1.hok.fresh (by rw [hDe];exact ha)
 have fpD:∀b∈fp,b <D:=fun b hb=>by
  obtain⟨o,e,_⟩:=T.obj 0 s.heap st1 b hb
  exact lt b o e
 have cellD:∀y c,X.env.cells.lookup y=some c→c <D:=fun y c e=>by
  obtain⟨v,q⟩:=I1.cell y c e
  exact hDe ▸ q.lt
 generalize hcl:clos X.env scope.names []=cl
 have clsub:∀y c,cl.lookup y=some c→X.env.cells.lookup y=some c:=by
  rw [←hcl];exact clos_sub scope.names [] fun y a e=>by simp at e
 have frD:∀b∈frs X.stack,b <D:=fun b hb=>by
  obtain⟨_,o,ho,_⟩:=I1.stack.mem hb
  exact lt b o ho
 let Y:Cx:=xx X scope x js cl (D+1) s H1 fp
 have kinds:∀y,Y.env.kindOf y=some .cell∨Y.env.kindOf y=some .free→∃k∈scope.names,k.1=y∧k.2=.free:=fun y hy=>by
  have hy':(relabel scope X.env).names.lookup y=some .cell∨(relabel scope X.env).names.lookup y=some .free:=hy
  rw [uR] at hy'
  cases q:scope.names.lookup y with
  | none=>rw [q] at hy';simp at hy'
  | some k=>
   have hm:=PySem.mem_of_lookup q
   refine⟨(y,k),hm,rfl,?_⟩
   have h1:k≠.cell:=hcell _ hm
   rw [q] at hy'
   simp only [Option.map_some,Option.some.injEq] at hy'
   by_cases hkf:k=.free
   ·exact hkf
   ·have:(k == NameKind.free)=false:=by simpa using hkf
    simp only [this,Bool.false_and,Bool.false_eq_true,if_false] at hy'
    rcases hy' with e | e
    ·exact absurd e h1
    ·exact absurd e hkf
 have okY:Y.Ok:=by
  refine⟨I1.ok.mod,hk,I1.ok.glob,I1.ok.blt,(by show s.heap.objs.size≤D+1;rw [hDe];exact Nat.le_succ _),fun y z c h1 h2=>I1.ok.inj y z c (clsub y c h1) (clsub z c h2),fun y hy=>?_,fun y c h _=>absurd h (by show ¬(false=true);decide),I1.ok.hd,I1.ok.frames,.inl rfl,fun b hb=>⟨Nat.ne_of_lt (Nat.lt_succ_of_lt (fpD b hb)),fun y c e z=>(f1 b hb).2.2.2.2.1 y c (clsub y c e) z⟩,
   fun b o e=>I1.bs b o e,Nat.le_trans I1.ok.bsz I1.sz,fun b o e hb=>?_,fun b hb hf=>?_,I1.stack,I1.stkFree⟩
  ·obtain⟨k,hm,e1,e2⟩:=kinds y hy
   show ∃c,cl.lookup y=some c
   rw [←hcl]
   refine Av scope.names [] y (.inr ⟨k,hm,e1,e2,?_⟩)
   have:=hfree k hm e2
   rw [e1] at this
   exact I1.ok.has y this
  ·obtain⟨_,_,_,h4,_,_⟩:=f1 b hb
   rcases h4 with z | z
   ·exact I1.ok.noex b o e z
   ·exact absurd (Nat.lt_of_lt_of_le (Heap.lt_size e) (Nat.le_trans I1.ok.bsz z)) (Nat.lt_irrefl _)
  ·rcases List.mem_cons.mp (I1.stkSub b hf) with z | z
   ·exact(f1 b hb).2.1 z
   ·exact(f1 b hb).2.2.1 z
 have hxl:Y.env.scope.names.lookup x=some .local:=lookup_relabel_local hx
 let σ0:St:=none:: eQ σ js
 have IY:Inv Y [] σ0 H1 { s with heap:=h₁,toks:=s.toks+([]:List (Str×Value)).length }:=by
  refine⟨okY,rfl,I1.bare,Un.kept old,⟨_,hns₁,fun i y v e1 e2 e3=>?_⟩,fun y c e=>?_,fresh _ (Nat.le_succ _),fun y c e=>I1.freeC y c (clsub y c e),fun p hp=>absurd (show p∈([]:List (Addr×Obj)) from hp) (by simp),I1.hok.kept old,?_⟩
  ·cases i with
   | zero=>cases e2
   | succ i=>
    have e1':(gh X.N js)[i]?=some y:=e1
    have e2':(eQ σ js)[i]?=some (some v):=e2
    unfold gh at e1'
    unfold eQ at e2'
    rw [List.getElem?_map] at e1' e2'
    cases q:js[i]? with
    | none=>rw [q] at e1';cases e1'
    | some j=>
     rw [q] at e1' e2'
     simp only [Option.map_some,Option.some.injEq] at e1' e2'
     have hv:σ[j]?=some (some v):=by
      cases z:σ[j]? with
      | none=>rw [z] at e2';cases e2'
      | some w=>rw [z] at e2';simpa using e2'
     have hj:j <X.N.length:=by
      rw [←I1.len];exact(List.getElem?_eq_some_iff.mp hv).1
     have hy:X.N[j]?=some y:=by
      rw [List.getElem?_eq_getElem hj] at e1' ⊢
      rw [←e1'];rfl
     obtain⟨m,hn,hl⟩:=I1.loc
     have hmem:y∈gh X.N js:=List.mem_map.mpr ⟨j,List.mem_of_getElem? q,by rw [hy];rfl⟩
     have hfr:=hjs y hmem
     have hkx:=hfree _ (PySem.mem_of_lookup hfr) rfl
     have hvis:Vis X.env.scope y:=hkx.elim (fun z=>.inr (.inl z)) fun z=>.inr (.inr z)
     obtain⟨u,r,l⟩:=hl j y v hy hv hvis
     refine⟨u,r,?_⟩
     rcases l with ⟨kl,_⟩ | ⟨_,c,hc1,z⟩
     ·exfalso
      have kl':X.env.kindOf y=some .local:=kl
      rcases hkx with w | w <;> · rw [show X.env.kindOf y=_ from w] at kl';cases kl'
     ·obtain⟨c',hc'⟩:=Av (env:=X.env) scope.names [] y (.inr ⟨_,PySem.mem_of_lookup hfr,rfl,rfl,c,hc1⟩)
      rw [hcl] at hc'
      have e4:=clsub y c' hc'
      rw [hc1] at e4
      cases e4
      obtain⟨o,ho,hd⟩:=z
      refine .inr ⟨?_,c,hc',o,old c o ho,hd⟩
      rcases e3 with e3 | e3 | e3
      ·exfalso
       have e3':(relabel scope X.env).names.lookup y=some .local:=e3
       rw [uR,hfr] at e3'
       simp only [Option.map_some,Option.some.injEq] at e3'
       split at e3' <;> cases e3'
      ·exact .inl e3
      ·exact .inr e3
  ·obtain⟨v,q⟩:=I1.cell y c (clsub y c e)
   obtain⟨o,ho,hd⟩:=q
   exact⟨v,o,old c o ho,hd⟩
  ·show(eQ σ js).length+1=(gh X.N js).length+1
   unfold eQ gh
   rw [List.length_map,List.length_map]
 have mkR:∀(s':Shared) (H2:Hp) (ys:List V) (its:List Value) (σ':St),Inv Y [] σ' H2 s'→s'.heap.PlainList D its.toArray→Vals ys its→ys.length≤sizeLine→H2 D=none→Q ys H2→RR (.ref D) (D+1) (.ok .next) s':=by
  intro s' H2 ys its σ' I' pl rv hz hD hq
  obtain⟨m,hn,_⟩:=I'.loc
  have hn':s'.heap.Ns (D+1) m:=hn
  have hCn:H2 (D+1)=none:=I'.free
  have hch:∀b∈fp,(b∈X.ex∨X.s₀.heap.objs.size≤b)∧b≠X.env.locals∧(∀x c,X.env.cells.lookup x=some c→c≠b)∧∀p∈X.pn ++ pins,p.1≠b:=fun b hb=>by
   obtain⟨_,h2,_,h4,h5,h6⟩:=f1 b hb
   exact⟨h4,h2,h5,h6⟩
  have bs:Un (frs X.stack) fp H1 H2 s.heap s'.heap:=I'.base
  have all:∀h',Heap.SameBut (D+1) s'.heap h'→Inv X pins σ (upd H2 D (.lst ys)) { s' with heap:=h' }:=fun h' sb=>by
   have neD:∀b o,s.heap.get? b=some o→b≠D:=fun b o e=>Nat.ne_of_lt (lt b o e)
   have neC:∀b o,s.heap.get? b=some o→b≠D+1:=fun b o e=>Nat.ne_of_lt (Nat.lt_succ_of_lt (lt b o e))
   refine I1.call' (s':={ s' with heap:=h' }) (ch:=fp) I'.os ⟨fun b o e n hb hx=>?_,fun b o e n hb hx=>?_,fun b o e n hx=>?_,fun b o e hx=>?_,fun b xs e=>?_,fun b o u e=>?_,fun b ps e=>?_⟩ ?_ I'.bare hch
   ·exact(sb.2 b (neC b o e)).trans (bs.keep b o e n hb hx)
   ·obtain⟨sl,q⟩:=bs.slot b o e n hb hx
    exact⟨sl,(sb.2 b (neC b o e)).trans q⟩
   ·rw [aH (neD b o e)];exact bs.free b o e n hx
   ·obtain⟨o',q⟩:=bs.there b o e hx
    exact⟨o',(sb.2 b (neC b o e)).trans q⟩
   ·have:=bs.tups b xs e
    rw [aH (aF this hD)];exact this
   ·have:=bs.frzs b o u e
    rw [aH (aF this hD)];exact this
   ·obtain⟨more,q⟩:=bs.tbls b ps e
    exact⟨more,by rw [aH (aF q hD)];exact q⟩
   ·have h0:HOk X.prog X.w H2 h':=fun b u e=>(I'.hok b u e).stay (fun c v hc q=>(sb.2 c (by
     rintro rfl
     rcases hc with z | z
     ·rw [z,e] at hCn;cases hCn
     ·rw [z] at hCn;cases hCn)).trans q) (fun _ q=>q) fun _ _ q=>q
    refine hok_track h0 hD ?_
    obtain⟨n,e⟩:=pl
    exact⟨hz,its,n,rv,(sb.2 D hDC).trans e⟩
  have hall:=all s'.heap (.refl ..)
  refine hR D (D+1) s' H2 ys m hall hD hn' all ?_ hDC.symm hq
  refine⟨by rw [aH hDC.symm];exact hCn,?_,?_,.inr (Nat.le_trans I1.sz (by rw [hDe];exact Nat.le_succ _)),fun y c e z=>?_,fun p hp z=>?_⟩
  ·exact Nat.ne_of_gt (Nat.lt_trans (hDe ▸ I1.lt) (Nat.lt_succ_self _))
  ·exact I1.nofs (by rw [hDe];exact Nat.le_succ _)
  ·exact absurd z (Nat.ne_of_lt (Nat.lt_succ_of_lt (cellD y c e)))
  ·exact absurd z (Nat.ne_of_lt (Nat.lt_succ_of_lt (lt _ _ (I1.pin p hp).1)))
 have loop:∀s₃:Shared,s₃={ s with heap:=h₁,toks:=s.toks+([]:List (Str×Value)).length }→
   codeAny (model X.prog X.w) X.A (.compLoop (.ListComp elt [⟨.Name x px,iter,ifs,0⟩] scope pos) 0 (.ref it) (.ref D) Y.env) (RR (.ref D) (D+1)) s₃:=by
  rintro s₃ rfl
  have stat:∀{H':Hp} {ob:Obj},(∀b∈fp,H' b=none)→∀b∈fp,FpOk Y [(D,ob)] H' b:=fun {H'} {ob} hn b hb=>by
   refine⟨hn b hb,Nat.ne_of_lt (Nat.lt_succ_of_lt (fpD b hb)),fun hf=>okY.exfs b hb hf,.inl hb,fun y c e=>(okY.exf b hb).2 y c e,fun p hp z=>?_⟩
   have hp':p∈[(D,ob)]:=hp
   have e:p=(D,ob):=by simpa using hp'
   rw [e] at z
   exact absurd z (Ne.symm (Nat.ne_of_lt (fpD b hb)))
  refine codeAny_compLoop_tests (fun n s'=>∃i ys its H',∃ob:Obj,Inv Y [(D,ob)] σ0 H' s'∧(∃n,ob={ cls:=.type "list",data:=.seq its.toArray n })∧Vals ys its∧H' D=none∧tn i s'.heap∧(∀b∈fp,H' b=none)∧W i n ys H') ?_ m0
   ⟨0,[],[],H1,{ cls:=.type "list",dict:=none,data:=.seq ([]:List Value).toArray },?_,⟨_,rfl⟩,.nil,fresh _ (Nat.le_refl _),T.keep _ _ _ st1 fun b _ o e=>old b o e,fun b hb=>(f1 b hb).1,w0⟩
  ·rintro n s3 ⟨i,ys,its,H3,ob,I3,⟨cap,rfl⟩,rv,hD,st3,fr3,w3⟩
   rcases turn i n ys H3 w3 with ⟨stop,hz,hq⟩ | ⟨go,hz,N,hN7,step⟩
   ·refine wpAny_mono (T.done Y rfl rfl rfl hc i _ s3 σ0 H3 (fun _ _=>False) I3 (stat fr3) st3 stop) (fun r s4 ⟨hr,I4⟩=>?_) fun _ _ f=>f.elim
    subst hr
    exact mkR s4 H3 ys its σ0 (I4.pins_of fun p hp=>absurd hp (by simp)) ⟨cap,(I4.pin _ (List.mem_append_right _ List.mem_cons_self)).1⟩ rv hz hD hq
   ·refine wpAny_mono (T.item Y rfl rfl rfl hc i _ s3 σ0 H3 (fun _ _=>False) I3 (stat fr3) st3 go) (fun r s4 ⟨u,hr,h4⟩=>?_) fun _ _ f=>f.elim
    subst hr
    have h4':wpAny (model X.prog X.w) X.A (pure ():Sem Unit) (fun _ s2=>∃x H',Inv Y [(D,{ cls:=.type "list",data:=.seq its.toArray cap })] σ0 H' s2∧RelV x u∧J.yld i H3 x H'∧tn (i+1) s2.heap∧∀b∈fp,H' b=none) (fun _ _=>False) s4:=h4
    refine pure_elim h4' fun hpt=>?_
    obtain⟨xv,H5,I5,r5,y5,st5,fr5⟩:=hpt
    have I5':=I5.pinned (stat fr5) (T.obj _ _ st5)
    refine wpAny_mono (wpAny_assign_Name (vd (X:=Y) (E:=fun _ _=>False) (i:=0) (Q:=fun _ s6=>Inv Y ([(D,{ cls:=.type "list",data:=.seq its.toArray cap })] ++ Ay fp s4.heap) (some xv:: eQ σ js) H5 s6) I5' hN rfl (.inl hxl) r5 (fun s6 I6=>I6) (.inr hxl))) (fun _ s6 I6=>?_) fun _ _ f=>f.elim
    have hD5:H5 D=none:=(I6.pin _ (List.mem_append_right _ (List.mem_append_left _ List.mem_cons_self))).2.1
    have again:∀{s7:Shared} {H7:Hp} {ys7:List V} {its7:List Value} {cap7:Nat} {pl:List (Addr×Obj)},Inv Y ([(D,{ cls:=.type "list",data:=.seq its7.toArray cap7 })] ++ pl) (some xv:: eQ σ js) H7 s7→(∀b∈fp,∀o,s4.heap.get? b=some o→s7.heap.get? b=some o∧H7 b=none)→Vals ys7 its7→(∃m',m' <n∧W (i+1) m' ys7 H7)→
      ∃m,m <n∧∃i ys its H',∃ob:Obj,Inv Y [(D,ob)] σ0 H' s7∧(∃n,ob={ cls:=.type "list",data:=.seq its.toArray n })∧Vals ys its∧H' D=none∧tn i s7.heap∧(∀b∈fp,H' b=none)∧W i m ys H':=by
     intro s7 H7 ys7 its7 cap7 pl I7 kf rv7 ⟨m',hm,w7⟩
     refine⟨m',hm,i+1,ys7,its7,H7,_,I7.unpinned.weak rfl fun j v e=>?_,⟨cap7,rfl⟩,rv7,(I7.pin _ (List.mem_append_right _ (List.mem_append_left _ List.mem_cons_self))).2.1,T.keep _ _ _ st5 fun b hb o e=>(kf b hb o e).1,fun b hb=>?_,w7⟩
     ·cases j with
      | zero=>cases e
      | succ j=>exact e
     ·obtain⟨o,e,_⟩:=T.obj _ _ st5 b hb
      exact(kf b hb o e).2
    refine wpAny_mono (hif cl (D+1) s H1 fp _ s6 _ H5 _ I6 (step xv H5 y5)) (fun ok s7 ⟨H7,I7,q7⟩=>?_) fun _ _ f=>False.elim f
    have kf7:∀b∈fp,∀o,s4.heap.get? b=some o→s7.heap.get? b=some o∧H7 b=none:=fun b hb o e=>
     have z:=I7.pin (b,o) (List.mem_append_right _ (List.mem_append_right _ (uv hb e)))
     ⟨z.1,z.2.1⟩
    cases ok with
    | false=>
     rw [if_neg Bool.false_ne_true] at q7 ⊢
     exact again I7 kf7 rv (hN7 _ _ q7)
    | true=>
     rw [if_pos rfl] at q7 ⊢
     refine wpAny_mono (he cl (D+1) s H1 fp _ s7 _ H7 _ I7 q7) (fun yv s8 ⟨y,H8,I8,r8,q8⟩=>?_) fun _ _ f=>False.elim f
     have pD:=I8.pin _ (List.mem_append_right _ (List.mem_append_left _ List.mem_cons_self))
     have hlen:=rv.length
     refine wpAny_list_append_plain (items:=its.toArray) ⟨cap,pD.1⟩ (fun h9 pl9 sb9=>?_) (by rw [List.size_toArray];omega)
     obtain⟨cap9,e9⟩:=pl9
     have I9:Inv Y [] (some xv:: eQ σ js) H8 { s8 with heap:=h9 }:=(I8.pins_of (pins':=[]) fun p hp=>absurd hp (by simp)).turned (t':=s8.toks) (it:=D) (fun b o hb e=>(sb9.2 b hb).trans e) pD.2.1 hDC
      (.inr (Nat.le_of_eq hDe)) (fun y c e z=>absurd z (Nat.ne_of_lt (cellD y c (clsub y c e)))) fun p hp=>absurd (show p∈([]:List (Addr×Obj)) from hp) (by simp)
     have kf9:∀b∈fp,∀o,s4.heap.get? b=some o→h9.get? b=some o∧H8 b=none:=fun b hb o e=>by
      have z:=I8.pin (b,o) (List.mem_append_right _ (List.mem_append_right _ (uv hb e)))
      exact⟨(sb9.2 b (Nat.ne_of_lt (fpD b hb))).trans z.1,z.2.1⟩
     refine again (s7:={ s8 with heap:=h9 }) (its7:=its ++ [yv]) (cap7:=cap9) (pl:=[]) (I9.pins_of fun p hp=>?_) kf9 (rv.append (.cons r8 .nil)) (hN7 _ _ q8)
     have hp':p=(D,{ cls:=.type "list",data:=.seq (its ++ [yv]).toArray cap9 }):=by simpa using hp
     subst hp'
     refine⟨?_,pD.2.1,pD.2.2.1,pD.2.2.2.1,fun v z=>by cases z⟩
     rw [e9]
     simp
  ·refine IY.pins_of fun p hp=>?_
   have hp':p=(D,{ cls:=.type "list",dict:=none,data:=.seq ([]:List Value).toArray }):=by simpa using hp
   subst hp'
   exact⟨accD,fresh _ (Nat.le_refl _),hDC,fun hf=>Nat.lt_irrefl _ (frD _ hf),fun v z=>by cases z⟩
 exact codeAny_compStart_list (loop _ rfl) (wpAny_mono (T.self X.A 0 _ (fun v s'=>v=.ref it∧s'={ s with heap:=h₁,toks:=s.toks+([]:List (Str×Value)).length }) (fun _ _=>False) (T.keep _ _ _ st1 fun b _ o e=>old b o e) ⟨rfl,rfl⟩) (fun v s' ⟨e1,e2⟩=>by subst e1 e2;exact loop _ rfl) fun _ _ f=>f.elim)
theorem oY (js:List Nat) (N0:List Str) (sc0:Scope) (hc:X.calm=true) (hi:PI X (.Name x px) iter wi)
  (hif:∀cl C s H ex,PF (xx X scope x js cl C s H ex) ifs tt) (he:∀cl C s H ex,PE (xx X scope x js cl C s H ex) elt te)
  (hk:scope.kind=.function:=by rfl) (hx:scope.names.lookup x=some .local:=by rfl) (hcell:∀y∈scope.names,y.2≠.cell:=by decide +kernel)
  (hnames:∀y∈scope.names,y.2=.local→scope.names.lookup y.1=some .local:=by decide +kernel)
  (hsc:X.env.scope=sc0:=by rfl) (hfree0:∀y∈scope.names,y.2=.free→sc0.names.lookup y.1=some .cell∨sc0.names.lookup y.1=some .free:=by decide +kernel)
  (hNN:X.N=N0:=by rfl) (hN0:(x:: gh N0 js).Nodup:=by decide +kernel) (hj0:∀y∈gh N0 js,scope.names.lookup y=some .free:=by decide +kernel)
  (hs:∀x,foldedSetIterable iter X.env x=pure x:=by intro _;rfl):
  PE X (.ListComp elt [⟨.Name x px,iter,ifs,0⟩] scope pos) (tComp js wi tt te):=by
 intro pins s σ H Q I h
 have hN:(x:: gh X.N js).Nodup:=by rw [hNN];exact hN0
 have hfree:∀y∈scope.names,y.2=.free→X.env.kindOf y.1=some .cell∨X.env.kindOf y.1=some .free:=fun y hy e=>by
  show X.env.scope.names.lookup y.1=some .cell∨X.env.scope.names.lookup y.1=some .free
  rw [hsc];exact hfree0 y hy e
 have hjs:∀y∈gh X.N js,scope.names.lookup y=some .free:=by rw [hNN];exact hj0
 rw [eval_ListComp]
 have hcl:closureFor scope X.env=pure (clos X.env scope.names []):=wO fun y hy e=>I.ok.has y.1 (hfree y hy e)
 refine wpAny_comprehension_free (use:=none) rfl hs hcl hk hnames (thn (hi pins s σ H _ I h) fun xv s1 h1=>thn h1 fun it s2 h2=>?_)
 refine BJ js (RR:=fun acc C=>compPost (model X.prog X.w) X.A X.xe none (EP X pins σ Q) acc C) (Q:=fun ys H2=>∀D,H2 D=none→Q (.ref D) (upd H2 D (.lst ys))) hc hk hx hcell hfree hN hjs hif he h2 ?_
 intro D C s' H2 ys m I' hD hn all fpC hCD hq
 exact⟨m,hn,fun h' sb=>⟨.ref D,_,all h' sb,rfl,hq D hD⟩⟩
theorem wk {i:Nat} {y:Str} {py spos:Pos} (js:List Nat) (N0:List Str) (sc0:Scope) (hc:X.calm=true) (hNX:X.N.Nodup) (hiy:X.N[i]?=some y) (hi:PI X (.Name x px) iter wi)
  (hif:∀cl C s H ex,PF (xx X scope x js cl C s H ex) ifs tt) (he:∀cl C s H ex,PE (xx X scope x js cl C s H ex) elt te)
  (hsw:swapsWith (.ListComp elt [⟨.Name x px,iter,ifs,0⟩] scope pos) (some (.Name y py)) spos.line X.env=pure true:=by rfl) (hy:X.env.scope.names.lookup y=some .local:=by rfl)
  (hk:scope.kind=.function:=by rfl) (hx:scope.names.lookup x=some .local:=by rfl) (hcell:∀y∈scope.names,y.2≠.cell:=by decide +kernel)
  (hnames:∀y∈scope.names,y.2=.local→scope.names.lookup y.1=some .local:=by decide +kernel)
  (hsc:X.env.scope=sc0:=by rfl) (hfree0:∀y∈scope.names,y.2=.free→sc0.names.lookup y.1=some .cell∨sc0.names.lookup y.1=some .free:=by decide +kernel)
  (hNN:X.N=N0:=by rfl) (hN0:(x:: gh N0 js).Nodup:=by decide +kernel) (hj0:∀y∈gh N0 js,scope.names.lookup y=some .free:=by decide +kernel)
  (hs:∀x,foldedSetIterable iter X.env x=pure x:=by intro _;rfl):
  PS X (.Assign [.Name y py] (.ListComp elt [⟨.Name x px,iter,ifs,0⟩] scope pos) spos) (tAsg (tComp js wi tt te) (gName i)):=by
 intro pins s σ H D I h
 have hN:(x:: gh X.N js).Nodup:=by rw [hNN];exact hN0
 have hfree:∀y∈scope.names,y.2=.free→X.env.kindOf y.1=some .cell∨X.env.kindOf y.1=some .free:=fun y hy e=>by
  show X.env.scope.names.lookup y.1=some .cell∨X.env.scope.names.lookup y.1=some .free
  rw [hsc];exact hfree0 y hy e
 have hjs:∀y∈gh X.N js,scope.names.lookup y=some .free:=by rw [hNN];exact hj0
 rw [exec_Assign_Name_used _ _ _ _ hsw]
 refine wpAny_bind (wpAny_standAt (wpAny_bind ?_))
 show wpAny _ X.A (do let _ ←comprehension (.ListComp elt [⟨.Name x px,iter,ifs,0⟩] scope pos) scope X.env _ (newList []) false (eval iter X.env) (some (assign (.Name y py) X.env))) _ _ s
 have hcl:closureFor scope X.env=pure (clos X.env scope.names []):=wO fun y hy e=>I.ok.has y.1 (hfree y hy e)
 refine wpAny_bind (wpAny_mono (wpAny_comprehension_free (use:=some (assign (.Name y py) X.env)) (Q:=fun _ s'=>SP X pins D .next s') rfl hs hcl hk hnames
  (thn (hi pins s σ H _ I h) fun xv s1 h1=>thn h1 fun it s2 h2=>?_)) (fun _ s' hq=>wpAny_pure (wpAny_pure hq)) fun _ _ e=>e)
 refine BJ js (RR:=fun acc C=>compPost (model X.prog X.w) X.A X.xe (some (assign (.Name y py) X.env)) (fun _ s'=>SP X pins D .next s') acc C) (Q:=fun ys H2=>∀D',H2 D'=none→D.nx (σ.set i (some (.ref D'))) (upd H2 D' (.lst ys))) hc hk hx hcell hfree hN hjs hif he h2 ?_
 intro D' C s' H2 ys m I' hD hn all fpC hCD hq
 show wpAny _ X.A (assign (.Name y py) X.env (.ref D')) _ _ _
 refine wpAny_assign_Name (store_ok2 I' hNX hiy (.inl hy) (v:=.ref D') rfl (fun s'' I'' ⟨a,sb,ha⟩=>?_) (.inr hy))
 obtain⟨f1,f2,f3,f4,f5,f6⟩:=fpC
 have hCa:C≠a:=by
  rcases ha with z | z
  ·rw [z];exact f2
  ·exact fun w=>f5 _ _ z w.symm
 exact⟨m,hn.sameBut sb hCa,fun h' sb'=>⟨_,_,I''.turned (t':=s''.toks) (it:=C) (fun b o hb e=>(sb'.2 b hb).trans e) f1 f2 f4 f5 f6,hq D' hD⟩⟩
end
end L2
set_option Elab.async false
set_option linter.all false
set_option maxRecDepth 100000
set_option Elab.async false
set_option maxHeartbeats 4000000
namespace L2
open PySem PySem.Spec PyProof.Rows
section
variable {X:Cx}
theorem qu:OpR X (binaryOp .Mult) (rI IntMulOk fun i j=>.int (i * j)):=opI fun _ _ _ _ _ _ _ hc q=>mul_int q hc
def CDivB (_ j:Int):Prop:=0 <j∧j.natAbs.log2 <9000
theorem yq:OpR X (binaryOp .FloorDiv) (rI CDivB fun i j=>.int (i / j)):=opI fun i j _ _ _ _ _ hc q=>by
 have h1:(0:Int) <j:=hc.1
 exact floordiv_int (by omega) (by rw [Int.fdiv_eq_ediv_of_nonneg i (by omega)];exact q) (.inl (PyProof.noPylong_of_log2 hc.2))
theorem divOk {i j:Int} (h0:0 <j) (h:j.natAbs <2 ^ 9000):CDivB i j:=⟨h0,(Nat.log2_lt (by omega)).mpr h⟩
def tyN (K:PySem.W.Frag) (H:Hp) (x:V) (T:String):Prop:=match x with
 | .non=>T= "NoneType"
 | .bl _=>T= "bool"
 | .int _=>T= "int"
 | .str _=>T= "str"
 | .ref p=>(T= "list" ∧∃xs,SqL K H p xs)∨(T= "tuple" ∧∃xs,SqT K H p xs)∨(T= "dict" ∧∃kvs,H p=some (.dK kvs))
 | _=>False
def subT (a b:String):Bool:=a == b || (a == "bool" && b == "int")
def isTab:List String:=["int", "bool", "str", "list", "tuple", "dict"]
def fD:List String:=["NoneType", "bool", "int", "str", "list", "tuple", "dict"]
theorem kit_meta:∀T∈isTab,PySem.W.kitMeta T=true:=by decide +kernel
theorem kit_mro:∀a∈fD,∀b∈isTab,(PySem.fastBuiltinMro a).map (·.contains (.type b))=some (subT a b):=by decide +kernel
theorem kit_one (K:PySem.W.Frag) {a b:String} (ha:a∈fD) (hb:b∈isTab):PySem.W.kitOne K (.type a) (.type b)=some (subT a b):=by
 unfold PySem.W.kitOne
 by_cases h:(Value.type a == Value.type b)=true
 ·rw [if_pos h]
  have e:a=b:=by
   have:=beq_iff_eq.mp h
   injection this
  subst e
  simp [subT]
 ·rw [if_neg h]
  show(if PySem.W.kitMeta b=true then PySem.W.subIn K (.type a) (.type b) else none)=_
  rw [if_pos (kit_meta b hb)]
  exact kit_mro a ha b hb
theorem Bw:qK X (.builtin "isinstance") (fun xs H Q=>∃x Tx T b,xs=[x,.ty T]∧tyN X.K H x Tx∧T∈isTab∧subT Tx T=b∧Q (.bl b) H):=by
 intro pins s σ H xs us Q I r h
 obtain⟨x,Tx,T,b,rfl,ty,hT,rfl,q⟩:=h
 obtain⟨u,w',rfl,rx,ry⟩:=vals2 r
 cases ry
 have fin:∀{b:Bool},b=subT Tx T→∀tk,EP X pins σ Q (.bool b) { s with toks:=tk }:=fun e tk=>⟨.bl (subT Tx T),H,I.tok tk,by rw [e];rfl,q⟩
 have go:∀{P:Heap→Prop},PySem.W.KitX X.K u (.type Tx) P→P s.heap→Tx∈fD→u≠.builtin "__main__.__loader__#opaque" →wpAny (model X.prog X.w) X.A (call (.builtin "isinstance") [u,.type T]) (EP X pins σ Q) X.xe s:=fun Z p hm hx=>
  PySem.W.kia_one Z I.kIn p (kit_one X.K hm hT) hx fun tk=>fin rfl tk
 cases x with
 | non=>cases rx;cases (show Tx= "NoneType" from ty);exact go PySem.W.kitx_none trivial (by decide) (by intro e;cases e)
 | bl b=>cases rx;cases (show Tx= "bool" from ty);exact go PySem.W.kitx_bool trivial (by decide) (by intro e;cases e)
 | int i=>obtain⟨t,rfl⟩:=rx;cases (show Tx= "int" from ty);exact go PySem.W.kitx_int trivial (by decide) (by intro e;cases e)
 | str z=>obtain⟨t,rfl⟩:=rx;cases (show Tx= "str" from ty);exact go PySem.W.kitx_str trivial (by decide) (by intro e;cases e)
 | ref p=>
  cases rx
  rcases ty with ⟨rfl,ys,hq⟩ | ⟨rfl,ys,hq⟩ | ⟨rfl,kvs,hq⟩
  ·obtain⟨its,_,pl,_⟩:=I.list hq
   obtain⟨o,n,e,c,_,_⟩:=pl
   exact go PySem.W.kitx_list ⟨o,e,c⟩ (by decide) (by intro e;cases e)
  ·obtain⟨its,_,⟨o,e,c,_⟩,_⟩:=I.tuple hq
   exact go PySem.W.kitx_tuple ⟨o,e,c⟩ (by decide) (by intro e;cases e)
  ·obtain⟨_,_,_,_,o,_,_,e,ex,_⟩:=I.hok p _ hq
   exact go PySem.W.kitx_dict ⟨o,e,ex.1⟩ (by decide) (by intro e;cases e)
 | _=>exact(show False from ty).elim
def rJoin (K:PySem.W.Frag):V→List V→Hp→VK→Prop:=fun x xs H Q=>∃z p ys,x=.str z∧xs=[.ref p]∧SqL K H p (ys.map V.str)∧(ys.map (·.length)).sum+ys.length * z.length≤16777216∧Q (.str (Txt.join z ys)) H
theorem Br:∀{ys:List Str} {us:List Value},Vals (ys.map V.str) us→StrsAre us ys
 | [],us,r=>by rw [List.map_nil] at r;cases r;exact .nil
 | y:: ys,us,r=>by
  rw [List.map_cons] at r
  cases r with
  | cons r1 r2=>
   obtain⟨t,e⟩:=r1
   subst e
   exact .cons y t (Br r2)
theorem mt_join:MtR X "str.join" (rJoin X.K):=by
 intro pins s σ H x xs v us Q I rx rs h
 obtain⟨z,p,ys,rfl,rfl,hq,hz,q⟩:=h
 obtain⟨t,rfl⟩:=rx
 obtain⟨u,rfl,ru⟩:=vals1 rs
 cases ru
 obtain⟨its,rv,pl,_⟩:=I.list hq
 exact join_list (items:=its.toArray) pl.isList (by simpa using Br rv) hz fun t' k=>⟨.str (Txt.join z ys),H,I.tok k,⟨_,rfl⟩,q⟩
end
end L2
namespace L2
open PySem PySem.Spec PyProof.Rows
theorem bt_int:bootBuiltins "int" =some (.type "int"):=by decide +kernel
theorem bt_bool:bootBuiltins "bool" =some (.type "bool"):=by decide +kernel
theorem bt_str:bootBuiltins "str" =some (.type "str"):=by decide +kernel
theorem yp:bootBuiltins "list" =some (.type "list"):=by decide +kernel
theorem yG:bootBuiltins "tuple" =some (.type "tuple"):=by decide +kernel
theorem dX:bootBuiltins "len" =some (.builtin "len"):=by decide +kernel
theorem iz:bootBuiltins "isinstance" =some (.builtin "isinstance"):=by decide +kernel
theorem bt_max:bootBuiltins "max" =some (.builtin "max"):=by decide +kernel
theorem bt_all:bootBuiltins "all" =some (.builtin "all"):=by decide +kernel
section
variable {X:Cx} {pos:Pos}
theorem lW {x:Str} {v:V} (hg:Gl X x) (hm:∃u,X.mg x=some u∧RelV v u) (hd:(x == ("__debug__" :Str))=false:=by decide):PE X (.Name x pos) (tC v):=by
 obtain⟨u,h1,h2⟩:=hm
 exact wB hg h1 h2 hd
theorem pe_bltT {x:Str} {T:String} (hg:Gl X x) (hm:X.mg x=none) (hv:bootBuiltins x=some (.type T)) (hn:x≠ "__name__" :=by decide) (hd:(x == ("__debug__" :Str))=false:=by decide):PE X (.Name x pos) (tC (.ty T)):=
 pe_bltn hg hm hv rfl hn hd
end
end L2
namespace L2
open PySem PySem.Spec PyProof.Rows
theorem qp {a b:Int} (h: -(2 ^ 64) <a∧a <2 ^ 64:=by decide):IntMulOk a b:=.of_left (intBits_le_64 h.1 h.2)
theorem mulOk_smallR {a b:Int} (h: -(2 ^ 64) <b∧b <2 ^ 64:=by decide):IntMulOk a b:=.of_right (intBits_le_64 h.1 h.2)
end L2
namespace L2
open PySem PySem.Spec PyProof.Rows
def tJoin (t:TS):TS:=fun D σ H=>∃J:St→Hp→Prop,t { D with nx:=J } σ H∧∀σ' H',J σ' H'→D.nx σ' H'
theorem gf {X:Cx} {st:Stmt} {t:TS} (h:PS X st t):PS X st (tJoin t):=by
 intro pins s σ H D I hw
 obtain⟨J,h1,h2⟩:=hw
 refine thn (h pins s σ H { D with nx:=J } I h1) fun f s1 q=>?_
 cases f with
 | next=>obtain⟨σ',H',I',q⟩:=q;exact⟨σ',H',I',h2 _ _ q⟩
 | ret v=>exact q
 | brk=>exact q
 | cont=>exact q
theorem dG {c A B:Prop} [Decidable c] (hc:¬c) (h:B):if decide c=true then A else B:=by rw [decide_eq_false hc];exact fX h
theorem xH {c A B:Prop} [Decidable c] (hc:c) (h:A):if decide c=true then A else B:=by rw [decide_eq_true hc];exact lX h
end L2
set_option Elab.async false
set_option linter.all false
set_option maxRecDepth 100000
set_option Elab.async false
set_option maxHeartbeats 4000000
namespace L2
open PySem PySem.Spec PyProof.Rows
mutual
inductive Dt (K:PySem.W.Frag) (H:Hp):V→PyData→Prop
 | non:Dt K H .non .none
 | bl (b:Bool):Dt K H (.bl b) (.bool b)
 | int (i:Int):Dt K H (.int i) (.int i)
 | str (x:Str):Dt K H (.str x) (.str x)
 | list {p:Addr} {xs:List V} {ds:List PyData}:SqL K H p xs→Dts K H xs ds→Dt K H (.ref p) (.list ds)
 | tuple {p:Addr} {xs:List V} {ds:List PyData}:SqT K H p xs→Dts K H xs ds→Dt K H (.ref p) (.tuple ds)
inductive Dts (K:PySem.W.Frag) (H:Hp):List V→List PyData→Prop
 | nil:Dts K H [] []
 | cons {x:V} {xs:List V} {d:PyData} {ds:List PyData}:Dt K H x d→Dts K H xs ds→Dts K H (x:: xs) (d:: ds)
end
section
variable {X:Cx} {pins:List (Addr×Obj)} {σ:St} {H:Hp} {s:Shared}
mutual
theorem Dt.reads (I:Inv X pins σ H s):∀{x:V} {d:PyData},Dt X.K H x d→∀{u:Value},RelV x u→∃as,Reads s.heap u d as
 | _,_,.non,_,r=>by cases r;exact⟨_,.none⟩
 | _,_,.bl b,_,r=>by cases r;exact⟨_,.bool b⟩
 | _,_,.int i,_,r=>by obtain⟨t,rfl⟩:=r;exact⟨_,.int i t⟩
 | _,_,.str x,_,r=>by obtain⟨t,rfl⟩:=r;exact⟨_,.str x t⟩
 | _,_,.list hq hd,_,r=>by
  cases r
  obtain⟨its,rv,⟨o,n,e,c,_,d⟩,_⟩:=I.list hq
  obtain⟨as,q⟩:=Dts.reads I hd rv
  exact⟨_,.list e c d (by simpa using q)⟩
 | _,_,.tuple hq hd,_,r=>by
  cases r
  obtain⟨its,rv,⟨o,e,c,n,d⟩,_⟩:=I.tuple hq
  obtain⟨as,q⟩:=Dts.reads I hd rv
  exact⟨_,.tuple e c d (by simpa using q)⟩
theorem Dts.reads (I:Inv X pins σ H s):∀{xs:List V} {ds:List PyData},Dts X.K H xs ds→∀{us:List Value},Vals xs us→∃as,ReadsAll s.heap us ds as
 | _,_,.nil,_,r=>by cases r;exact⟨_,.nil⟩
 | _,_,.cons h t,_,r=>by
  cases r with
  | cons r1 r2=>
   obtain⟨as,q⟩:=Dt.reads I h r1
   obtain⟨bs,q'⟩:=Dts.reads I t r2
   exact⟨_,.cons q q'⟩
end
def rEqD (K:PySem.W.Frag):R2:=fun x y H Q=>∃da db,Dt K H x da∧Dt K H y db∧SeqAt.shaped da=true∧SeqAt.shaped db=true∧Q (.bl (PyData.eqv da db)) H
def rNeD (K:PySem.W.Frag):R2:=fun x y H Q=>∃da db,Dt K H x da∧Dt K H y db∧SeqAt.shaped da=true∧SeqAt.shaped db=true∧Q (.bl (!PyData.eqv da db)) H
theorem op_eqD (hu:X.A.units+64 <cLine):OpR X (compareOp .Eq) (rEqD X.K):=by
 intro pins s σ H x y v u Q I rx ry h
 obtain⟨da,db,h1,h2,s1,s2,q⟩:=h
 obtain⟨as,r1⟩:=h1.reads I rx
 obtain⟨bs,r2⟩:=h2.reads I ry
 exact eq_dataH r1 r2 s1 s2 hu (cM I q rfl)
theorem op_neD (hu:X.A.units+64 <cLine):OpR X (compareOp .NotEq) (rNeD X.K):=by
 intro pins s σ H x y v u Q I rx ry h
 obtain⟨da,db,h1,h2,s1,s2,q⟩:=h
 obtain⟨as,r1⟩:=h1.reads I rx
 obtain⟨bs,r2⟩:=h2.reads I ry
 exact ne_dataH r1 r2 s1 s2 hu (cM I q rfl)
end
def Its (x:Str):It:=⟨fun i _=>i <x.cps.size,fun i H v H'=>H'=H∧∃c,x.cps[i]?=some c∧v=.str ⟨#[c]⟩,fun i _=>x.cps.size≤i⟩
theorem turn_str {P:Program} {w:World} {K:PySem.W.Frag} {tg:Expr} (it:Addr) (x:Str) (t:Tok) {ty:String} (hty:ty= "str_ascii_iterator" ∨ty= "str_iterator"):Turn P w K tg (Its x) [it] it (fun i h=>h.IsStrIter it ty x t i) where
 mem:=by simp
 obj:=fun i h st b hb=>by
  have e:b=it:=by simpa using hb
  subst e
  obtain⟨o,e,c,d⟩:=st
  exact⟨o,e,fun v z=>by rw [d] at z;cases z⟩
 keep:=fun i h h' st k=>by
  obtain⟨o,e,r⟩:=st
  exact⟨o,k it (by simp) o e,r⟩
 item:=by
  intro X hP hw hK hc i pins s σ H E I hf st hg
  subst hP hw hK
  obtain⟨f0,f1,f2,f3,f4,f5⟩:=hf it (by simp)
  have fin:∀(v:Value) (h':Heap) (tk:Nat),SignAt x i v→h'.IsStrIter it ty x t (i+1)→(∀b o,b∉[it]→s.heap.get? b=some o→h'.get? b=some o)→
    ∃u,some v=some u∧wpAny (model X.prog X.w) X.A (letOwnedTupleGo tg (.ref it) u) (fun _ s2=>∃x' H',Inv X pins σ H' s2∧RelV x' u∧(Its x).yld i H x' H'∧s2.heap.IsStrIter it ty x t (i+1)∧∀b∈[it],H' b=none) E { s with heap:=h',toks:=tk }:=by
   intro v h' tk hv st' kk
   obtain⟨c,u,hcc,rfl⟩:=hv
   have I1:Inv X pins σ H { s with heap:=h',toks:=tk }:=I.turned (fun b o hb e=>kk b o (by simpa using hb) e) f0 f1 f3 f4 f5
   obtain⟨o,e,c',d⟩:=id st'
   refine⟨_,rfl,go_of (s:={ s with heap:=h',toks:=tk }) (n:=ty) e c' d (by rcases hty with rfl | rfl <;> decide) ⟨.str ⟨#[c]⟩,H,I1,⟨u,rfl⟩,⟨rfl,c,hcc,rfl⟩,st',fun b hb=>(hf b hb).1⟩⟩
  rcases hty with rfl | rfl
  ·exact(Walks.strAscii (prog:=X.prog) (w:=X.w) (I.ok.hd hc) it x t).item i s _ _ hg st fun v h' tk hv st' kk=>fin v h' tk hv st' kk
  ·exact(Walks.strWide (prog:=X.prog) (w:=X.w) (I.ok.hd hc) it x t).item i s _ _ hg st fun v h' tk hv st' kk=>fin v h' tk hv st' kk
 done:=by
  intro X hP hw hK hc i pins s σ H E I hf st hg
  subst hP hw hK
  obtain⟨f0,f1,f2,f3,f4,f5⟩:=hf it (by simp)
  have hx:x.cps[i]?=none:=by
   have hg':x.cps.size≤i:=hg
   simp;omega
  rcases hty with rfl | rfl
  ·exact wpAny_pyNext_ascii_end (I.ok.hd hc) st hx fun h' eb=>⟨rfl,I.turned (t':=s.toks) (fun b o hb e=>eb b o hb e) f0 f1 f3 f4 f5⟩
  ·exact wpAny_pyNext_wide_end (I.ok.hd hc) st hx fun h' eb=>⟨rfl,I.turned (t':=s.toks) (fun b o hb e=>eb b o hb e) f0 f1 f3 f4 f5⟩
 self:=fun _ _ _ _ _ st h=>by
  rcases hty with rfl | rfl
  ·exact wpAny_pyIter_striter_ascii st h
  ·exact wpAny_pyIter_striter_wide st h
section
variable {X:Cx} {tg:Expr}
def iStr (tl:TE):TI:=fun σ H R=>tl σ H fun x H1=>∃z,x=.str z∧R (Its z) H1
theorem pi_str {l:Expr} {tl:TE} (hl:PE X l tl):PI X tg l (iStr tl):=by
 intro pins s σ H R I h
 refine thn (hl pins s σ H _ I h) fun v s1 hpt=>?_
 obtain⟨x,H1,I1,r1,q1⟩:=hpt
 obtain⟨z,e,q⟩:=q1
 subst e
 obtain⟨t,rfl⟩:=r1
 cases ha:z.cps.all (· <128)
 ·refine wpAny_pyIter_wide ha ?_
  refine⟨s1.heap.objs.size,[s1.heap.objs.size],_,_,H1,rfl,I1.kept (t':=s1.toks) fun b o e=>Heap.get?_push_of_some _ e,turn_str _ z t (ty:= "str_iterator") (.inr rfl),⟨_,Heap.get?_push_size _ rfl,rfl,rfl⟩,fun b hb=>?_,q⟩
  have e:b=s1.heap.objs.size:=by simpa using hb
  subst e
  exact I1.fpOk (Nat.le_refl _) (I1.hok.fresh (Nat.le_refl _))
 ·refine wpAny_pyIter_ascii ha ?_
  refine⟨s1.heap.objs.size,[s1.heap.objs.size],_,_,H1,rfl,I1.kept (t':=s1.toks) fun b o e=>Heap.get?_push_of_some _ e,turn_str _ z t (ty:= "str_ascii_iterator") (.inl rfl),⟨_,Heap.get?_push_size _ rfl,rfl,rfl⟩,fun b hb=>?_,q⟩
  have e:b=s1.heap.objs.size:=by simpa using hb
  subst e
  exact I1.fpOk (Nat.le_refl _) (I1.hok.fresh (Nat.le_refl _))
end
theorem yes {A B:Hp→Prop} {σ:St} {H:Hp} (h:A H):tYes σ H (fun b H4=>if b=true then A H4 else B H4):=by
 show if true=true then A H else B H
 exact lX h
section
variable {js:List Nat} {tt:TT} {te:TE} {σ:St} {Qd:List V→Hp→Prop}
theorem sU {lo:Int} {n:Nat} {H:Hp} (Pv:Nat→List V→Hp→Prop) (hn:n≤sizeLine) (h0:Pv 0 [] H) (hl:∀i ys H,Pv i ys H→ys.length≤i)
  (hs:∀i ys H,i <n→Pv i ys H→tt (some (.int (lo+i)):: eQ σ js) H fun b H4=>if b=true then te (some (.int (lo+i)):: eQ σ js) H4 fun y H5=>Pv (i+1) (ys ++ [y]) H5 else Pv (i+1) ys H4)
  (hd:∀ys H,Pv n ys H→Qd ys H):CompEnd js tt te σ Qd (Itr lo n) H:=by
 refine⟨fun i m ys H=>m=n - i∧i≤n∧Pv i ys H,⟨n,by simp,Nat.zero_le _,h0⟩,?_⟩
 rintro i m ys H ⟨rfl,hi,p⟩
 have hlen:=hl i ys H p
 by_cases hlt:i <n
 ·refine .inr ⟨hlt,by omega,Pv (i+1),fun ys' H' p'=>⟨n - (i+1),by omega,rfl,hlt,p'⟩,fun x H' y=>?_⟩
  obtain⟨e,y⟩:=y
  subst e y
  exact hs i ys _ hlt p
 ·have e:i=n:=by omega
  subst e
  exact .inl ⟨Nat.le_refl _,by omega,hd ys H p⟩
theorem rN {K:PySem.W.Frag} {a:Addr} {xs:List V} {H:Hp} (Pv:Nat→List V→Hp→Prop) (hn:xs.length≤sizeLine) (h0:Pv 0 [] H) (hl:∀i ys H,Pv i ys H→ys.length≤i) (hq:∀i ys H,i≤xs.length→Pv i ys H→SqL K H a xs)
  (hs:∀i x ys H,xs[i]?=some x→Pv i ys H→tt (some x:: eQ σ js) H fun b H4=>if b=true then te (some x:: eQ σ js) H4 fun y H5=>Pv (i+1) (ys ++ [y]) H5 else Pv (i+1) ys H4)
  (hd:∀ys H,Pv xs.length ys H→Qd ys H):CompEnd js tt te σ Qd (Itl K a) H:=by
 refine⟨fun i m ys H=>m=xs.length - i∧i≤xs.length∧Pv i ys H,⟨xs.length,by simp,Nat.zero_le _,h0⟩,?_⟩
 rintro i m ys H ⟨rfl,hi,p⟩
 have hlen:=hl i ys H p
 have q:=hq i ys H hi p
 by_cases hlt:i <xs.length
 ·refine .inr ⟨⟨xs,xs[i],q,by simp [hlt]⟩,by omega,Pv (i+1),fun ys' H' p'=>⟨xs.length - (i+1),by omega,rfl,hlt,p'⟩,fun x H' y=>?_⟩
  obtain⟨e,y⟩:=y
  subst e
  exact hs i x ys _ (y xs q) p
 ·have e:i=xs.length:=by omega
  subst e
  exact .inl ⟨⟨xs,q,Nat.le_refl _⟩,by omega,hd ys H p⟩
theorem comp_str {z:Str} {H:Hp} (Pv:Nat→List V→Hp→Prop) (hn:z.cps.size≤sizeLine) (h0:Pv 0 [] H) (hl:∀i ys H,Pv i ys H→ys.length≤i)
  (hs:∀i c ys H,z.cps[i]?=some c→Pv i ys H→tt (some (.str ⟨#[c]⟩):: eQ σ js) H fun b H4=>if b=true then te (some (.str ⟨#[c]⟩):: eQ σ js) H4 fun y H5=>Pv (i+1) (ys ++ [y]) H5 else Pv (i+1) ys H4)
  (hd:∀ys H,Pv z.cps.size ys H→Qd ys H):CompEnd js tt te σ Qd (Its z) H:=by
 refine⟨fun i m ys H=>m=z.cps.size - i∧i≤z.cps.size∧Pv i ys H,⟨z.cps.size,by simp,Nat.zero_le _,h0⟩,?_⟩
 rintro i m ys H ⟨rfl,hi,p⟩
 have hlen:=hl i ys H p
 by_cases hlt:i <z.cps.size
 ·refine .inr ⟨hlt,by omega,Pv (i+1),fun ys' H' p'=>⟨z.cps.size - (i+1),by omega,rfl,hlt,p'⟩,fun x H' y=>?_⟩
  obtain⟨e,c,hc,y⟩:=y
  subst e y
  exact hs i c ys _ hc p
 ·have e:i=z.cps.size:=by omega
  subst e
  exact .inl ⟨Nat.le_refl _,by omega,hd ys H p⟩
end
section
variable {X:Cx}
def rSlS:V→Option Int→Option Int→Hp→VK→Prop:=fun x lo hi H Q=>∃z,x=.str z∧z.length≤sizeLine∧Q (.str (Txt.slice z lo hi)) H
theorem sl_str:SlR X rSlS:=by
 intro pins s σ H x v vl vu lo hi sl Q I rx hs pl pu h
 obtain⟨z,rfl,hz,q⟩:=h
 obtain⟨t,rfl⟩:=rx
 refine⟨"str",_,PySem.F.slot_str_getitem.lookup,typeIs_str _ _ _,?_⟩
 have fin:∀t' k,EP X pins σ Q (.str (Txt.slice z lo hi) t') { s with toks:=k }:=fun t' k=>⟨.str _,H,I.tok k,⟨_,rfl⟩,q⟩
 cases pl with
 | none=>
  cases pu with
  | none=>exact wpAny_getItem_str_slice (l:=none) (u:=none) (st:=none) hs rfl (post_val_or_str ⟨Nat.le_trans (Txt.slice_le z _ _) hz,fin⟩)
  | int j tj=>exact wpAny_getItem_str_slice (l:=none) (u:=some (j,tj)) (st:=none) hs rfl (post_val_or_str ⟨Nat.le_trans (Txt.slice_le z _ _) hz,fin⟩)
 | int i ti=>
  cases pu with
  | none=>exact wpAny_getItem_str_slice (l:=some (i,ti)) (u:=none) (st:=none) hs rfl (post_val_or_str ⟨Nat.le_trans (Txt.slice_le z _ _) hz,fin⟩)
  | int j tj=>exact wpAny_getItem_str_slice (l:=some (i,ti)) (u:=some (j,tj)) (st:=none) hs rfl (post_val_or_str ⟨Nat.le_trans (Txt.slice_le z _ _) hz,fin⟩)
theorem Az (hc:X.calm=true):qK X (.builtin "all") (fun xs H Q=>∃(p:Addr) (bs:List Bool),xs=[.ref p]∧SqL X.K H p (bs.map V.bl)∧Q (.bl (bs.all id)) H):=by
 intro pins s σ H xs us Q I r h
 obtain⟨p,bs,rfl,hq,q⟩:=h
 obtain⟨u,rfl,rx⟩:=vals1 r
 cases rx
 obtain⟨its,rv,pl,_⟩:=I.list hq
 have hl:=pl.isList
 have hlt:p <s.heap.objs.size:=by obtain⟨_,e,_⟩:=hl;exact Heap.lt_size e
 have hb:∀i v,its[i]?=some v→∃b,bs[i]?=some b∧v=Value.bool b:=fun i v e=>by
  have hi:i <its.length:=(List.getElem?_eq_some_iff.mp e).1
  have hi':i <bs.length:=by have:=rv.length;rw [List.length_map] at this;omega
  obtain⟨u,e',r'⟩:=rv.get (i:=i) (x:=.bl bs[i]) (by rw [List.getElem?_map,List.getElem?_eq_getElem hi'];rfl)
  rw [e] at e'
  cases e'
  exact⟨bs[i],List.getElem?_eq_getElem hi',r'⟩
 refine call_all_walk (wpAny_pyIter_list hl ?_)
 refine⟨s.heap.objs.size,[s.heap.objs.size,p],[s.heap.objs.size],its.toArray.size,_,_,fun i=>(bs[i]?).getD true,rfl,Walks.list (A:=X.A.in1) (I.ok.hd hc) _ p (Nat.ne_of_lt hlt) its.toArray,
  ⟨⟨_,Heap.get?_push_size _ rfl,rfl,rfl⟩,hl.push _⟩,fun i v s' Q' E' hP hQ=>?_,fun h' tk hk=>?_⟩
 ·obtain⟨b,e,rfl⟩:=hb i v (by simpa using hP)
  simp only [e,Option.getD_some] at hQ
  exact wpAny_truthy_bool hQ
 ·have e:((List.range its.toArray.size).all fun i=>(bs[i]?).getD true)=bs.all id:=by
   have hlen:=rv.length
   rw [List.length_map] at hlen
   rw [List.size_toArray,←hlen];exact LSm.range_all bs
  rw [e]
  exact⟨.bl _,H,I.kept (LSm.kept_iter hk),rfl,q⟩
end
end L2
set_option Elab.async false
set_option linter.all false
set_option maxRecDepth 100000
set_option Elab.async false
set_option maxHeartbeats 4000000
namespace L2
open PySem PySem.StrLaws PySem.Builtin PySem.Builtin.Str
end L2
namespace L2
open PySem
theorem aD {H:L2.Hp} {p:Addr} {o:L2.HO} (hp:H p=none):L2.aQ H (L2.upd H p o):=fun b o' e=>by rw [L2.aH (L2.aF e hp)];exact e
end L2
namespace L2
open PySem PySem.SeqAt
open AutoSeq1 (wpAny_loadPart')
open MeetsSeq MeetsSeq2 MeetsSeq3 SeqRoads2
section
variable {A:Around} {s:Shared}
end
open PySem.Spec PyProof.Rows
end L2
set_option Elab.async false
set_option linter.all false
set_option maxRecDepth 100000
set_option Elab.async false
set_option maxHeartbeats 4000000
namespace L2
open PySem PySem.Spec PyProof.Rows
structure MethAt (P:Program) (w:World) (K:PySem.W.Frag) (mg:Str→Option Value) (base:Heap) (CX:CXT) (k:Nat) (C:Addr) (m:Str) (sp:Sp):Prop where
 ex:∃(f:Addr) (fd:FuncData) (ps:List Str),Cls K C∧Meth K C m f∧Binds K fd ps []∧FnOk P w K mg base CX k f fd ps sp
def tMethD (P:Program) (w:World) (K:PySem.W.Frag) (mg:Str→Option Value) (base:Heap) (CX:CXT) (k:Nat) (m:Str) (E:XK) (ta:TE) (t:TA):TE:=fun σ H Q=>ta σ H fun x H1=>∃a C dx fs sp,x=.ref a∧H1 a=some (.ins C dx fs)∧fs.lookup m=none∧
 MethAt P w K mg base CX k C m sp∧t σ H1 fun vs H2=>sp (x:: vs) H2 Q E
section
variable {X:Cx} {CX:CXT} {k:Nat} {E:XK} {m:Str} {pos apos:Pos} {e o:Expr} {es:List Expr} {ta:TE} {t:TA}
theorem pe_methD0 {pl:Sem Bool} (he:PE X o ta) (hr:Room k X.A) (hx:oO CX X E)
  (ht:eval (.Call (.Attribute o m apos) [] [] pos) X.env=(do
   let ov ←eval o X.env
   standAt apos.atName
   let (f,first) ←holding [ov] (getMethod ov m pl)
   callWith pos f first (backTo pos (starEach [] X.env)) (backToKw pos (keywordEach [] X.env))):=by rfl):
  PE X (.Call (.Attribute o m apos) [] [] pos) (tMethD X.prog X.w X.K X.mg X.base CX k m E ta tNil):=by
 intro pins s σ H Q I h
 refine PySem.W.methodCall_KW (pl:=pl) (thn (he pins s σ H _ I h) fun u s1 hpt=>?_) ht
 obtain⟨x,H1,I1,rx,a,C,dx,fs,sp,ex,ea,l,⟨f,fd,ps,c,hm,hb,F⟩,q⟩:=hpt
 subst ex
 obtain rfl:u=Value.ref a:=rx
 refine xU I1 ea c hm l ?_
 exact PySem.W.callWith_K0 (first:=[.ref a]) I1.kIn hm.kp (run_fn (us:=[.ref a]) (vs:=[.ref a]) (ds:=[]) (dvs:=[]) F hr hb .nil hx I1 (.cons rfl .nil) (by rw [List.append_nil];exact q))
end
section
variable {X:Cx}
end
inductive KRows (w:World) (K:PySem.W.Frag):List DictEntry→List (Str×List Int)→Prop
 | nil:KRows w K [] []
 | cons {x:Str} {t:Tok} {ad:Addr} {ns:List Int} {es:List DictEntry} {rows:List (Str×List Int)} {h:Int} {its:Array Value} {n:Nat} {o:Obj}:
   h=hashStr w x→K.lookup ad=some o→o.cls=.type "tuple" →o.data=.seq its n→Vals (ns.map V.int) its.toList→ns.length≤1000→KRows w K es rows→KRows w K (⟨h,.str x t,.ref ad⟩:: es) ((x,ns):: rows)
def KTab (w:World) (K:PySem.W.Frag) (a:Addr) (rows:List (Str×List Int)):Prop:=
 ∃(o:Obj) (es:Array DictEntry) (ep:Nat),K.lookup a=some o∧o.cls=.type "dict" ∧o.dict=none∧o.slots= #[]∧o.data=.dict es ep∧(a == sysModules)=false∧KRows w K es.toList rows∧(rows.map (·.1)).Nodup
theorem KTab.mk' {w:World} {K:PySem.W.Frag} {a:Addr} {rows:List (Str×List Int)} {o:Obj} {es:Array DictEntry} {ep:Nat} (lk:K.lookup a=some o) (c1:o.cls=.type "dict") (c2:o.dict=none) (c3:o.slots= #[]) (c4:o.data=.dict es ep) (sm:(a == sysModules)=false)
  (rw':KRows w K es.toList rows) (nd:(rows.map (·.1)).Nodup):KTab w K a rows:=⟨o,es,ep,lk,c1,c2,c3,c4,sm,rw',nd⟩
def rowOf (rows:List (Str×List Int)) (z:Str):Option (List Int):=(rows.find? fun r=>decide (r.1=z)).map (·.2)
section
variable {P:Program} {w:World} {K:PySem.W.Frag}
theorem KRows.kvs:∀{es:List DictEntry} {rows:List (Str×List Int)},KRows w K es rows→∃kvs:List (Key×Value),Pairs (cX P w) es kvs∧kvs.map (·.1)=rows.map (fun r=>(Sum.inr r.1:Key))∧
  (∀e∈es,∃k,(cX P w).is k e.key=true∧e.hash=(cX P w).hash k)∧
  ∀z,(rowOf rows z=none→valueAt kvs (Sum.inr z)=none)∧∀ns,rowOf rows z=some ns→∃ad,valueAt kvs (Sum.inr z)=some (.ref ad)∧∀H,SqT K H ad (ns.map V.int)
 | _,_,.nil=>⟨[],.nil,rfl,fun e he=>(by cases he),fun z=>⟨fun _=>rfl,fun ns e=>by cases e⟩⟩
 | _,_,@KRows.cons _ _ x t ad ns es rows h its n o hh hl hc hdt hv hz hr=>by
  obtain⟨kvs,p,hk,ho,hf⟩:=KRows.kvs hr
  refine⟨(Sum.inr x,.ref ad):: kvs,.cons (nY P w x t) rfl p,by rw [List.map_cons,List.map_cons,hk],fun e he=>?_,fun z=>?_⟩
  ·rcases List.mem_cons.mp he with e1 | he
   ·subst e1
    exact⟨Sum.inr x,nY P w x t,hh⟩
   ·exact ho e he
  ·by_cases hx:x=z
   ·subst hx
    have e1:rowOf ((x,ns):: rows) x=some ns:=by simp [rowOf]
    have e2:valueAt ((Sum.inr x,Value.ref ad):: kvs) (Sum.inr x:Key)=some (.ref ad):=by simp [valueAt]
    rw [e1,e2]
    refine⟨fun e=>by (cases e),fun ms e=>⟨ad,rfl,fun H=>.inr ⟨_,its,n,hl,hc,hdt,?_,?_⟩⟩⟩
    ·have:=hv.length
     have hs:sizeLine=16777216:=sizeLine_eq
     simp at this
     omega
    ·cases e;exact hv
   ·have e1:rowOf ((x,ns):: rows) z=rowOf rows z:=by simp [rowOf,hx]
    have hx':¬(Sum.inr x:Key)=Sum.inr z:=fun q=>hx (Sum.inr.inj q)
    have e2:valueAt ((Sum.inr x,Value.ref ad):: kvs) (Sum.inr z:Key)=valueAt kvs (Sum.inr z):=by simp [valueAt,hx']
    rw [e1,e2]
    exact hf z
theorem KTab.map {a:Addr} {rows:List (Str×List Int)} {h:Heap} (T:KTab w K a rows) (hk:K.In h):∃f:Key→Option Value,h.MapOf (cX P w) a f∧(a == sysModules)=false∧
  ∀z,(rowOf rows z=none→f (Sum.inr z)=none)∧∀ns,rowOf rows z=some ns→∃ad,f (Sum.inr z)=some (.ref ad)∧∀H,SqT K H ad (ns.map V.int):=by
 obtain⟨o,es,ep,hl,c1,c2,c3,c4,hs,hr,nd⟩:=T
 obtain⟨kvs,p,hkk,ho,hf⟩:=hr.kvs (P:=P)
 have D:h.DictOf (cX P w) a kvs:=⟨o,es,ep,hk a _ hl,⟨c1,c2,c3⟩,c4,fun e he=>ho e (by simpa using he),p,?_⟩
 ·exact⟨_,D.mapOf,hs,hf⟩
 ·rw [hkk]
  have:rows.map (fun r=>(Sum.inr r.1:Key))=(rows.map (·.1)).map Sum.inr:=by rw [List.map_map];rfl
  rw [this]
  exact List.Pairwise.map _ (fun a b hab e=>hab (Sum.inr.inj e)) nd
end
section
variable {X:Cx} {i o:Expr} {ty td:TE} {pos:Pos}
def tInK (w:World) (K:PySem.W.Frag) (ty td:TE):TE:=fun σ H Q=>ty σ H fun y H1=>td σ H1 fun x H2=>∃a rows z,x=.ref a∧KTab w K a rows∧y=.str z∧Q (.bl (rowOf rows z).isSome) H2
theorem pc_inK (hi:PE X i ty) (ho:PE X o td):PC X .In i o (tInK X.w X.K ty td):=by
 intro pins s σ H Q I h
 refine thn (hi pins s σ H _ I h) fun iv s1 ⟨y,H1,I1,ry,q1⟩=>thn (ho pins s1 σ H1 _ I1 q1) fun u s2 hpt=>?_
 obtain⟨x,H2,I2,rx,a,rows,z,ex,T,ey,q2⟩:=hpt
 subst ex
 subst ey
 obtain rfl:u=Value.ref a:=rx
 obtain⟨t,rfl⟩:=ry
 obtain⟨f,M,hs,hf⟩:=T.map (P:=X.prog) I2.kIn
 refine wpAny_in_of (k:=(Sum.inr z:Key)) (nY X.prog X.w z t) hs M ?_
 refine⟨.bl (rowOf rows z).isSome,H2,I2.tok _,?_,q2⟩
 cases e:rowOf rows z with
 | none=>rw [(hf z).1 e];rfl
 | some ns=>obtain⟨ad,e1,_⟩:=(hf z).2 ns e;rw [e1];rfl
def rIxK (w:World) (K:PySem.W.Frag):R2:=fun x y H Q=>∃a rows z ns,x=.ref a∧KTab w K a rows∧y=.str z∧rowOf rows z=some ns∧∀ad,SqT K H ad (ns.map V.int)→Q (.ref ad) H
theorem ix_K:IxR X (rIxK X.w X.K):=by
 intro value slice pins s σ H x y v u Q I rx ry h hs
 obtain⟨a,rows,z,ns,rfl,T,rfl,e,q⟩:=h
 cases rx
 obtain⟨t,rfl⟩:=ry
 obtain⟨f,M,hsm,hf⟩:=T.map (P:=X.prog) I.kIn
 obtain⟨ad,e1,e2⟩:=(hf z).2 ns e
 exact tail_any M.typeIs PySem.F.slot_dict_getitem.lookup (wpAny_getItem_of (k:=(Sum.inr z:Key)) (nY X.prog X.w z t) M e1 ⟨.ref ad,H,I.tok _,rfl,q ad (e2 H)⟩) hs
theorem pe_getK (ho:PE X o td) (hi:PE X i ty) (hs:PlainIx i):PE X (.Subscript o i pos) (tOp (rIxK X.w X.K) td ty):=aW ix_K ho hi hs
end
def SqA (K:PySem.W.Frag) (H:Hp) (a:Addr) (xs:List V):Prop:=SqL K H a xs∨SqT K H a xs
theorem aQ.seqT {K:PySem.W.Frag} {H H':Hp} {a:Addr} {xs:List V} (e:aQ H H') (h:SqT K H a xs):SqT K H' a xs:=by
 rcases h with (h | ⟨o,h⟩) | h
 ·exact .inl (.inl (e _ _ h))
 ·exact .inl (.inr ⟨o,e _ _ h⟩)
 ·exact .inr h
theorem aQ.seqA {K:PySem.W.Frag} {H H':Hp} {a:Addr} {xs:List V} (e:aQ H H') (h:SqA K H a xs):SqA K H' a xs:=h.elim (fun h=>.inl (e.seq h)) fun h=>.inr (e.seqT h)
def But (p:Addr) (H H':Hp):Prop:=∀b o,b≠p→H b=some o→H' b=some o
theorem But.refl {p:Addr} (H:Hp):But p H H:=fun _ _ _ e=>e
theorem But.trans {p:Addr} {H H1 H2:Hp} (a:But p H H1) (b:But p H1 H2):But p H H2:=fun c o n e=>b c o n (a c o n e)
theorem But.of_same {p:Addr} {H H1:Hp} (a:aQ H H1):But p H H1:=fun c o _ e=>a c o e
theorem But.write {p:Addr} {H:Hp} {o:HO}:But p H (upd H p o):=fun b u n e=>by rw [aH n];exact e
theorem But.seqT {K:PySem.W.Frag} {H H':Hp} {p a C dx:Addr} {fs:List (Str×V)} {xs:List V} (e:But p H H') (hp:H p=some (.ins C dx fs)) (h:SqT K H a xs):SqT K H' a xs:=by
 rcases h with (h | ⟨o,h⟩) | h
 ·exact .inl (.inl (e _ _ (uA h hp (by intro z;cases z)) h))
 ·exact .inl (.inr ⟨o,e _ _ (uA h hp (by intro z;cases z)) h⟩)
 ·exact .inr h
theorem But.seqL {K:PySem.W.Frag} {H H':Hp} {p a C dx:Addr} {fs:List (Str×V)} {xs:List V} (e:But p H H') (hp:H p=some (.ins C dx fs)) (h:SqL K H a xs):SqL K H' a xs:=by
 rcases h with (h | ⟨o,h⟩) | h
 ·exact .inl (.inl (e _ _ (uA h hp (by intro z;cases z)) h))
 ·exact .inl (.inr ⟨o,e _ _ (uA h hp (by intro z;cases z)) h⟩)
 ·exact .inr h
theorem But.seqA {K:PySem.W.Frag} {H H':Hp} {p a C dx:Addr} {fs:List (Str×V)} {xs:List V} (e:But p H H') (hp:H p=some (.ins C dx fs)) (h:SqA K H a xs):SqA K H' a xs:=h.elim (fun h=>.inl (e.seqL hp h)) fun h=>.inr (e.seqT hp h)
theorem tup_read {K:PySem.W.Frag} {H:Hp} {a:Addr} {xs:List V} {Q:VK} (h:SqA K H a xs) (k:∀H' u,aQ H H'→SqT K H' u xs→Q (.ref u) H'):
  ∃p ys,[V.ref a]=[.ref p]∧((SqL K H p ys∧∀l,H l=none→Q (.ref l) (upd H l (.tup ys)))∨(SqT K H p ys∧Q (.ref p) H)):=by
 rcases h with h | h
 ·exact⟨a,xs,rfl,.inl ⟨h,fun l hl=>k _ _ (aD hl) (SqT.of au)⟩⟩
 ·exact⟨a,xs,rfl,.inr ⟨h,k _ _ (aQ.refl _) h⟩⟩
theorem wj {X:Cx}:qK X (.type "tuple") (fun xs H Q=>∃a ys,xs=[.ref a]∧SqA X.K H a ys∧∀H' u,aQ H H'→SqT X.K H' u ys→Q (.ref u) H'):=by
 intro pins s σ H xs us Q I r h
 obtain⟨a,ys,rfl,hq,q⟩:=h
 exact call_tuple_of pins s σ H _ us Q I r (tup_read hq q)
section
variable {es:List Expr} {env:Env}
theorem bW {a b c}:starEach (.Tuple a b c:: es) env=(false,eval (.Tuple a b c) env):: starEach es env:=rfl
theorem bw {a b}:starEach (.List a b:: es) env=(false,eval (.List a b) env):: starEach es env:=rfl
theorem ao {a b c}:starEach (.Constant a b c:: es) env=(false,eval (.Constant a b c) env):: starEach es env:=rfl
theorem ak {a b}:starEach (.Name a b:: es) env=(false,eval (.Name a b) env):: starEach es env:=rfl
theorem aV {a b c d}:starEach (.Call a b c d:: es) env=(false,eval (.Call a b c d) env):: starEach es env:=rfl
theorem bY {a b c d}:starEach (.BinOp a b c d:: es) env=(false,eval (.BinOp a b c d) env):: starEach es env:=rfl
theorem bf {a b c}:starEach (.Attribute a b c:: es) env=(false,eval (.Attribute a b c) env):: starEach es env:=rfl
theorem aK {a b c}:starEach (.Subscript a b c:: es) env=(false,eval (.Subscript a b c) env):: starEach es env:=rfl
theorem fV {a b c d}:starEach (.ListComp a b c d:: es) env=(false,eval (.ListComp a b c d) env):: starEach es env:=rfl
theorem star_Compare {a b c d}:starEach (.Compare a b c d:: es) env=(false,eval (.Compare a b c d) env):: starEach es env:=rfl
end
section
variable {X:Cx} {scope:Scope} {x:Str} {js:List Nat} {cl:List (Str×Addr)} {C:Addr} {s:Shared} {H:Hp} {ex:List Addr}
end
section
variable {X:Cx}
end
end L2
set_option Elab.async false
set_option linter.all false
set_option maxRecDepth 100000
set_option Elab.async false
set_option maxHeartbeats 4000000
namespace L2
open PySem PySem.Spec PyProof.Rows
section
variable {X:Cx}
end
end L2
set_option Elab.async false
set_option linter.all false
set_option maxRecDepth 100000
set_option Elab.async false
set_option maxHeartbeats 4000000
namespace L2
open PySem PySem.Spec PyProof.Rows
section
variable {P:Program} {w:World} {K:PySem.W.Frag} {mg:Str→Option Value} {base:Heap} {N:List Str} {qual:Str} {scope:Scope} {f:Addr} {cd:Value} {A:Around} {outer:List Env} {s:Shared} {H:Hp} {E:XK}
end
structure ExcCls (K:PySem.W.Frag) (C:Addr):Prop where
 ex:∃(nm q:Str) (Nn:Addr) (bs bm bmB:List Value) (hdct:Bool) (sn:List Str) (sub:List Value) (ab:Bool) (col:Option Bool) (dd:Option Addr) (k0 k1 k2 k3 k5:Option Value) (B newId initId:String) (mN:Str→Option Value),
  ExcBaseFacts B newId initId bmB∧bm.contains (.type "BaseException")=true∧mN "__init__" =none∧
  ∀h:Heap,K.In h→h.get? C=some (excClassObj nm q C Nn bs bm hdct sn sub ab col dd k0 k1 k2 k3 k5 newId)∧h.Ns Nn mN∧OwnTail h bmB bm
section
variable {P:Program} {w:World} {K:PySem.W.Frag} {mg:Str→Option Value} {base:Heap} {N:List Str} {qual:Str} {scope:Scope} {f:Addr} {cd:Value} {A:Around} {outer:List Env} {s:Shared} {H:Hp} {E:XK}
def tRaise (E:XK) (C:Addr) (ta:TA):TS:=fun _ σ H=>ta σ H fun vs H1=>vs.length≤1000∧E (.ref C) none H1
end
theorem un_up {fs:List Addr} {H H2:Hp} {h h2 h3 B:Heap} (u:Un fs [] H H2 h h2) (inB:∀b o,h.get? b=some o→b∉fs→∃o',B.get? b=some o') (st2:B.StaysIn h2) (st3:B.StaysIn h3) (up:h2.UpToSlots h3)
  (fd:∀b o,h2.get? b=some o→b∈fs→∀vs,o.data≠.fields vs):Un fs [] H H2 h h3:=by
 have go:∀b o,h2.get? b=some o→(∃o',B.get? b=some o')→h3.get? b=some o:=fun b o q ⟨o',q'⟩=>by
  have:=st2 b o' q'
  rw [q] at this
  cases this
  exact st3 b _ q'
 refine⟨fun b o q n hb hx=>go b o (u.keep b o q n hb hx) (inB b o q hb),fun b o q n hb hx=>?_,fun b o q n hx=>u.free b o q n hx,fun b o q hx=>?_,u.tups,u.frzs,u.tbls⟩
 ·obtain⟨sl,k1⟩:=u.slot b o q n hb hx
  obtain⟨sl2,k2⟩:=up b _ k1 (fd b _ k1 hb)
  exact⟨sl2,k2⟩
 ·obtain⟨o2,k2⟩:=u.there b o q hx
  by_cases hb:b∈fs
  ·obtain⟨sl3,k3⟩:=up b _ k2 (fd b _ k2 hb)
   exact⟨_,k3⟩
  ·exact⟨o2,go b o2 k2 (inB b o q hb)⟩
theorem dC.some_at {P:Program} {w:World} {H:Hp} {h:Heap} {a:Addr} {o:HO} (x:dC P w H h a o):∃ob,h.get? a=some ob:=by
 cases o with
 | lst xs=>obtain⟨_,_,_,_,e⟩:=x;exact⟨_,e⟩
 | tup xs=>obtain⟨_,_,_,ob,e,_⟩:=x;exact⟨_,e⟩
 | dK kvs=>obtain⟨_,_,_,_,o,_,_,e,_⟩:=x;exact⟨_,e⟩
 | dT kvs=>obtain⟨_,_,_,_,o,_,_,e,_⟩:=x;exact⟨_,e⟩
 | set S n=>obtain⟨o,_,_,_,e,_⟩:=x;exact⟨_,e⟩
 | ins C dx fs=>obtain⟨_,_,_,e,_⟩:=x;exact⟨_,e⟩
 | own y=>exact x
 | xd fs=>obtain⟨_,⟨_,_,_,e,_⟩,_⟩:=x;exact⟨_,e⟩
 | rng lo hi=>obtain⟨_,_,_,e⟩:=x;exact⟨_,e⟩
 | frz ob u=>obtain⟨e,_⟩:=x;exact⟨_,e⟩
 | tbl ps=>exact⟨_,(show h.get? a=some _ from x)⟩
 | met f y=>exact⟨_,(show h.get? a=some _ from x)⟩
 | ext φ=>obtain⟨_,e,_⟩:=x;exact e
def Cx.over (X:Cx) (pn:List (Addr×Obj)) (E:Value→Shared→Prop):Cx:={ X with pn:=pn,xe:=E }
def Cx.marked (X:Cx) (x:Addr):Cx:={ X with A:=X.A.mark (some (.ref x)),calm:=false,xe:=fun _ _=>False }
section
variable {X:Cx} {pins:List (Addr×Obj)} {σ:St} {H:Hp} {s:Shared} {E:Value→Shared→Prop}
theorem Cx.Ok.over {pn:List (Addr×Obj)} (ok:X.Ok):(X.over pn E).Ok:=
 ⟨ok.mod,ok.kind,ok.glob,ok.blt,ok.above,ok.inj,ok.has,ok.cab,ok.hd,ok.frames,ok.stk,ok.exf,ok.bs,ok.bsz,ok.noex,ok.exfs,ok.funs,ok.frf⟩
theorem Cx.Ok.unover {pn:List (Addr×Obj)} (ok:(X.over pn E).Ok):X.Ok:=
 ⟨ok.mod,ok.kind,ok.glob,ok.blt,ok.above,ok.inj,ok.has,ok.cab,ok.hd,ok.frames,ok.stk,ok.exf,ok.bs,ok.bsz,ok.noex,ok.exfs,ok.funs,ok.frf⟩
theorem Inv.over (I:Inv X pins σ H s):Inv (X.over (X.pn ++ pins) E) [] σ H s:=⟨I.ok.over,I.os,I.bare,I.base,I.loc,I.cell,I.free,I.freeC,fun p hp=>I.pin p (by simpa [Cx.over] using hp),I.hok,I.len⟩
theorem Inv.unover {pins':List (Addr×Obj)} (I:Inv (X.over (X.pn ++ pins) E) pins' σ H s):Inv X pins σ H s:=⟨I.ok.unover,I.os,I.bare,I.base,I.loc,I.cell,I.free,I.freeC,fun p hp=>I.pin p (List.mem_append_left _ hp),I.hok,I.len⟩
theorem Inv.marked {x:Addr} (I:Inv X pins σ H s):Inv (X.marked x) pins σ H s:=
 ⟨⟨I.ok.mod,I.ok.kind,I.ok.glob,I.ok.blt,I.ok.above,I.ok.inj,I.ok.has,I.ok.cab,fun h=>absurd h (by simp [Cx.marked]),I.ok.frames,I.ok.stk,I.ok.exf,I.ok.bs,I.ok.bsz,I.ok.noex,I.ok.exfs,I.ok.funs,I.ok.frf⟩,I.os,I.bare,I.base,I.loc,I.cell,I.free,I.freeC,I.pin,I.hok,I.len⟩
theorem Inv.unmarked {x:Addr} (hc:X.calm=true→X.A.handled=none) (I:Inv (X.marked x) pins σ H s):Inv X pins σ H s:=
 ⟨⟨I.ok.mod,I.ok.kind,I.ok.glob,I.ok.blt,I.ok.above,I.ok.inj,I.ok.has,I.ok.cab,hc,I.ok.frames,I.ok.stk,I.ok.exf,I.ok.bs,I.ok.bsz,I.ok.noex,I.ok.exfs,I.ok.funs,I.ok.frf⟩,I.os,I.bare,I.base,I.loc,I.cell,I.free,I.freeC,I.pin,I.hok,I.len⟩
theorem Inv.track {x:Addr} {o:HO} (I:Inv X pins σ H s) (hn:H x=none) (h0:X.s₀.heap.get? x=none) (hL:x≠X.env.locals) (hc:∀y c,X.env.cells.lookup y=some c→c≠x) (hp:∀p∈X.pn ++ pins,p.1≠x)
  (new:dC X.prog X.w (upd H x o) s.heap x o):Inv X pins σ (upd H x o) s:=by
 have ne:∀b u,H b=some u→b≠x:=fun b u q=>aF q hn
 have ne0:∀b u,X.s₀.heap.get? b=some u→b≠x:=fun b u q z=>by rw [z,h0] at q;cases q
 refine⟨I.ok,I.os,I.bare,⟨I.base.keep,I.base.slot,fun b u q n hx=>?_,I.base.there,fun b xs q=>?_,fun b u xs q=>?_,fun b ps q=>?_⟩,I.loc,I.cell,?_,fun y c e=>?_,fun p h=>?_,hok_track I.hok hn new,I.len⟩
 ·rw [aH (ne0 b u q)];exact I.base.free b u q n hx
 ·have:=I.base.tups b xs q;rw [aH (ne b _ this)];exact this
 ·have:=I.base.frzs b u xs q;rw [aH (ne b _ this)];exact this
 ·obtain⟨m,e⟩:=I.base.tbls b ps q;exact⟨m,by rw [aH (ne b _ e)];exact e⟩
 ·rw [aH (Ne.symm hL)];exact I.free
 ·rw [aH (hc y c e)];exact I.freeC y c e
 ·obtain⟨e,n,r⟩:=I.pin p h;exact⟨e,by rw [aH (hp p h)];exact n,r⟩
end
structure Landed (X:Cx) (pins:List (Addr×Obj)) (σ:St) (H':Hp) (x:Addr) (cls:Value) (s:Shared) (B:Heap) (a0:Value):Prop where
 inv:Inv X pins σ H' s
 fly:Heap.FlyingW B X.stack x cls a0 s.heap
 more:∀h6,Heap.FlyingW B X.stack x cls a0 h6→s.heap.UpToSlots h6→Inv X pins σ H' { s with heap:=h6 }
 free:H' x=none
 new:X.s₀.heap.get? x=none
 neL:x≠X.env.locals
 neC:∀y c,X.env.cells.lookup y=some c→c≠x
 neP:∀p∈X.pn ++ pins,p.1≠x
section
variable {X:Cx} {pins:List (Addr×Obj)} {σ:St} {H:Hp} {s:Shared}
theorem qx {M:Model} {A:Around} {E:Value→Shared→Prop} {i:Nat} {x:Str} {pos:Pos} {Q:Unit→Shared→Prop} (I:Inv X pins σ H s) (hN:X.N.Nodup) (hi:X.N[i]?=some x) (hk:X.env.scope.names.lookup x=some .local)
  (h:∀s',Inv X pins (σ.set i none) H s'→Q () s'):wpAny M A (do bindName X.env x .none;unbindBehindTheSuite X.env x pos) Q E s:=by
 obtain⟨m,hn,hl⟩:=id I.loc
 have hcls:(X.env.scope.kind == .class || (X.env.scope.kind == .module && X.env.locals != X.env.globals))=false:=by rw [I.ok.kind];rfl
 have hiσ:i <σ.length:=by rw [I.len];exact(List.getElem?_eq_some_iff.mp hi).1
 have cne:=I.cne
 refine wpAny_nameGoes_keeps hk hn hcls fun h' v hn' hs=>?_
 refine h _ ⟨I.ok,I.os,I.bare,⟨fun b o e n hb hx=>?_,fun b o e n hb hx=>?_,I.base.free,fun b o e hx=>?_,I.base.tups,I.base.frzs,I.base.tbls⟩,⟨_,hn',fun j y v' e1 e2 e3=>?_⟩,fun y c e=>?_,I.free,I.freeC,fun p hp=>?_,fun b ob e=>?_,by simpa using I.len⟩
 ·exact(hs.2 b (Nat.ne_of_lt (Nat.lt_of_lt_of_le (Heap.lt_size e) I.ok.above))).trans (I.base.keep b o e n hb hx)
 ·obtain⟨sl,e1⟩:=I.base.slot b o e n hb hx
  exact⟨sl,(hs.2 b (Nat.ne_of_lt (Nat.lt_of_lt_of_le (Heap.lt_size e) I.ok.above))).trans e1⟩
 ·obtain⟨o',e1⟩:=I.base.there b o e hx
  exact⟨o',(hs.2 b (Nat.ne_of_lt (Nat.lt_of_lt_of_le (Heap.lt_size e) I.ok.above))).trans e1⟩
 ·by_cases hj:j=i
  ·subst hj
   rw [List.getElem?_set_self hiσ] at e2
   cases e2
  ·rw [List.getElem?_set_ne (Ne.symm hj)] at e2
   obtain⟨u',r',q⟩:=hl j y v' e1 e2 e3
   refine⟨u',r',?_⟩
   rcases q with ⟨k,e⟩ | ⟨k,c,e,z⟩
   ·refine .inl ⟨k,?_⟩
    have:y≠x:=fun e=>hj (Al hN e1 (e ▸ hi))
    simp [this,e]
   ·exact .inr ⟨k,c,e,z.sameBut hs (cne y c e)⟩
 ·obtain⟨w',z⟩:=I.cell y c e
  exact⟨w',z.sameBut hs (cne y c e)⟩
 ·obtain⟨e,n,ne,nf,d⟩:=I.pin p hp
  exact⟨(hs.2 p.1 ne).trans e,n,ne,nf,d⟩
 ·refine(I.hok b ob e).stay (fun c w' hc q=>(hs.2 c ?_).trans q) (fun _ q=>q) fun _ _ q=>q
  rintro rfl
  rcases hc with rfl | hc
  ·rw [I.free] at e;cases e
  ·rw [I.free] at hc;cases hc
end
def excO (x:Addr) (cls:Value):HO:=.ext fun h=>∃ob,h.get? x=some ob∧ob.cls=cls
structure ExcAt (K:PySem.W.Frag) (C:Addr):Prop where
 ex:∃(nm q:Str) (Nn:Addr) (bs bm:List Value) (hdct:Bool) (sn:List Str) (sub:List Value) (ab:Bool) (col:Option Bool) (dd:Option Addr) (k0 k1 k2 k3 k5:Option Value) (newId:String),bm.contains (.type "BaseException")=true∧
  ∀h:Heap,K.In h→h.get? C=some (excClassObj nm q C Nn bs bm hdct sn sub ab col dd k0 k1 k2 k3 k5 newId)
def tCallR (sp:Sp) (R:St→XK) (t:TA):TE:=fun σ H Q=>t σ H fun vs H1=>sp vs H1 Q (R σ)
theorem pe_callR {X:Cx} {CX:CXT} {k:Nat} {f:Addr} {fd:FuncData} {ps:List Str} {sp:Sp} {R:St→XK} {x:Str} {p pos:Pos} {e:Expr} {es:List Expr} {t:TA}
  (F:FnOk X.prog X.w X.K X.mg X.base CX k f fd ps sp) (hr:Room k X.A) (hg:Gl X x) (hm:X.mg x=some (.ref f)) (hk:PySem.W.keepIn X.K (.ref f)=true) (hb:Binds X.K fd ps [])
  (hx:∀pins σ H s e s',Inv X pins σ H s→CX X.stack H s (R σ) e s'→X.xe e s')
  (ha:PA X (e:: es) t) (hdb:(x == ("__debug__" :Str))=false:=by decide) (he:starEach (e:: es) X.env=(false,eval e X.env):: starEach es X.env:=by rfl) (hpl:(backTo pos (starEach es X.env)).any (·.1)=false:=by rfl):
  PE X (.Call (.Name x p) (e:: es) [] pos) (tCallR sp R t):=by
 intro pins s σ H Q I h
 refine wpAny_Call_Name_kw (tU I hg hm ?_ hdb)
 refine PySem.W.callWith_K (h₀:=X.base) I.ok.mod.kin hk (thn (ha pos pins s σ H _ I h) fun us s1 ⟨vs,H1,I1,r,q⟩=>⟨I1.kIn,?_⟩) he hpl
 have hl:us.length=ps.length:=by rw [←r.length];exact F.len _ _ _ _ q
 have hb':=hb s1 us I1.kIn (by simpa using hl)
 rw [List.append_nil] at hb'
 refine wpAny_call (codeAny_mono (F.run X.A X.stack s1 H1 ⟨us,[]⟩ us vs Q (R σ) hr I1.env0 hb' r q) fun r s' hq=>?_)
 cases r with
 | error e=>exact hx pins σ H1 s1 e s' I1 hq
 | ok fl=>
  cases fl with
  | ret u=>exact I1.after hq
  | next=>exact False.elim hq
  | brk=>exact False.elim hq
  | cont=>exact False.elim hq
end L2
set_option Elab.async false
set_option linter.all false
set_option maxRecDepth 100000
set_option Elab.async false
set_option maxHeartbeats 4000000
namespace L2
open PySem PySem.Spec PyProof.Rows
section
variable {prog:Program} {w:World} {A:Around} {E:Value→Shared→Prop} {h:Heap} {g:Array GenState} {d:Drawn} {t:Nat} {os:OsState} {a:Addr} {o:Obj} {C:Addr}
structure ExcLk (M:Model) (h:Heap) (C:Addr):Prop where
 ga:∀{A:Around} {E:Value→Shared→Prop} {Q:Option Value→Shared→Prop} {g d t os},Q (some (.builtin "BaseException.__getattribute__")) ⟨h,g,d,t,os⟩→wpAny M A (typeLookup (.ref C) "__getattribute__") Q E ⟨h,g,d,t,os⟩
 gn:∀{A:Around} {E:Value→Shared→Prop} {Q:Option Value→Shared→Prop} {g d t os},Q none ⟨h,g,d,t,os⟩→wpAny M A (typeLookup (.ref C) "__getattr__") Q E ⟨h,g,d,t,os⟩
 cl:∀{A:Around} {E:Value→Shared→Prop} {Q:Option Value→Shared→Prop} {g d t os},Q (some (.builtin "object.__class__")) ⟨h,g,d,t,os⟩→wpAny M A (typeLookup (.ref C) "__class__") Q E ⟨h,g,d,t,os⟩
 ob:∀{A:Around} {E:Value→Shared→Prop} {Q:Bool→Shared→Prop} {g d t os},Q true ⟨h,g,d,t,os⟩→wpAny M A (isSubtype (.ref C) (.type "object")) Q E ⟨h,g,d,t,os⟩
 be:∀{A:Around} {E:Value→Shared→Prop} {Q:Bool→Shared→Prop} {g d t os},Q true ⟨h,g,d,t,os⟩→wpAny M A (isSubtype (.ref C) (.type "BaseException")) Q E ⟨h,g,d,t,os⟩
theorem xc_get {R:Result→Shared→Prop} (L:ExcLk (model prog w) h C) (hx:h.get? a=some o) (hc:o.cls=.ref C) (hq:R (.ok (.ret (.ref C))) ⟨h,g,d,t,os⟩):
  codeAny (model prog w) A (.call (.builtin "getset_descriptor.__get__") ⟨[.builtin "object.__class__",.ref a,.ref C],[]⟩) R ⟨h,g,d,t,os⟩:=by
 have hT5:(⟨h,g,d,t,os⟩:Shared).TypeIs (.builtin "object.__class__") "getset_descriptor" :=F.typeOf_object_class
 refine codeAny_call_builtin F.slot_gs_get.plain F.entry_gs_get (F.slot_gs_get.check _ _ _ _ _ _ _ _ hT5 (F.args_gs_get _ _ _) ?_)
 repeat (any_goals (first | assumption | (with_reducible refine wpAny_loadPart_at hx ?_;rw [hc]) | (rw [F.owner_object_class];with_reducible refine L.ob ?_) | wp_step))
 refine⟨Code.quiet_builtin _ (by decide +kernel),codeAny_builtin F.entry_object_class ?_⟩
 repeat (any_goals (first | assumption | (with_reducible refine wpAny_loadPart_at hx ?_;rw [hc]) | wp_step))
theorem xc_check {M:Model} {nameV:Value} {Q:Unit→Shared→Prop} (L:ExcLk M h C)
  (hx:h.get? a=some o) (hc:o.cls=.ref C) (hq:Q () ⟨h,g,d,t,os⟩):wpAny M A (checkBuiltinCall "BaseException.__getattribute__" ⟨[.ref a,nameV],[]⟩) Q E ⟨h,g,d,t,os⟩:=by
 have hk:builtinKind "BaseException.__getattribute__" =some .slot:=by decide +kernel
 have hsplit:splitId "BaseException.__getattribute__" =some ("BaseException", "__getattribute__"):=by decide +kernel
 have ha:=F.args_bexc_ga (.ref a) nameV
 simp only [checkBuiltinCall,hk,hsplit]
 refine wpAny_bind ?_
 ·unfold isInstance
  repeat (first | (with_reducible refine wpAny_loadPart_at hx ?_;rw [hc]) | with_reducible refine L.be ?_ | wp_step)
  exact hq
theorem xc_entry {tk:Tok} {Q:Fin→Shared→Prop} (L:ExcLk (model prog w) h C) (hx:h.get? a=some o) (hc:o.cls=.ref C) (hq:Q (.done (.ret (.ref C))) ⟨h,g,d,t,os⟩):
  wpAny (model prog w) A (Builtin.«object.__getattribute__» ⟨[.ref a,.str "__class__" tk],[]⟩) Q E ⟨h,g,d,t,os⟩:=by
 have hT5:(⟨h,g,d,t,os⟩:Shared).TypeIs (.builtin "object.__class__") "getset_descriptor" :=F.typeOf_object_class
 have f5:=F.typeOf_object_class
 have f6:=F.slot_gs_get.lookup
 have f7:=F.slot_gs_set.lookup
 repeat (any_goals (first | assumption | (with_reducible refine wpAny_loadPart_at hx ?_;rw [hc]) | with_reducible refine L.cl ?_ | wp_step))
 refine xc_get L hx hc ?_
 repeat (any_goals (first | assumption | wp_step))
theorem xc_by {tk:Tok} {fill expr:Bool} {Q:Value→Shared→Prop} (L:ExcLk (model prog w) h C) (FB:ExcAttrFacts "ValueError") (hx:h.get? a=some o) (hc:o.cls=.ref C) (hq:Q (.ref C) ⟨h,g,d,t,os⟩):
  wpAny (model prog w) A (getAttrBy (.ref a) (.str "__class__" tk) fill expr) Q E ⟨h,g,d,t,os⟩:=by
 have f3:=FB.ga.bind (.ref a)
 have hx0:(expr && onTheHeap (Value.builtin "BaseException.__getattribute__"))=false:=by cases expr <;> rfl
 have hx2:(Value.builtin "BaseException.__getattribute__" == Value.builtin "object.__getattribute__")=false:=by decide +kernel
 have hx1:(onTheHeap (Value.ref C) && Value.builtin "BaseException.__getattribute__" == Value.builtin "object.__getattribute__")=false:=by rw [hx2];rfl
 repeat (any_goals (first | assumption | (with_reducible refine wpAny_loadPart_at hx ?_;rw [hc]) | with_reducible refine L.ga ?_ | with_reducible refine L.gn ?_ | wp_step))
 refine codeAny_call_builtin FB.ga.plain F.entry_bexc_ga (xc_check L hx hc (xc_entry L hx hc ?_))
 repeat (any_goals (first | assumption | wp_step))
theorem xc_attr {Q:Option Value→Shared→Prop} (L:ExcLk (model prog w) h C) (FB:ExcAttrFacts "ValueError") (hx:h.get? a=some o) (hc:o.cls=.ref C) (hq:Q (some (.ref C)) ⟨h,g,d,t+1,os⟩):
  wpAny (model prog w) A (getAttr? (.ref a) "__class__") Q E ⟨h,g,d,t,os⟩:=by
 unfold getAttr? getAttrBy?
 repeat (any_goals (first | assumption | with_reducible apply xc_by L FB hx hc | wp_step))
end
abbrev za:List Value:=[.type "ValueError",.type "Exception",.type "BaseException",.type "object"]
def nsK (K:PySem.W.Frag) (N:Addr) (x:Str):Option Value:=match K.lookup N with
 | some o=>(match o.data with | .dict es _=>nsFind es x | _=>none)
 | none=>none
theorem nsK_eq {K:PySem.W.Frag} {h:Heap} {N:Addr} (X:K.In h) (ok:PySem.W.nsOkIn K N=true):h.nsMap N=nsK K N:=by
 funext x
 unfold PySem.W.nsOkIn at ok
 split at ok
 ·rename_i look
  unfold Heap.nsMap nsK
  rw [X _ _ look,look]
 ·cases ok
theorem nsK_none {K:PySem.W.Frag} {N:Addr} {x:Str} (e:PySem.W.nsIn K N x=some none):nsK K N x=none:=by
 unfold PySem.W.nsIn at e
 split at e
 ·rename_i look
  split at e
  ·cases e
  ·rename_i f
   unfold nsK
   rw [look]
   show nsFind _ _=none
   unfold nsFind findBy
   rw [←Array.find?_toList,f]
   rfl
 ·cases e
theorem tail_base {K:PySem.W.Frag}:∀{l:List Value},PySem.W.tailIn K za l=true→l.contains (.type "BaseException")=true
 | [],e=>by simp [PySem.W.tailIn,za] at e
 | v:: r,e=>by
  unfold PySem.W.tailIn at e
  rcases Bool.or_eq_true_iff.mp e with z | z
  ·rw [beq_iff_eq.mp z];decide +kernel
  ·split at z
   ·split at z
    ·simp only [Bool.and_eq_true] at z
     rw [List.contains_cons,tail_base z.2,Bool.or_true]
    ·cases z
   ·cases z
theorem ExcCls.ofIn {K:PySem.W.Frag} {C:Addr} (z:PySem.W.excIn K C za "ValueError.__new__" =true):ExcCls K C:=by
 unfold PySem.W.excIn at z
 split at z
 ·rename_i od kd slo look
  split at z
  ·rename_i C1 up a0 a1 a2 a3 nid a5 em es
   simp only [Bool.and_eq_true,beq_iff_eq,Bool.not_eq_true'] at z
   obtain⟨⟨⟨⟨⟨x1,x2⟩,x3⟩,x4⟩,x5⟩,x6⟩:=z
   subst x1 x2
   obtain⟨g1,g2,g3,g4,g5,g6,g7,g8,g9,g10,g11⟩:=kd
   dsimp only at em x3 x5 x6
   subst em x3
   have hs:slo= #[a0,a1,a2,a3,some (.builtin "ValueError.__new__"),a5]:=by
    obtain⟨l⟩:=slo
    simp only at es
    rw [es]
   subst hs
   refine⟨⟨g1,g5,g4,g2,up,za,g6,g7,g8,g9,g10,od,a0,a1,a2,a3,a5, "ValueError", "ValueError.__new__", "ValueError.__init__",nsK K g4,PySem.F.excBase_ValueError,tail_base x4,nsK_none x6,fun h X=>⟨X _ _ look,?_,PySem.W.tail_of_in X x4⟩⟩⟩
   rw [←nsK_eq X x5]
   exact .of_isNs (PySem.W.isNs_of_in X x5)
  ·cases z
 ·cases z
theorem ExcCls.at {K:PySem.W.Frag} {C:Addr} (c:ExcCls K C):ExcAt K C:=by
 obtain⟨nm,q,Nn,bs,bm,bmB,hdct,sn,sub,ab,col,dd,k0,k1,k2,k3,k5,B,newId,initId,mN,_,hb,_,hf⟩:=c.ex
 exact⟨⟨nm,q,Nn,bs,bm,hdct,sn,sub,ab,col,dd,k0,k1,k2,k3,k5,newId,hb,fun h X=>(hf h X).1⟩⟩
structure XcK (K:PySem.W.Frag) (C:Addr):Prop where
 cls:(PySem.W.clsIn K C).isSome=true
 ga:PySem.W.findIn K (.ref C) "__getattribute__" =some (some (.builtin "BaseException.__getattribute__"))
 gn:PySem.W.findIn K (.ref C) "__getattr__" =some none
 cl:PySem.W.findIn K (.ref C) "__class__" =some (some (.builtin "object.__class__"))
 ob:PySem.W.subIn K (.ref C) (.type "object")=some true
 be:PySem.W.subIn K (.ref C) (.type "BaseException")=some true
theorem XcK.lk {K:PySem.W.Frag} {C:Addr} {M:Model} {h:Heap} (x:XcK K C) (X:K.In h):ExcLk M h C:=
 ⟨fun q=>(PySem.W.looks_findIn X x.ga).at q,fun q=>(PySem.W.looks_findIn X x.gn).at q,fun q=>(PySem.W.looks_findIn X x.cl).at q,fun q=>(PySem.W.looks_subIn X x.ob).at q,fun q=>(PySem.W.looks_subIn X x.be).at q⟩
def ExcHere (y C:Addr) (h:Heap):Prop:=∃ob,h.get? y=some ob∧ob.cls=.ref C
theorem XcK.obj {K:PySem.W.Frag} {C:Addr} (x:XcK K C):∃c d cd sl,K.lookup C=some ⟨c,d,.cls cd,sl⟩:=by
 have z:=x.cls
 unfold PySem.W.clsIn at z
 split at z
 ·rename_i look
  exact⟨_,_,_,_,look⟩
 ·cases z
theorem kitx_exc {K:PySem.W.Frag} {y C:Addr} (x:XcK K C):PySem.W.KitX K (.ref y) (.ref C) (ExcHere y C) where
 ty:=fun _ _ _ ⟨_,e1,e2⟩=>e2 ▸ (PySem.W.Looks.ld e1).andThen .now
 it:=fun _ h X _=>by
  obtain⟨c,d,cd,sl,look⟩:=x.obj
  intro A Q E s k q
  unfold isType loadHead
  exact wpAny_bind (wpAny_loadPart (k _ _ (X _ _ look)) (wpAny_pure q))
 ne:=fun h tp dd its n sl X e=>by
  obtain⟨c,d,cd,sl',look⟩:=x.obj
  refine Bool.eq_false_iff.mpr fun q=>?_
  obtain rfl:C=tp:=Value.ref.inj (beq_iff_eq.mp q)
  have z:=(X _ _ look).symm.trans e
  cases z
 ca:=fun {_ _ _ _ _ s} X p k=>by
  obtain⟨h,g,d,t,os⟩:=s
  obtain⟨ob,e1,e2⟩:=p
  exact xc_attr (x.lk X) PySem.F.attr_ValueError e1 e2 k
def isiE (K:PySem.W.Frag) (C:Addr):V→Bool→Prop
 | .ref D,b=>PySem.W.kitOne K (.ref C) (.ref D)=some b
 | .ty T,b=>PySem.W.kitOne K (.ref C) (.type T)=some b
 | _,_=>False
section
variable {P:Program} {w:World} {K:PySem.W.Frag} {mg:Str→Option Value} {base:Heap}
end
end L2
set_option Elab.async false
set_option linter.all false
set_option maxRecDepth 100000
set_option Elab.async false
set_option maxHeartbeats 4000000
namespace L2
open PySem
section
variable {prog:Program} {w:World} {A:Around} {E:Value→Shared→Prop} {h:Heap} {g:Array GenState} {d:Drawn} {t:Nat} {os:OsState}
variable {nm q:Str} {C N:Addr} {bs bm bmB:List Value} {hdct:Bool} {sn:List Str} {sub:List Value} {ab:Bool} {col:Option Bool} {dd:Option Addr} {k0 k1 k2 k3 k5:Option Value} {B newId initId:String}
theorem xi_lookup {mN:Str→Option Value} {name:Str} {v:Value} {Q:Option Value→Shared→Prop} {M:Model} (hC:h.get? C=some (excClassObj nm q C N bs bm hdct sn sub ab col dd k0 k1 k2 k3 k5 newId)) (hn:h.Ns N mN) (hv:mN name=some v)
  (hq:Q (some v) ⟨h,g,d,t,os⟩):wpAny M A (typeLookup (.ref C) name) Q E ⟨h,g,d,t,os⟩:=by
 rw [typeLookup_eq]
 refine wpAny_bind (wpAny_mroOf_exc hC ?_)
 rw [lookupAlong_cons]
 refine wpAny_bind (wpAny_classOwn_exc hC hn ?_)
 rw [hv]
 exact wpAny_pure hq
theorem xi_type_call (F:ExcBaseFacts B newId initId bmB) (T:OwnTail h bmB bm) {mN:Str→Option Value} {us:List Value} {f:Addr} {fo:Obj} {Q:Fin→Shared→Prop}
  (hC:h.get? C=some (excClassObj nm q C N bs bm hdct sn sub ab col dd k0 k1 k2 k3 k5 newId)) (hn:h.Ns N mN) (hi:mN "__init__" =some (.ref f)) (hf:h.get? f=some fo) (hfc:fo.cls=.type "function")
  (go:∀h' e,h.objs.size≤e→Heap.MadeExcOf h h' e (.ref C) us→wpAny (model prog w) A (call (.ref f) (.ref e:: us)) (fun r s'=>r=.none∧Q (.done (.ret (.ref e))) s') E ⟨h',g,d,t,os⟩) (hz:us.length≤sizeLine):
  wpAny (model prog w) A (Builtin.«type.__call__» ⟨.ref C:: us,[]⟩) Q E ⟨h,g,d,t,os⟩:=by
 repeat (first | with_reducible refine wpAny_loadPart_at hC ?_ | with_reducible refine wpAny_madeBy_exc hC ?_ | wp_step)
 refine codeAny_call_builtin_code (Code.quiet_builtin _ F.quiet) (wpAny_check_new_subT F T hC ?_)
 refine codeAny_exc_new_subT F T hC ?_ hz
 show wpAny _ _ _ _ _ _
 generalize ho:({ cls:=.ref C,data:=.fields #[.ref h.objs.size,.none,.none,.none,.bool false,.none] }:Obj)=eo
 generalize hp:h.push { cls:=.type "tuple",data:=.seq us.toArray }=hp1
 have up:∀b o,h.get? b=some o→(hp1.push eo).get? b=some o:=fun b o z=>Heap.get?_push_of_some _ (by rw [←hp];exact Heap.get?_push_of_some _ z)
 have hC1:=up _ _ hC
 have hn1:(hp1.push eo).Ns N mN:=hn.keeps up
 have sz:hp1.objs.size=h.objs.size+1:=by rw [←hp,Heap.size_push]
 have he:(hp1.push eo).get? (h.objs.size+1)=some eo:=by rw [←sz];exact Heap.get?_push_size _ (by rw [←ho];rfl)
 have hcl:eo.cls=.ref C:=by rw [←ho]
 have hsub:(Value.ref C:: bm).contains (.ref C)=true:=by simp
 unfold isInstance
 repeat (first | (with_reducible refine wpAny_loadPart_at he ?_;rw [hcl]) | (with_reducible refine wpAny_isSubtype_exc hC1 ?_;rw [hsub]) | wp_step)
 show wpAny _ _ (typeLookup (.ref C) _) _ _ _
 refine xi_lookup hC1 hn1 hi ?_
 refine wpAny_holding (wpAny_bind ?_)
 unfold bindSpecial
 refine wpAny_bind (wpAny_typeOf (T:= "function") ⟨_,up _ _ hf,hfc⟩ ?_)
 rw [if_pos (by decide)]
 have made:Heap.MadeExcOf h (hp1.push eo) (h.objs.size+1) (.ref C) us:=by
  refine⟨up,Heap.get?_none_of_le (Nat.le_succ _),h.objs.size,by rw [he,←ho],Heap.get?_none_of_le (Nat.le_refl _),?_⟩
  refine Heap.get?_push_of_some _ ?_
  rw [←hp]
  exact Heap.get?_push_at rfl rfl
 refine wpAny_pure (wpAny_bind (wpAny_mono (go _ _ (Nat.le_succ _) made) (fun r s' hr=>?_) fun _ _ x=>x))
 obtain⟨rfl,hQ⟩:=hr
 wp_walk
 exact hQ
end
end L2
namespace L2
open PySem
section
variable {prog:Program} {w:World} {A:Around} {E:Value→Shared→Prop} {h:Heap} {g:Array GenState} {d:Drawn} {t:Nat} {os:OsState}
variable {nm q:Str} {C N:Addr} {bs bm bmB:List Value} {hdct:Bool} {sn:List Str} {sub:List Value} {ab:Bool} {col:Option Bool} {dd:Option Addr} {k0 k1 k2 k3 k5:Option Value} {B newId initId:String}
theorem xi_call (F:ExcBaseFacts B newId initId bmB) (T:OwnTail h bmB bm) {mN:Str→Option Value} {us:List Value} {f:Addr} {fo:Obj} {Q:Value→Shared→Prop}
  (hC:h.get? C=some (excClassObj nm q C N bs bm hdct sn sub ab col dd k0 k1 k2 k3 k5 newId)) (hn:h.Ns N mN) (hi:mN "__init__" =some (.ref f)) (hf:h.get? f=some fo) (hfc:fo.cls=.type "function")
  (go:∀h' e,h.objs.size≤e→Heap.MadeExcOf h h' e (.ref C) us→wpAny (model prog w) (A.under (.builtin "type.__call__" ⟨.ref C:: us,[]⟩)) (call (.ref f) (.ref e:: us)) (fun r s'=>r=.none∧Q (.ref e) s') E ⟨h',g,d,t,os⟩) (hz:us.length≤sizeLine):
  wpAny (model prog w) A (call (.ref C) us) Q E ⟨h,g,d,t,os⟩:=by
 have z1:=tc_lookup
 have z2:=tc_bind (.ref C)
 have z3:(⟨h,g,d,t,os⟩:Shared).TypeIs (.ref C) "type" :=⟨_,hC,rfl⟩
 refine wpAny_call (codeAny_of_tree ?_)
 show wpAny _ _ (callAny (.ref C) _) _ _ _
 repeat (any_goals (first | assumption | with_reducible refine wpAny_loadPart_at hC ?_ | wp_step))
 refine⟨rfl,?_⟩
 exact codeAny_call_builtin_at (Code.quiet_builtin _ (by decide +kernel)) entry_typeCall (wpAny_check_type_call_sub hC (xi_type_call F T hC hn hi hf hfc (fun h' e z m=>go h' e z m) hz))
theorem xi_base (F:ExcBaseFacts B newId initId bmB) (T:OwnTail h bmB bm) {e:Addr} {oe:Obj} {a0:Addr} {vr:List Value} {us:List Value} {Q:Value→Shared→Prop}
  (hC:h.get? C=some (excClassObj nm q C N bs bm hdct sn sub ab col dd k0 k1 k2 k3 k5 newId)) (he:h.get? e=some oe) (hcls:oe.cls=.ref C) (hd:oe.data=.fields (.ref a0:: vr).toArray) (hz:us.length≤sizeLine)
  (go:∀h' tp,h.get? tp=none→(∀b o,b≠e→h.get? b=some o→h'.get? b=some o)→h'.get? e=some { oe with data:=.fields (.ref tp:: vr).toArray }→Q .none ⟨h',g,d,t,os⟩):
  wpAny (model prog w) A (call (.builtin initId) (.ref e:: us)) Q E ⟨h,g,d,t,os⟩:=by
 obtain⟨oc,od,dt,osl⟩:=oe
 obtain rfl:oc=.ref C:=hcls
 obtain rfl:dt=.fields (.ref a0:: vr).toArray:=hd
 refine wpAny_call (codeAny_call_builtin F.init.plain F.initEntry (wpAny_check_init_subT F T hC he rfl ?_))
 wp_walk
 refine go _ h.objs.size (Heap.get?_none_of_le (Nat.le_refl _)) (fun b o hb hq=>?_) ?_
 ·rw [Heap.get?_update_other _ _ (Ne.symm hb)]
  exact Heap.get?_push_of_some _ hq
 ·rw [Heap.get?_update_self _ (Heap.get?_push_of_some _ he) rfl]
  rfl
end
end L2
namespace L2
open PySem Builtin Builtin.ObjectAttr
def xZ:List Value→Bool
 | .ref _:: r=>xZ r
 | l=>l == za
theorem vJ (self:Value):∀{l:List Value},xZ l=true→refuseLoop self "__setattr__" l=pure ()
 | [],e=>by cases (beq_iff_eq.mp (show(([]:List Value) == za)=true from e))
 | v:: r,e=>by
  cases v with
  | ref c=>rw [refuseLoop_ref];exact vJ self (l:=r) e
  | _=>rw [beq_iff_eq.mp (show(_ == za)=true from e)];exact PySem.F.store_ValueError.passes self
theorem zY:∀{l:List Value},xZ l=true→l.contains (.type "object")=true
 | [],e=>by cases (beq_iff_eq.mp (show(([]:List Value) == za)=true from e))
 | v:: r,e=>by
  cases v with
  | ref c=>rw [List.contains_cons,zY (l:=r) e,Bool.or_true]
  | _=>rw [beq_iff_eq.mp (show(_ == za)=true from e)];decide +kernel
structure XfK (K:PySem.W.Frag) (C:Addr):Prop where
 xc:XcK K C
 sa:PySem.W.findIn K (.ref C) "__setattr__" =some (some (.builtin "object.__setattr__"))
 ov:(PySem.W.clsIn K C).any (fun cd=>xZ cd.mro && cd.hasDict)=true
section
variable {prog:Program} {w:World} {A:Around} {E:Value→Shared→Prop} {h:Heap} {g:Array GenState} {d:Drawn} {t:Nat} {os:OsState} {x C:Addr} {K:PySem.W.Frag} {mA:Str→Option Value} {name:Str} {v:Value}
theorem inst_at (I:h.Inst x C mA):∃ox od,PySem.W.InstAt h x ox C od∧((ox.dict=none∧od=none∧∀n,mA n=none)∨∃dx o,ox.dict=some dx∧dx≠x∧od=some o∧h.Ns1 dx mA∧∀n,PySem.W.lookIn n o=some (mA n)):=by
 obtain⟨o,hx,hc,hnc,hd⟩:=I
 have no:PySem.W.notCls o=true:=by
  unfold PySem.W.notCls
  split
  ·rename_i c hcd;exact absurd hcd (hnc _)
  ·rfl
 rcases hd with ⟨hdn,hm⟩ | ⟨dx,hdx,hne,hns⟩
 ·exact⟨o,none,⟨hx,hc,no,by rw [hdn];exact True.intro⟩,.inl ⟨hdn,rfl,hm⟩⟩
 ·obtain⟨od,ho,hl⟩:=zB hns
  exact⟨o,some od,⟨hx,hc,no,by rw [hdx];exact ho⟩,.inr ⟨dx,od,hdx,hne,rfl,hns,hl⟩⟩
theorem xf_store {tk:Tok} {ns:List Str} {R:Result→Shared→Prop} (X:K.In h) (c:XfK K C) (ht:PySem.W.takerIn K C name=some none) (I:h.Inst x C mA) (hw:PySem.Within mA ns) (hsz:ns.length≤sizeLine)
  (hq:∀h' tk',h'.Inst x C (fun y=>if y=name then some v else mA y)→
   (∀b o,b≠x→(∀o₀ dx,h.get? x=some o₀→o₀.dict=some dx→b≠dx)→h.get? b=some o→h'.get? b=some o)→
   (∀o₀,h.get? x=some o₀→∃o₁,h'.get? x=some o₁∧o₁.cls=o₀.cls∧o₁.data=o₀.data∧o₁.slots=o₀.slots∧(∀dx,o₀.dict=some dx→o₁.dict=some dx)∧(o₀.dict=none→o₁.dict=some h.objs.size))→R (.ok (.ret .none)) ⟨h',g,d,tk',os⟩):
  codeAny (model prog w) A (.call (.builtin "object.__setattr__") ⟨[.ref x,.str name tk,v],[]⟩) R ⟨h,g,d,t,os⟩:=by
 have SF:=PySem.F.store_object
 obtain⟨cd,hc,ho⟩:=PySem.W.any_some c.ov
 simp only [Bool.and_eq_true] at ho
 obtain⟨ho,hd'⟩:=ho
 obtain⟨ox,od,J,_⟩:=inst_at I
 have ne:cd.mro.isEmpty=false:=by cases q:cd.mro with | nil=>rw [q] at ho;cases ho | cons _ _=>rfl
 have sub:PySem.W.Looks (model prog w) h (isInstance (.ref x) (.type "object")) true:=J.type.andThen (PySem.W.looks_mroIn X (by unfold PySem.W.mroIn;rw [hc,Option.bind_some,if_neg (by rw [ne];decide),zY ho]))
 refine codeAny_call_builtin SF.slot.plain SF.entry (@PySem.W.check_slot (model prog w) _ _ ⟨h,g,d,t,os⟩ "object.__setattr__" "object" "__setattr__" (.ref x) [.str name tk,v] [] _ SF.kind SF.split sub (SF.args (.ref x) (.str name tk) v) ?_)
 obtain⟨attr,ha,hr⟩:=Option.bind_eq_some_iff.mp ht
 have hm:PySem.W.Looks (model prog w) h (mroOf (.ref C)) cd.mro:=(PySem.W.looks_clsIn X hc).andThen .now
 have L3:PySem.W.Looks (model prog w) h (storeTaker? attr) none:=by
  cases attr with
  | none=>exact .now
  | some a=>
   obtain⟨b,hb,e⟩:=Option.map_eq_some_iff.mp hr
   refine(PySem.W.looks_takesIn X hb).andThen ?_
   cases b with
   | true=>cases e
   | false=>exact .now
 rw [PySem.W.osa_eq,refuse_eq]
 refine wpAny_bind (wpAny_bind (J.type.at (wpAny_bind (hm.at ?_))))
 rw [vJ _ ho]
 refine wpAny_pure (wpAny_bind (J.type.at (wpAny_bind ((PySem.W.looks_findIn X ha).at (wpAny_bind (L3.at ?_))))))
 obtain⟨o,hx,hcl,hnc,hd⟩:=I
 obtain⟨oc,odi,oda,osl⟩:=o
 dsimp only at hcl hnc hd
 subst hcl
 refine wpAny_bind (wpAny_pure (wpAny_bind (wpAny_bind (wpAny_loadPart hx (wpAny_bind ((PySem.W.looks_clsIn X hc).at ?_))))))
 rw [hd']
 rcases hd with ⟨hdn,hmA⟩ | ⟨dx,hdx,hne,hns⟩
 ·subst hdn
  have hxs:x≠h.objs.size:=Nat.ne_of_lt (Heap.lt_size hx)
  have hx₁:(h.push { cls:=.type "dict",data:=.dict #[] }).get? x=some ⟨.ref C,none,oda,osl⟩:=Heap.get?_push_of_some _ hx
  dsimp only
  rw [if_neg (by simp)]
  split
  ·rename_i z;cases z
  split
  ·exact absurd rfl (hnc _)
  refine wpAny_bind (wpAny_alloc' (wpAny_bind (wpAny_update' hx₁ (wpAny_pure ?_))))
  have hgd:((h.push { cls:=.type "dict",data:=.dict #[] }).update x fun o=>{ cls:=o.cls,dict:=some h.objs.size,data:=o.data,slots:=o.slots }).get? h.objs.size
    =some { cls:=.type "dict",data:=.dict #[] }:=(Heap.get?_update_ne _ _ _ _ hxs.symm).trans (Heap.get?_push_at rfl rfl)
  have hnd:((h.push { cls:=.type "dict",data:=.dict #[] }).update x fun o=>{ cls:=o.cls,dict:=some h.objs.size,data:=o.data,slots:=o.slots }).Ns h.objs.size (fun _=>none):=
   ⟨_,#[],_,hgd,rfl,fun e he=>absurd he (by simp),fun _=>rfl⟩
  show wpAny _ _ (storeInDict h.objs.size (.str name tk) name v) _ _ _
  unfold storeInDict newKeyGuard
  refine wpAny_bind (wpAny_pure (wpAny_bind (wpAny_nsSet1 (Heap.Ns1.of_empty hnd) fun h' hn' hs=>?_)))
  obtain⟨oD,esD,epD,hoD,hdD,hcD⟩:=hn'.count (Within.cons name v Within.nil)
  refine wpAny_bind (wpAny_lookBehind hoD (by rw [hdD];exact pastItsLine_dict (Nat.le_trans hcD (by rw [List.length_cons,List.length_nil,sizeLine_eq];omega))) ?_)
  wp_walk
  have hx':h'.get? x=some ⟨.ref C,some h.objs.size,oda,osl⟩:=by
   refine(hs.2 x hxs).trans (Heap.get?_update_self _ hx₁ ?_)
   have hfr:=(Heap.get?_some_iff.mp hx).2
   cases oda <;> first | rfl | exact hfr
  refine hq h' _ ⟨_,hx',rfl,hnc,.inr ⟨h.objs.size,rfl,hxs.symm,?_⟩⟩ (fun b ob hbx _ hb=>?_)
   (fun o₀ h₀=>by obtain rfl:=Option.some.inj (hx.symm.trans h₀);exact⟨_,hx',rfl,rfl,rfl,fun dx e=>(by cases e),fun _=>rfl⟩)
  ·obtain⟨o',es,ep,e1,e2,e3,eu,e4⟩:=hn'
   exact⟨o',es,ep,e1,e2,e3,eu,fun y=>by rw [e4 y];by_cases hy:y=name <;> simp [hy,hmA]⟩
  ·exact(hs.2 b (Nat.ne_of_lt (Heap.lt_size hb))).trans ((Heap.get?_update_ne _ _ _ _ hbx).trans (Heap.get?_push_of_some _ hb))
 ·subst hdx
  refine wpAny_pure (a:=some dx) (wpAny_bind (wpAny_pure (wpAny_bind ?_)))
  refine wpAny_nsSet1 (s:=⟨h,g,d,t,os⟩) hns fun h' hn' hs=>?_
  obtain⟨oD,esD,epD,hoD,hdD,hcD⟩:=hn'.count (PySem.Within.cons name v hw)
  refine wpAny_bind (wpAny_lookBehind hoD (by rw [hdD];exact pastItsLine_dict (Nat.le_trans hcD (by rw [List.length_cons];omega))) ?_)
  refine wpAny_pure (hq h' _ ⟨_,(hs.2 x hne.symm).trans hx,rfl,hnc,.inr ⟨dx,rfl,hne,hn'⟩⟩ (fun b ob _ hbd hb=>?_) (fun o₀ h₀=>⟨o₀,(hs.2 x hne.symm).trans h₀,rfl,rfl,rfl,fun _ e=>e,fun e=>by obtain rfl:=Option.some.inj (hx.symm.trans h₀);cases e⟩))
  exact(hs.2 b (hbd _ dx hx rfl)).trans hb
theorem xf_set {ns:List Str} {Q:Unit→Shared→Prop} (X:K.In h) (c:XfK K C) (ht:PySem.W.takerIn K C name=some none) (I:h.Inst x C mA) (hw:PySem.Within mA ns) (hsz:ns.length≤sizeLine)
  (hq:∀h' tk',h'.Inst x C (fun y=>if y=name then some v else mA y)→
   (∀b o,b≠x→(∀o₀ dx,h.get? x=some o₀→o₀.dict=some dx→b≠dx)→h.get? b=some o→h'.get? b=some o)→
   (∀o₀,h.get? x=some o₀→∃o₁,h'.get? x=some o₁∧o₁.cls=o₀.cls∧o₁.data=o₀.data∧o₁.slots=o₀.slots∧(∀dx,o₀.dict=some dx→o₁.dict=some dx)∧(o₀.dict=none→o₁.dict=some h.objs.size))→Q () ⟨h',g,d,tk',os⟩):
  wpAny (model prog w) A (setAttr (.ref x) name v) Q E ⟨h,g,d,t,os⟩:=by
 obtain⟨ox,od,J,_⟩:=inst_at I
 exact PySem.W.set_plain X J c.sa (xf_store X c ht I hw hsz fun h' tk' a b e=>hq h' tk' a b e)
theorem xf_get {ox:Obj} {od:Option Obj} {expr:Bool} {Q:Value→Shared→Prop} (X:K.In h) (c:XfK K C) (J:PySem.W.InstAt h x ox C od) (hf:PySem.W.findObj K C od name=some (.value v)) (hh:PySem.W.handedIn v=true)
  (hq:Q v ⟨h,g,d,t+1,os⟩):wpAny (model prog w) A (getAttr (.ref x) name expr) Q E ⟨h,g,d,t,os⟩:=by
 have L:=c.xc.lk (M:=model prog w) X
 have FB:=PySem.F.attr_ValueError
 have hx:=J.at_
 have hc:=J.cls
 have L0:=J.type (M:=model prog w)
 have L1:=PySem.W.looks_find (M:=model prog w) X J hf
 have f3:=FB.ga.bind (.ref x)
 have hx0:(expr && onTheHeap (Value.builtin "BaseException.__getattribute__"))=false:=by cases expr <;> rfl
 have hx2:(Value.builtin "BaseException.__getattribute__" == Value.builtin "object.__getattribute__")=false:=by decide +kernel
 have hx1:(onTheHeap (Value.ref C) && Value.builtin "BaseException.__getattribute__" == Value.builtin "object.__getattribute__")=false:=by rw [hx2];rfl
 unfold getAttr
 repeat (any_goals (first | assumption | (with_reducible refine wpAny_loadPart_at hx ?_;rw [hc]) | with_reducible refine L.ga ?_ | with_reducible refine L.gn ?_ | wp_step))
 refine codeAny_call_builtin FB.ga.plain PySem.F.entry_bexc_ga (xc_check L hx hc ?_)
 refine wpAny_bind (wpAny_pure (wpAny_bind (wpAny_pure (wpAny_bind (L0.at (wpAny_bind (L1.at (wpAny_pure ?_))))))))
 show wpAny _ _ (handedOut v) _ _ _
 rw [PySem.W.handedOut_of hh]
 exact wpAny_pure hq
end
end L2
set_option Elab.async false
set_option linter.all false
set_option maxRecDepth 100000
set_option Elab.async false
set_option maxHeartbeats 4000000
namespace L2
open PySem PySem.Spec PyProof.Rows
def vm (x C:Addr):HO:=.ext fun h=>∃a0 vr sl,h.get? x=some ⟨.ref C,none,.fields (.ref a0:: .none:: vr).toArray,sl⟩
def zL (x C dx:Addr):HO:=.ext fun h=>∃a0 vr sl,h.get? x=some ⟨.ref C,some dx,.fields (.ref a0:: .none:: vr).toArray,sl⟩
section
variable {X:Cx} {pins:List (Addr×Obj)} {σ:St} {H:Hp} {s:Shared} {a C dx:Addr} {fs:List (Str×V)} {f:Str} {v:V} {A:Around} {E:Value→Shared→Prop}
theorem Inv.size (I:Inv X pins σ H s):X.s₀.heap.objs.size≤s.heap.objs.size:=by
 obtain⟨m,⟨o,_,_,ho,_⟩,_⟩:=I.loc
 exact Nat.le_of_lt (Nat.lt_of_le_of_lt I.ok.above (Heap.lt_size ho))
theorem Inv.track_new {s':Shared} {H':Hp} {x:Addr} {o:HO} (I:Inv X pins σ H s) (I':Inv X pins σ H' s') (hx:s.heap.objs.size≤x) (hn:H' x=none) (new:dC X.prog X.w (upd H' x o) s'.heap x o):Inv X pins σ (upd H' x o) s':=by
 have ne:∀b u,s.heap.get? b=some u→b≠x:=fun b u e z=>Nat.lt_irrefl _ (Nat.lt_of_lt_of_le (Heap.lt_size e) (z ▸ hx))
 refine I'.track hn (Heap.get?_none_of_le (Nat.le_trans I.size hx)) ?_ (fun y c e=>?_) (fun p hp=>?_) new
 ·obtain⟨m,⟨o,_,_,ho,_⟩,_⟩:=I.loc
  exact(ne _ _ ho).symm
 ·obtain⟨v,o,ho,_⟩:=I.cell y c e
  exact ne _ _ ho
 ·exact ne _ _ (I.pin p hp).1
theorem XfK.dict {K:PySem.W.Frag} {C:Addr} (c:XfK K C):PySem.W.hasDictIn K C=true:=by
 obtain⟨cd,hc,ho⟩:=PySem.W.any_some c.ov
 simp only [Bool.and_eq_true] at ho
 unfold PySem.W.hasDictIn
 rw [hc]
 exact ho.2
theorem setx_ok {y:V} {u:Value} {Q:Unit→Shared→Prop} (I:Inv X pins σ H s) (e:H a=some (vm a C)) (c:XfK X.K C) (n:bu X.K C f) (ry:RelV y u)
  (h:∀dx s',H dx=none→dx≠a→Inv X pins σ (upd (upd H a (zL a C dx)) dx (.xd [(f,y)])) s'→Q () s'):wpAny (model X.prog X.w) A (setAttr (.ref a) f u) Q E s:=by
 obtain⟨⟨a0,vr,sl,hx⟩,_,_⟩:=(show dC X.prog X.w H s.heap a (vm a C) from I.hok a _ e)
 obtain⟨hp,g,d,t,os⟩:=s
 dsimp only at hx
 have inst:hp.Inst a C (fun _=>none):=⟨_,hx,rfl,fun _=>Data.noConfusion,.inl ⟨rfl,fun _=>rfl⟩⟩
 refine xf_set (ns:=[]) I.kIn c n.taker inst PySem.Within.nil (Nat.zero_le _) fun h' tk' I' kb ks=>?_
 obtain⟨o₁,e1,e2,e3,e4,_,e6⟩:=ks _ hx
 have ed:=e6 rfl
 obtain⟨o1c,o1d,o1t,o1s⟩:=o₁
 dsimp only at e2 e3 e4 ed
 subst e2 e3 e4 ed
 have ne:hp.objs.size≠a:=Nat.ne_of_gt (Heap.lt_size hx)
 have fr:H hp.objs.size=none:=I.hok.fresh (Nat.le_refl _)
 have I1:Inv X pins σ (upd H a (zL a C hp.objs.size)) ⟨h',g,d,tk',os⟩:=by
  refine I.write (x:=a) (e:=a) (o:=zL a C hp.objs.size) (by rw [e];exact True.intro) (.inl rfl) (fun b o hb z=>kb b o hb (fun o₀ dx q r=>?_) z) ⟨_,e1⟩ ?_
  ·obtain rfl:=Option.some.inj (hx.symm.trans q);cases r
  ·exact⟨⟨_,_,_,e1⟩,⟨_,e1⟩,fun h1 h2 ⟨x1,x2,x3,z⟩ k=>⟨x1,x2,x3,k _ z⟩⟩
 refine h _ _ fr ne (I.track_new I1 (Nat.le_refl _) (by rw [aH ne];exact fr) ?_)
 obtain⟨o2,f1,f2,f3,f4⟩:=I'
 obtain rfl:=Option.some.inj (e1.symm.trans f1)
 rcases f4 with ⟨z,_⟩ | ⟨d2,z,_,hn⟩
 ·cases z
 ·obtain rfl:=Option.some.inj (show some hp.objs.size=some d2 from z)
  refine⟨_,hn,fun g=>?_⟩
  by_cases q:g=f
  ·subst q
   rw [if_pos rfl]
   show qX (List.lookup g [(g,y)]) (some u)
   simp only [List.lookup,beq_self_eq_true]
   exact ry
  ·rw [if_neg q]
   have hb:(g == f)=false:=beq_eq_false_iff_ne.mpr q
   show qX (List.lookup g [(f,y)]) none
   simp only [List.lookup,hb]
   exact True.intro
theorem getx_at {b:Bool} {Q:Value→Shared→Prop} {fl:Array Value} {sl:Array (Option Value)} (I:Inv X pins σ H s) (hx:s.heap.get? a=some ⟨.ref C,some dx,.fields fl,sl⟩) (ed:H dx=some (.xd fs)) (c:XfK X.K C) (n:bu X.K C f) (l:fs.lookup f=some v)
  (h:∀u s',Inv X pins σ H s'→RelV v u→Q u s'):wpAny (model X.prog X.w) A (getAttr (.ref a) f b) Q E s:=by
 obtain⟨mA,hn,r⟩:=(show dC X.prog X.w H s.heap dx (.xd fs) from I.hok dx _ ed)
 obtain⟨od,ho,hl⟩:=zB hn
 obtain⟨u,hu,ru⟩:=qX.some_of (v:=v) (o:=mA f) (by rw [←l];exact r f)
 have J:PySem.W.InstAt s.heap a ⟨.ref C,some dx,.fields fl,sl⟩ C (some od):=⟨hx,rfl,rfl,ho⟩
 obtain⟨hp,g,d,t,os⟩:=s
 exact xf_get I.kIn c J (PySem.W.findObj_own c.dict n rfl (by rw [hl,hu])) (handed_of ru) (h u _ (I.tok _) ru)
end
def sFldX (K:PySem.W.Frag) (ta tv:TE) (f:Str):TS:=fun D σ H=>tv σ H fun y H1=>ta σ H1 fun x H2=>∃a C,x=.ref a∧H2 a=some (vm a C)∧XfK K C∧bu K C f∧
 ∀dx,H2 dx=none→dx≠a→D.nx σ (upd (upd H2 a (zL a C dx)) dx (.xd [(f,y)]))
section
variable {X:Cx} {e o value:Expr} {f:Str} {pos pos':Pos} {ta tv:TE}
theorem ps_fldX (ha:PE X o ta) (hv:PE X value tv) (hs:swapsWith value (some (.Attribute o f pos')) pos.line X.env=pure false):PS X (.Assign [.Attribute o f pos'] value pos) (sFldX X.K ta tv f):=by
 intro pins s σ H D I h
 refine plainObj_wpAny_Assign_Attribute (thn (hv pins s σ H _ I h) fun u s1 ⟨y,H1,I1,ry,q⟩=>thn (ha pins s1 σ H1 _ I1 q) fun ov s2 hpt=>?_) hs
 obtain⟨x,H2,I2,rx,a,C,ex,ea,c,n,q2⟩:=hpt
 subst ex
 obtain rfl:ov=Value.ref a:=rx
 exact setx_ok I2 ea c n ry fun dx s3 h1 h2 I3=>⟨σ,_,I3,q2 dx h1 h2⟩
end
end L2
namespace L2
open PySem PySem.Spec PyProof.Rows
def iniIn (K:PySem.W.Frag) (C f:Addr):Bool:=match K.lookup C with
 | some o=>(match o.data with
  | .cls kd=>o.cls == .type "type" && kd.mro.head? == some (.ref C) && PySem.W.tailIn K za kd.mro.tail && !kd.hasDel && PySem.W.nsOkIn K kd.ns && nsK K kd.ns "__init__" == some (.ref f) && o.slots.size == 6 && o.slots[4]? == some (some (.builtin "ValueError.__new__"))
  | _=>false)
 | none=>false
structure ExcIni (K:PySem.W.Frag) (C f:Addr):Prop where
 ex:∃(nm q:Str) (Nn:Addr) (bs bm:List Value) (hdct:Bool) (sn:List Str) (sub:List Value) (ab:Bool) (col:Option Bool) (dd:Option Addr) (k0 k1 k2 k3 k5:Option Value) (mN:Str→Option Value),
  mN "__init__" =some (.ref f)∧∀h:Heap,K.In h→h.get? C=some (excClassObj nm q C Nn bs bm hdct sn sub ab col dd k0 k1 k2 k3 k5 "ValueError.__new__")∧h.Ns Nn mN∧OwnTail h za bm
theorem len6 {α:Type}:∀{l:List α},l.length=6→∃a b c d e f,l=[a,b,c,d,e,f]
 | [a,b,c,d,e,f],_=>⟨a,b,c,d,e,f,rfl⟩
theorem ExcIni.ofIn {K:PySem.W.Frag} {C f:Addr} (z:iniIn K C f=true):ExcIni K C f:=by
 unfold iniIn at z
 split at z
 ·rename_i o look
  obtain⟨oc,od,dt,slo⟩:=o
  dsimp only at z
  split at z
  ·rename_i kd
   simp only [Bool.and_eq_true,beq_iff_eq,Bool.not_eq_true'] at z
   obtain⟨⟨⟨⟨⟨⟨⟨x1,x2⟩,x3⟩,x4⟩,x5⟩,x6⟩,x7⟩,x8⟩:=z
   subst x1
   obtain⟨g1,g2,g3,g4,g5,g6,g7,g8,g9,g10,g11⟩:=kd
   dsimp only at x2 x3 x4 x5 x6
   obtain⟨sl⟩:=slo
   obtain⟨a0,a1,a2,a3,a5,rfl⟩:∃a0 a1 a2 a3 a5,sl=[a0,a1,a2,a3,some (.builtin "ValueError.__new__"),a5]:=by
    obtain⟨a0,a1,a2,a3,a4,a5,rfl⟩:=len6 (show sl.length=6 from x7)
    have e:a4=some (.builtin "ValueError.__new__"):=Option.some.inj (show some a4=_ from x8)
    subst e
    exact⟨a0,a1,a2,a3,a5,rfl⟩
   obtain⟨up,rfl⟩:∃up,g3=.ref C:: up:=by
    cases g3 with
    | nil=>cases x2
    | cons v r=>cases (show some v=some (Value.ref C) from x2);exact⟨r,rfl⟩
   subst x4
   refine⟨⟨g1,g5,g4,g2,up,g6,g7,g8,g9,g10,od,a0,a1,a2,a3,a5,nsK K g4,x6,fun h X=>⟨X _ _ look,?_,PySem.W.tail_of_in X x3⟩⟩⟩
   rw [←nsK_eq X x5]
   exact .of_isNs (PySem.W.isNs_of_in X x5)
  ·cases z
 ·cases z
structure BaseI (K:PySem.W.Frag) (B:Addr):Prop where
 sp:PySem.W.specialIn K (.ref B) "__getattribute__" =some (some (.builtin "type.__getattribute__"))
 rd:PySem.W.readsIn K B (.type "type")=true
 fi:PySem.W.findCls K (.ref B) (.type "type") "__init__" =some (.val (.builtin "ValueError.__init__"))
def tBase (K:PySem.W.Frag) (t:TA):TE:=fun σ H Q=>t σ H fun vs H1=>∃a C f us,vs=.ref a:: us∧H1 a=some (vm a C)∧ExcIni K C f∧us.length≤1000∧Q .non H1
section
variable {X:Cx} {CX:CXT} {k:Nat} {C B f:Addr} {fd:FuncData} {ps:List Str} {sp:Sp} {E:XK} {x:Str} {p pos apos:Pos} {e:Expr} {es:List Expr} {t:TA}
theorem call_base:qK X (.builtin "ValueError.__init__") (fun xs H Q=>∃a C f us,xs=.ref a:: us∧H a=some (vm a C)∧ExcIni X.K C f∧us.length≤1000∧Q .non H):=by
 intro pins s σ H xs us Q I r h
 obtain⟨a,C,f,vs,rfl,ea,c,hz,q⟩:=h
 obtain⟨nm,q',Nn,bs,bm,hdct,sn,sub,ab,col,dd,k0,k1,k2,k3,k5,mN,hi,hf⟩:=c.ex
 cases r with
 | cons r1 r=>
  rename_i u us
  obtain rfl:u=Value.ref a:=r1
  obtain⟨⟨a0,vr,sl,hx⟩,_,_⟩:=(show dC X.prog X.w H s.heap a (vm a C) from I.hok a _ ea)
  obtain⟨hC,hn,T⟩:=hf _ I.kIn
  obtain⟨hp,g,d,t,os⟩:=s
  refine xi_base PySem.F.excBase_ValueError T hC hx rfl rfl (by rw [←r.length,sizeLine_eq];omega) fun h' tp _ kb e2=>⟨.non,H,?_,rfl,q⟩
  have I1:=I.write (x:=a) (e:=a) (o:=vm a C) (h':=h') (t':=t) (by rw [ea];exact True.intro) (.inl rfl) kb ⟨_,e2⟩ ⟨⟨_,_,_,e2⟩,⟨_,e2⟩,fun h1 h2 ⟨x1,x2,x3,z⟩ k=>⟨x1,x2,x3,k _ z⟩⟩
  rwa [show upd H a (vm a C)=H from by funext b;by_cases q:b=a <;> simp [upd,q,ea]] at I1
theorem pe_base {pl:Sem Bool} (hg:Gl X x) (hm:X.mg x=some (.ref B)) (b:BaseI X.K B) (ha:PA X (e:: es) t) (hdb:(x == ("__debug__" :Str))=false:=by decide)
  (hst:starEach (e:: es) X.env=(false,eval e X.env):: starEach es X.env:=by rfl) (hpl:(backTo pos (starEach es X.env)).any (·.1)=false:=by rfl)
  (ht:eval (.Call (.Attribute (.Name x p) "__init__" apos) (e:: es) [] pos) X.env=(do
   let ov ←eval (.Name x p) X.env
   standAt apos.atName
   let (f,first) ←holding [ov] (getMethod ov "__init__" pl)
   callWith pos f first (backTo pos (starEach (e:: es) X.env)) (backToKw pos (keywordEach [] X.env))):=by rfl):
  PE X (.Call (.Attribute (.Name x p) "__init__" apos) (e:: es) [] pos) (tBase X.K t):=by
 intro pins s σ H Q I h
 refine PySem.W.methodCall_KW (pl:=pl) (tU I hg hm ?_ hdb) ht
 refine PySem.W.method_cls I.kIn b.sp (PySem.W.cls_value I.kIn b.rd b.fi rfl ?_)
 have hA:=ha pos pins _ σ H _ (I.tok (s.toks+1)) h
 rw [hst] at hA ⊢
 refine Calls.callWith_builtin (by show(false || (backTo pos (starEach es X.env)).any (·.1))=false;rw [hpl] <;> rfl) (Calls.evalArgs_plain ?_)
 exact thn hA fun us s2 ⟨vs,H2,I2,r2,q2⟩=>call_base pins s2 σ H2 vs us Q I2 r2 q2
end
end L2
namespace L2
open PySem PySem.Spec PyProof.Rows
structure MkX (K:PySem.W.Frag) (C f:Addr):Prop where
 ini:ExcIni K C f
 fn:PySem.W.isFn K (.ref f)=true
 kp:PySem.W.keepIn K (.ref C)=true
section
variable {X:Cx} {CX:CXT} {k:Nat} {C f:Addr} {fd:FuncData} {ps:List Str} {sp:Sp} {E:XK} {x:Str} {p pos:Pos} {e:Expr} {es:List Expr} {t:TA}
theorem run_makeX {pins:List (Addr×Obj)} {σ:St} {H:Hp} {s:Shared} {Q:VK} {us:List Value} {vs:List V} (M:MkX X.K C f) (F:FnOk X.prog X.w X.K X.mg X.base CX k f fd ps sp) (hr:Room (k+1) X.A) (hb:Binds X.K fd ps [])
  (hx:oO CX X E) (I:Inv X pins σ H s) (r:Vals vs us) (hz:vs.length≤1000)
  (h:∀x,H x=none→X.s₀.heap.get? x=none→sp (.ref x:: vs) (upd H x (vm x C)) (fun v H2=>v=.non∧Q (.ref x) H2) E):
  wpAny (model X.prog X.w) X.A (call (.ref C) us) (EP X pins σ Q) X.xe s:=by
 obtain⟨nm,q',Nn,bs,bm,hdct,sn,sub,ab,col,dd,k0,k1,k2,k3,k5,mN,hi,hf⟩:=M.ini.ex
 obtain⟨hC,hn,T⟩:=hf _ I.kIn
 obtain⟨fo,lf,hfc⟩:∃fo,X.K.lookup f=some fo∧fo.cls=.type "function" :=by
  have z:=beq_iff_eq.mp M.fn
  exact Option.map_eq_some_iff.mp z
 obtain⟨hp,g,d,t,os⟩:=s
 refine xi_call PySem.F.excBase_ValueError T hC hn hi (I.kIn _ _ lf) hfc (fun h' e hs made=>?_) (by rw [←r.length,sizeLine_eq];omega)
 obtain⟨tp,e1,_,_⟩:=made.there
 have I2:Inv X pins σ (upd H e (vm e C)) ⟨h',g,d,t,os⟩:=I.laid (t':=t) made.keeps hs ⟨⟨_,_,_,e1⟩,⟨_,e1⟩,fun h1 h2 ⟨x1,x2,x3,z⟩ k=>⟨x1,x2,x3,k _ z⟩⟩
 have hq:=h e (I.hok.fresh hs) (Heap.get?_none_of_le (Nat.le_trans I.size hs))
 have r2:Vals (V.ref e:: vs) (Value.ref e:: us):=.cons rfl r
 have hl:(Value.ref e:: us ++ []).length=ps.length:=by
  have e:=r2.length
  rw [F.len _ _ _ _ hq] at e
  rw [List.append_nil]
  exact e.symm
 have hb2:=hb ⟨h',g,d,t,os⟩ (Value.ref e:: us) I2.kIn hl
 rw [List.append_nil] at hb2
 refine wpAny_call (codeAny_mono (F.run _ X.stack _ _ ⟨Value.ref e:: us,[]⟩ (Value.ref e:: us) _ _ E (hr.make C us []) (I2.env0.make C us []) hb2 r2 hq) fun r s' hq'=>?_)
 cases r with
 | error e=>exact hx pins σ _ _ e s' I2 hq'
 | ok fl=>
  cases fl with
  | ret u=>
   obtain⟨v,H',I3,rv,ev,q3⟩:=I2.after hq'
   subst ev
   exact⟨rv,⟨V.ref e,H',I3,rfl,q3⟩⟩
  | next=>exact False.elim hq'
  | brk=>exact False.elim hq'
  | cont=>exact False.elim hq'
end
end L2
namespace L2
open PySem PySem.Spec PyProof.Rows
section
variable {X:Cx} {C:Addr} {x:Str} {p pos:Pos} {e:Expr} {es:List Expr} {t:TA}
end
end L2
namespace L2
open PySem
def xcIn (K:PySem.W.Frag) (C:Addr):Bool:=(PySem.W.clsIn K C).isSome && PySem.W.findIn K (.ref C) "__getattribute__" == some (some (.builtin "BaseException.__getattribute__")) && PySem.W.findIn K (.ref C) "__getattr__" == some none &&
 PySem.W.findIn K (.ref C) "__class__" == some (some (.builtin "object.__class__")) && PySem.W.subIn K (.ref C) (.type "object") == some true && PySem.W.subIn K (.ref C) (.type "BaseException") == some true
theorem XcK.ofIn {K:PySem.W.Frag} {C:Addr} (h:xcIn K C=true):XcK K C:=by
 simp only [xcIn,Bool.and_eq_true,beq_iff_eq] at h
 obtain⟨⟨⟨⟨⟨a,b⟩,c⟩,d⟩,e⟩,f⟩:=h
 exact⟨a,b,c,d,e,f⟩
def xfIn (K:PySem.W.Frag) (C:Addr):Bool:=xcIn K C && PySem.W.findIn K (.ref C) "__setattr__" == some (some (.builtin "object.__setattr__")) && (PySem.W.clsIn K C).any (fun cd=>xZ cd.mro && cd.hasDict)
theorem XfK.ofIn {K:PySem.W.Frag} {C:Addr} (h:xfIn K C=true):XfK K C:=by
 simp only [xfIn,Bool.and_eq_true,beq_iff_eq] at h
 obtain⟨⟨a,b⟩,c⟩:=h
 exact⟨.ofIn a,b,c⟩
end L2
set_option Elab.async false
set_option linter.all false
set_option maxRecDepth 100000
set_option Elab.async false
set_option maxHeartbeats 4000000
namespace L2
open PySem
def Still {α:Type}:Sem α→Prop
 | .rule _ k | .at _ k | .point _ k=>Still (k ())
 | .load _ _ k=>∀o,Still (k o)
 | .update _ _ f k=>(∀o,(f o).dict=o.dict)∧Still (k ())
 | .loadIfAlive _ k=>∀o,Still (k o)
 | .alloc _ k=>∀a,Still (k a)
 | .fresh k=>∀t,Still (k t)
 | .ask k=>∀x,Still (k x)
 | .choose _ _ k=>∀n,Still (k n)
 | .os _ _ k=>∀r,Still (k r)
 | .handled _ k=>∀x,Still (k x)
 | .genState _ k=>∀x,Still (k x)
 | .newGen _ k=>∀x,Still (k x)
 | .stack k=>∀x,Still (k x)
 | .thread k=>∀x,Still (k x)
 | .call .. | .resume ..=>False
 | .pure _ | .raise _ | .unsupported _ | .finish _ | .register .. | .yield .. | .fork .. | .await ..=>True
def DK (h h':Heap):Prop:=∀(b:Nat) (o:Obj),h.objs[b]?=some o→∃o',h'.objs[b]?=some o'∧o'.dict=o.dict
theorem DK.push {h h':Heap} (x:DK h h') (u:Obj):DK h (h'.push u):=fun b o e=>by
 obtain⟨o',e1,e2⟩:=x b o e
 have hb:b <h'.objs.size:=(Array.getElem?_eq_some_iff.mp e1).1
 exact⟨o',by show(h'.objs.push u)[b]?=some o';rw [Array.getElem?_push_lt hb];exact e1 ▸ (Array.getElem?_eq_getElem hb).symm,e2⟩
theorem DK.update {h h':Heap} (x:DK h h') (a:Addr) {f:Obj→Obj} (hf:∀o,(f o).dict=o.dict):DK h (h'.update a f):=fun b o e=>by
 obtain⟨o',e1,e2⟩:=x b o e
 show ∃u,(h'.objs.modify a f)[b]?=some u∧u.dict=o.dict
 rw [Array.getElem?_modify]
 by_cases q:a=b
 ·rw [if_pos q,e1];exact⟨f o',rfl,(hf o').trans e2⟩
 ·rw [if_neg q];exact⟨o',e1,e2⟩
theorem still_wp {α:Type} (M:Model) (Γ:Ctx) {Q:α→Pos→Shared→Prop} {E:Value→Pos→Shared→Prop} (t:Sem α):∀(p:Pos) (s:Shared) (h0:Heap),Still t→DK h0 s.heap→Sem.wp M Γ t Q E p s→Sem.wp M Γ t (fun a p' s'=>Q a p' s'∧DK h0 s'.heap) E p s:=by
 induction t with
 | pure x=>intro p s h0 _ d h;exact⟨h,d⟩
 | raise v=>intro p s h0 _ d h;exact h
 | unsupported | finish | yield | fork | await | register=>intro p s h0 _ d h;exact h
 | rule _ k ih | «at» _ k ih | point _ k ih=>intro p s h0 x d h;exact ih _ _ _ _ x d h
 | loadIfAlive _ k ih | fresh k ih | ask k ih | os _ _ k ih | handled _ k ih | newGen _ k ih | stack k ih | thread k ih=>intro p s h0 x d h;exact ih _ _ _ _ (x _) d h
 | alloc o k ih=>intro p s h0 x d h;exact ih _ _ _ _ (x _) (d.push o) h
 | load a _ k ih | genState a k ih=>intro p s h0 x d h;obtain⟨o,ho,h⟩:=h;exact⟨o,ho,ih _ _ _ _ (x _) d h⟩
 | update a _ f k ih=>intro p s h0 x d h;exact⟨h.1,ih _ _ _ _ x.2 (d.update a x.1) h.2⟩
 | choose _ _ k ih=>intro p s h0 x d h;exact⟨h.1,ih _ _ _ _ (x _) d h.2⟩
 | call c h g l k ih=>intro p s h0 x;exact x.elim
 | resume g r l k ih=>intro p s h0 x;exact x.elim
theorem DK.refl (h:Heap):DK h h:=fun b o e=>⟨o,e,rfl⟩
theorem mR {α:Type} {M:Model} {A:Around} {t:Sem α} {Q:α→Shared→Prop} {E:Value→Shared→Prop} {s:Shared} (x:Still t) (h:wpAny M A t Q E s):wpAny M A t (fun a s'=>Q a s'∧DK s.heap s'.heap) E s:=
 fun Γ p hΓ=>still_wp M Γ t p s s.heap x (DK.refl _) (h Γ p hΓ)
theorem bB {α β:Type} {m:Sem α} {f:α→Sem β} (h1:Still m) (h2:∀a,Still (f a)):Still (m >>= f):=by
 show Still (m.bind f)
 induction m with
 | pure x=>exact h2 x
 | raise _ | unsupported _ | finish _ | register _ _ | yield _ _ _ _ | fork _ _ | await _ _ _ _ _=>exact True.intro
 | rule _ k ih | «at» _ k ih | point _ k ih=>exact ih _ h1
 | loadIfAlive _ k ih | fresh k ih | ask k ih | os _ _ k ih | handled _ k ih | newGen _ k ih | stack k ih | thread k ih | alloc _ k ih | load _ _ k ih | genState _ k ih | choose _ _ k ih=>exact fun o=>ih o (h1 o)
 | update a _ f k ih=>exact⟨h1.1,ih _ h1.2⟩
 | call c h g l k ih=>exact h1
 | resume g r l k ih=>exact h1
theorem cD {α:Type} {a:α}:Still (Pure.pure a:Sem α):=True.intro
theorem ju {α:Type} {w:String}:Still (unsupported w:Sem α):=True.intro
theorem xV {a:Addr}:Still (load a):=fun _=>True.intro
theorem uV:Still stack:=fun _=>True.intro
theorem qz {v:Value} {i:Nat}:Still (field v i):=by
 unfold field fieldsOf
 refine bB ?_ fun x=>?_
 ·split
  ·exact bB xV fun o=>by split <;> first | exact cD | exact ju
  ·exact ju
 ·split <;> first | exact cD | exact ju
theorem dict_mapFields (f:Array Value→Array Value) (o:Obj):(Obj.mapFields f o).dict=o.dict:=by
 unfold Obj.mapFields;split <;> rfl
theorem jh {v:Value} {i:Nat} {x:Value}:Still (setField v i x):=by
 unfold setField updateField
 split
 ·refine bB xV fun o=>?_
  split
  ·split
   ·exact⟨dict_mapFields _,True.intro⟩
   ·exact ju
  ·exact ju
 ·exact ju
theorem jJ {e:Value} {f:Option Addr}:Still (setFlight e f):=by
 unfold setFlight
 refine bB qz fun tb=>?_
 split
 ·exact jh
 ·exact cD
theorem vA {f:Addr} {b:Bool}:Still (entryPlaceOf f b):=by
 unfold entryPlaceOf
 exact bB uV fun a=>by split <;> exact cD
theorem u0 {a b c d e:Value} {l:List Value}:Still (EntryCells.newEntry a b c d e l):=by
 unfold EntryCells.newEntry newFields newObj newObjAsIs
 dsimp only
 split <;> split <;> first | exact True.intro | exact fun _=>True.intro
theorem still_envs:Still frameEnvs:=by unfold frameEnvs;exact bB uV fun _=>cD
theorem still_import {e:Env} {l:List Env}:Still (behindIsImport e l):=by
 unfold behindIsImport
 split
 ·exact cD
 ·split
  ·exact cD
  ·exact bB qz fun _=>cD
theorem still_back {e:Env} {b:Bool}:∀{l:List Env},Still (keptBack e b l)
 | []=>by
  rw [keptBack]
  unfold underTheClaimsCaller
  split
  ·exact cD
  ·exact bB (bB uV fun _=>cD) fun _=>cD
 | _:: _=>by rw [keptBack];exact cD
theorem zX:∀{l:List Env},Still (readyFrames l)
 | []=>by unfold readyFrames;exact cD
 | e:: l=>by
  unfold readyFrames
  split
  ·refine bB xV fun o=>?_
   split
   ·exact cD
   ·refine bB still_import fun i=>bB still_back fun b=>?_
    exact bB (⟨fun _=>rfl,True.intro⟩) fun _=>zX
  ·exact ju
theorem vQ {e:Env}:Still (frameOf e):=by
 unfold frameOf
 refine bB still_envs fun l=>bB ?_ fun o=>?_
 ·unfold frameObject
  split
  ·exact cD
  ·exact bB zX fun _=>cD
 ·split
  ·exact cD
  ·exact ju
theorem Be {e:Value} {env:Env}:Still (noteFrame e env):=by
 unfold noteFrame
 split
 ·refine bB qz fun hd=>?_
  have tail:∀x:Value,Still (do setField e 1 (←EntryCells.newEntry hd (←frameOf env) .none x .none (←entryPlaceOf (env.frame.getD 0) (hd != .none)))):=fun x=>
   bB vQ fun _=>bB vA fun _=>bB u0 fun _=>jh
  split
  ·refine bB qz fun x=>?_
   split
   ·exact cD
   ·refine bB jh fun _=>?_
    exact bB vQ fun _=>bB vA fun _=>bB u0 fun _=>jh
  ·exact bB vQ fun _=>bB vA fun _=>bB u0 fun _=>jh
 ·exact ju
theorem rA {e:Value} {env:Env}:Still (leaving env e):=by
 unfold leaving
 exact bB Be fun _=>jJ
end L2
namespace L2
open PySem PySem.Spec PyProof.Rows
def DictAt (h:Heap) (x:Addr) (d:Option Addr):Prop:=∃o,h.get? x=some o∧o.dict=d
theorem Ab {h:Heap} {x:Addr} {o:Obj} (e:h.get? x=some o):h.objs[x]?=some o:=by
 unfold Heap.get? at e
 split at e
 ·cases e
 ·exact e
theorem DictAt.on {h h':Heap} {x:Addr} {d:Option Addr} {o':Obj} (a:DictAt h x d) (k:DK h h') (e:h'.get? x=some o'):DictAt h' x d:=by
 obtain⟨o,e1,e2⟩:=a
 obtain⟨o2,e3,e4⟩:=k x o (Ab e1)
 cases (Ab e).symm.trans e3
 exact⟨_,e,e4.trans e2⟩
def del (H:Hp) (x:Addr):Hp:=fun b=>if b=x then none else H b
theorem wY {H:Hp} {x b:Addr} (h:b≠x):del H x b=H b:=if_neg h
theorem del_some {H:Hp} {x b:Addr} {o:HO} (h:del H x b=some o):b≠x∧H b=some o:=by
 unfold del at h
 split at h
 ·cases h
 ·rename_i n;exact⟨n,h⟩
theorem un_del {fs ex:List Addr} {H H1:Hp} {h h1:Heap} {x:Addr} {φ:Heap→Prop} (u:Un fs ex H H1 h h1) (e:H1 x=some (.ext φ)):Un fs ex H (del H1 x) h h1:=by
 have ne:∀b o,H1 b=some o→(∀φ,o≠.ext φ)→del H1 x b=some o:=fun b o q n=>by
  rw [wY];exact q
  rintro rfl
  rw [e] at q
  exact n φ (Option.some.inj q).symm
 refine⟨u.keep,u.slot,fun b o q n hx=>?_,u.there,fun b xs q=>ne _ _ (u.tups b xs q) (by intro _ z;cases z),fun b o v q=>ne _ _ (u.frzs b o v q) (by intro _ z;cases z),fun b ps q=>?_⟩
 ·unfold del
  split
  ·rfl
  ·exact u.free b o q n hx
 ·obtain⟨m,z⟩:=u.tbls b ps q
  exact⟨m,ne _ _ z (by intro _ z;cases z)⟩
def CX2 (P:Program) (w:World):CXT:=fun outer H s E e s'=>∃(x:Addr) (cls a0:Value) (H':Hp) (B:Heap) (d:Option Addr),e=.ref x∧s'.os=s.os∧AllBare s'.gens∧Heap.FlyingW B outer x cls a0 s'.heap∧DictAt s'.heap x d∧HOk P w H' B∧
 Un (frs outer) [] H H' s.heap s'.heap∧(∀b o,s.heap.get? b=some o→b∉frs outer→∃o',B.get? b=some o')∧E cls d H'
theorem un_fly2 {fs:List Addr} {H H1 H2:Hp} {h h1 h2 h3 B:Heap} {L:Addr} (u1:Un fs [] H H1 h h1) (u2:Un (L:: fs) [] H1 H2 h1 h2) (hL:∀b o,h.get? b=some o→b≠L)
  (inB:∀b o,h.get? b=some o→b∉fs→∃o',B.get? b=some o') (st2:B.StaysIn h2) (st3:B.StaysIn h3) (up:h2.UpToSlots h3)
  (fd:∀b o,h2.get? b=some o→b∈fs→∀vs,o.data≠.fields vs):Un fs [] H H2 h h3:=by
 have out:∀b o,h.get? b=some o→b∉fs→b∉L:: fs:=fun b o q hb z=>(List.mem_cons.mp z).elim (hL b o q) hb
 have go:∀b o,h2.get? b=some o→(∃o',B.get? b=some o')→h3.get? b=some o:=fun b o q ⟨o',q'⟩=>by
  have z:=st2 b o' q'
  rw [q] at z
  cases z
  exact st3 b _ q'
 refine⟨fun b o q n hb hx=>?_,fun b o q n hb hx=>?_,fun b o q n hx=>?_,fun b o q hx=>?_,fun b xs q=>u2.tups b xs (u1.tups b xs q),fun b o xs q=>u2.frzs b o xs (u1.frzs b o xs q),fun b ps q=>?_⟩
 ·have k1:=u1.keep b o q n hb hx
  exact go b o (u2.keep b o k1 (u1.free b o q n hx) (out b o q hb) hx) (inB b o q hb)
 ·obtain⟨sl,k1⟩:=u1.slot b o q n hb hx
  obtain⟨sl2,k2⟩:=u2.slot b _ k1 (u1.free b o q n hx) (List.mem_cons_of_mem _ hb) hx
  obtain⟨sl3,k3⟩:=up b _ k2 (fd b _ k2 hb)
  exact⟨sl3,k3⟩
 ·obtain⟨o',k1⟩:=u1.there b o q hx
  exact u2.free b o' k1 (u1.free b o q n hx) hx
 ·obtain⟨o1,k1⟩:=u1.there b o q hx
  obtain⟨o2,k2⟩:=u2.there b o1 k1 hx
  by_cases hb:b∈fs
  ·obtain⟨sl3,k3⟩:=up b _ k2 (fd b _ k2 hb)
   exact⟨_,k3⟩
  ·exact⟨o2,go b o2 k2 (inB b o q hb)⟩
 ·obtain⟨m1,e1⟩:=u1.tbls b ps q
  obtain⟨m2,e2⟩:=u2.tbls b _ e1
  exact⟨m1 ++ m2,by rw [e2,Array.append_assoc]⟩
section
variable {P:Program} {w:World} {K:PySem.W.Frag} {mg:Str→Option Value} {base:Heap} {N:List Str} {qual:Str} {scope:Scope} {f:Addr} {cd:Value} {A:Around} {outer:List Env} {s:Shared} {H:Hp} {E:XK}
theorem pass2 {E':XK} (hE:∀c d H',E' c d H'→E c d H'):oO (CX2 P w) (jz (CX2 P w) P w K mg base N qual scope f cd A outer s H E) E':=by
 intro pins σ H1 s1 e s' I c
 obtain⟨x,cls,a0,H',B,d,rfl,hos,hg,fl,da,hok,un,inB,hE'⟩:=c
 have go:=mR rA (wpAny_leaves_onW (M:=model P w) (E:=fun e' s''=>CX2 P w outer H s E e' s'') (Q:=fun _ s2=>∃h',s2={ s' with heap:=h' }∧Heap.FlyingW B outer x cls a0 h'∧s'.heap.UpToSlots h') I.ok.frames rfl fl fun h' fl' up=>⟨h',rfl,fl',up⟩)
 refine wpAny_mono go (fun _ s2 q=>?_) fun _ _ z=>z
 obtain⟨⟨h',rfl,fl',up⟩,dk⟩:=q
 obtain⟨ob,hob,_⟩:=fl'.there
 have nL:∀b o,s.heap.get? b=some o→b≠s.heap.objs.size:=fun b o q=>Nat.ne_of_lt (Heap.lt_size q)
 have fd:∀b o,s'.heap.get? b=some o→b∈frs outer→∀vs,o.data≠.fields vs:=fun b o q hb=>by
  obtain⟨_,_,ff,_⟩:=fl
  have hb':b∈frs (envOfC qual scope s.heap.objs.size f cd:: outer):=List.mem_cons_of_mem _ hb
  obtain⟨_,o',q',d⟩:=ff.mem hb'
  rw [q] at q'
  cases q'
  exact d
 have inB':∀b o,s.heap.get? b=some o→b∉frs outer→∃o',B.get? b=some o':=fun b o q hb=>by
  obtain⟨o1,k1⟩:=I.base.there b o q (by simp [jz])
  exact inB b o1 k1 fun z=>(List.mem_cons.mp z).elim (nL b o q) hb
 exact⟨x,cls,a0,H',B,d,rfl,hos.trans I.os,hg,fl',da.on dk hob,hok,un_fly2 (L:=s.heap.objs.size) I.base un nL inB' fl.1 fl'.1 up fd,inB',hE _ _ _ hE'⟩
theorem raise2 {pins:List (Addr×Obj)} {σ:St} {H1:Hp} {s1:Shared} {x C dx:Addr} (I:Inv (jz (CX2 P w) P w K mg base N qual scope f cd A outer s H E) pins σ H1 s1)
  (ex:H1 x=some (zL x C dx)) (hn:s.heap.get? x=none) (hE:E (.ref C) (some dx) (del H1 x)):(jz (CX2 P w) P w K mg base N qual scope f cd A outer s H E).xe (.ref x) s1:=by
 obtain⟨⟨a0,vr,sl,hx⟩,_,_⟩:=(show dC P w H1 s1.heap x (zL x C dx) from I.hok x _ ex)
 have nL:∀b o,s.heap.get? b=some o→b≠s.heap.objs.size:=fun b o q=>Nat.ne_of_lt (Heap.lt_size q)
 have hmem:∀env∈(envOfC qual scope s.heap.objs.size f cd:: outer),∀b,env.frame=some b→b∈x:: frs (envOfC qual scope s.heap.objs.size f cd:: outer):=fun env he b hb=>List.mem_cons_of_mem _ (List.mem_filterMap.mpr ⟨env,he,hb⟩)
 have stk:=I.stack
 have xf:x∉frs (envOfC qual scope s.heap.objs.size f cd:: outer):=fun hm=>by
  have z:=I.stkFree x hm
  rw [ex] at z;cases z
 have inB:∀b o,s.heap.get? b=some o→b∉frs outer→∃o',(PySem.W.hideAll s1.heap (x:: frs (envOfC qual scope s.heap.objs.size f cd:: outer))).get? b=some o':=fun b o q hb=>by
  obtain⟨o1,k1⟩:=I.base.there b o q (by simp [jz])
  refine⟨o1,PySem.W.hideAll_get _ k1 fun z=>?_⟩
  rcases List.mem_cons.mp z with rfl | z
  ·rw [hn] at q;cases q
  ·exact(List.mem_cons.mp z).elim (nL b o q) hb
 have hok:HOk P w (del H1 x) (PySem.W.hideAll s1.heap (x:: frs (envOfC qual scope s.heap.objs.size f cd:: outer))):=fun b o q=>by
  obtain⟨nb,q⟩:=del_some q
  have nx:∀c o,H1 c=some o→(∀φ,o≠.ext φ)→c≠x:=fun c o q n z=>by
   rw [z,ex] at q
   exact n _ (Option.some.inj q).symm
  refine(I.hok b o q).stay (fun c v hc q'=>PySem.W.hideAll_get _ q' fun hm=>?_) (fun c q'=>?_) fun c xs q'=>?_
  ·rcases List.mem_cons.mp hm with rfl | hm
   ·rcases hc with z | z
    ·exact nb z.symm
    ·exact nx _ _ z (by intro _ z;cases z) rfl
   ·have hn:=I.stkFree c hm
    rcases hc with z | z
    ·rw [z,q] at hn;cases hn
    ·rw [z] at hn;cases hn
  ·rw [wY (nx _ _ q' (by intro _ z;cases z))];exact q'
  ·rw [wY (nx _ _ q' (by intro _ z;cases z))];exact q'
 have sB:(PySem.W.hideAll s1.heap (x:: frs (envOfC qual scope s.heap.objs.size f cd:: outer))).StaysIn s1.heap:=fun b o q=>PySem.W.of_hideAll _ q
 have xB:(PySem.W.hideAll s1.heap (x:: frs (envOfC qual scope s.heap.objs.size f cd:: outer))).get? x=none:=PySem.W.hideAll_none _ (List.mem_cons_self ..)
 have go:=mR rA (wpAny_leaving_firstW (M:=model P w) (E:=fun e' s''=>CX2 P w outer H s E e' s'') (base:=PySem.W.hideAll s1.heap (x:: frs (envOfC qual scope s.heap.objs.size f cd:: outer)))
  (Q:=fun _ s2=>∃h',s2={ s1 with heap:=h' }∧Heap.LeftW (PySem.W.hideAll s1.heap (x:: frs (envOfC qual scope s.heap.objs.size f cd:: outer))) (envOfC qual scope s.heap.objs.size f cd:: outer) x (.ref C) (.ref a0) s1.heap h')
  I.ok.frames (PySem.W.funFrames_hide stk hmem) rfl hx sB xB rfl rfl rfl fun h' z=>⟨h',rfl,z⟩)
 refine wpAny_mono go (fun _ s2 q=>?_) fun _ _ z=>z
 obtain⟨⟨h',rfl,k1,⟨_,_,k2⟩,k3,k4⟩,dk⟩:=q
 have fl:Heap.FlyingW (PySem.W.hideAll s1.heap (x:: frs (envOfC qual scope s.heap.objs.size f cd:: outer))) outer x (.ref C) (.ref a0) h':=⟨k1,xB,k2,k3⟩
 obtain⟨ob,hob,_⟩:=fl.there
 have fd:∀b o,s1.heap.get? b=some o→b∈frs outer→∀vs,o.data≠.fields vs:=fun b o q hb=>by
  have hb':b∈frs (envOfC qual scope s.heap.objs.size f cd:: outer):=List.mem_cons_of_mem _ hb
  obtain⟨_,o',q',d⟩:=stk.mem hb'
  rw [q] at q'
  cases q'
  exact d
 exact⟨x,_,_,del H1 x,_,some dx,rfl,I.os,I.bare,fl,DictAt.on (h:=s1.heap) ⟨_,hx,rfl⟩ dk hob,hok,un_del (un_fly2 (L:=s.heap.objs.size) I.base Un.refl nL inB sB fl.1 k4 fd) ex,inB,hE⟩
end
section
variable {M:Model} {A:Around} {E:Value→Shared→Prop} {s:Shared} {env:Env} {nm q:Str} {C N:Addr} {bs bm:List Value} {hdct:Bool} {sn:List Str} {sub:List Value} {ab:Bool} {col:Option Bool} {dd:Option Addr} {k0 k1 k2 k3 k5:Option Value} {newId:String}
theorem xr_stmt {x:Sem Value} {Q:Flow→Shared→Prop} (hb:bm.contains (.type "BaseException")=true) (hh:A.handled=none)
  (h:wpAny M A x (fun v s₁=>∃e od dt sl,v=.ref e∧s₁.heap.get? C=some (excClassObj nm q C N bs bm hdct sn sub ab col dd k0 k1 k2 k3 k5 newId)∧s₁.heap.get? e=some ⟨.ref C,od,.fields dt,sl⟩∧dt[1]?=some .none∧E (.ref e) s₁) E s):wpAny M A (raiseStmt env (some x) none) Q E s:=by
 have hB:(Value.ref C:: bm).contains (.type "BaseException")=true:=by rw [List.contains_cons,hb,Bool.or_true]
 unfold raiseStmt
 refine wpAny_bind (wpAny_mono h (fun v sx hx=>?_) fun _ _ z=>z)
 obtain⟨e,od,dt,sl,rfl,hC,he,hd,hE⟩:=hx
 obtain⟨hs,gs,ds,ts,os⟩:=sx
 repeat (first | with_reducible refine wpAny_loadPart_at he ?_ | with_reducible refine wpAny_loadPart_at hC ?_ | (with_reducible refine wpAny_isSubtype_exc hC ?_;rw [hB]) | wp_step)
 rw [hd]
 refine wpAny_pure ?_
 rw [if_neg (by decide)]
 exact wpAny_pure (PySem.wpAny_raiseNew_none hh hE)
theorem xr_exec {x:Expr} {pos:Pos} {Q:Flow→Shared→Prop} (hb:bm.contains (.type "BaseException")=true) (hh:A.handled=none)
  (h:wpAny M A (eval x env) (fun v s₁=>∃e od dt sl,v=.ref e∧s₁.heap.get? C=some (excClassObj nm q C N bs bm hdct sn sub ab col dd k0 k1 k2 k3 k5 newId)∧s₁.heap.get? e=some ⟨.ref C,od,.fields dt,sl⟩∧dt[1]?=some .none∧E (.ref e) s₁) E s):wpAny M A (exec (.Raise (some x) none pos) env) Q E s:=by
 rw [arm_exec_Raise]
 have go:wpAny M A (do let v ←eval x env;standAt pos;pure v) (fun v s₁=>∃e od dt sl,v=.ref e∧s₁.heap.get? C=some (excClassObj nm q C N bs bm hdct sn sub ab col dd k0 k1 k2 k3 k5 newId)∧s₁.heap.get? e=some ⟨.ref C,od,.fields dt,sl⟩∧dt[1]?=some .none∧E (.ref e) s₁) E s:=
  wpAny_bind (wpAny_mono h (fun v s₁ z=>wpAny_bind (wpAny_standAt (wpAny_pure z))) fun _ _ z=>z)
 exact wpAny_bind (wpAny_standAt (xr_stmt hb hh go))
end
section
variable {P:Program} {w:World} {K:PySem.W.Frag} {mg:Str→Option Value} {base:Heap} {N:List Str} {qual:Str} {scope:Scope} {f:Addr} {cd:Value} {A:Around} {outer:List Env} {s:Shared} {H:Hp} {E:XK}
def RaisedX (s:Shared) (E:XK) (C:Addr):VK:=fun v H3=>∃y dx,v=.ref y∧s.heap.get? y=none∧H3 y=some (zL y C dx)∧E (.ref C) (some dx) (del H3 y)
def tRaiseX (s:Shared) (E:XK) (C:Addr) (sp:Sp) (E1:XK) (ta:TA):TS:=fun _ σ H=>ta σ H fun vs H1=>vs.length≤1000∧∀x,H1 x=none→s.heap.get? x=none→sp (.ref x:: vs) (upd H1 x (vm x C)) (fun v H2=>v=.non∧RaisedX s E C (.ref x) H2) E1
theorem zq {CX:CXT} {k:Nat} {fi:Addr} {fd:FuncData} {ps:List Str} {sp:Sp} {E1:XK} {x:Str} {C:Addr} {np cpos pos:Pos} {e:Expr} {es:List Expr} {ta:TA} (Mk:MkX K C fi) (F:FnOk P w K mg base CX k fi fd ps sp)
  (hr:Room (k+1) (jz (CX2 P w) P w K mg base N qual scope f cd A outer s H E).A) (hg:Gl (jz (CX2 P w) P w K mg base N qual scope f cd A outer s H E) x) (hm:mg x=some (.ref C)) (hb:Binds K fd ps []) (hx:oO CX (jz (CX2 P w) P w K mg base N qual scope f cd A outer s H E) E1)
  (ha:PA (jz (CX2 P w) P w K mg base N qual scope f cd A outer s H E) (e:: es) ta) (hdb:(x == ("__debug__" :Str))=false:=by decide)
  (he:starEach (e:: es) (jz (CX2 P w) P w K mg base N qual scope f cd A outer s H E).env=(false,eval e (jz (CX2 P w) P w K mg base N qual scope f cd A outer s H E).env):: starEach es (jz (CX2 P w) P w K mg base N qual scope f cd A outer s H E).env:=by rfl)
  (hpl:(backTo cpos (starEach es (jz (CX2 P w) P w K mg base N qual scope f cd A outer s H E).env)).any (·.1)=false:=by rfl):
  PS (jz (CX2 P w) P w K mg base N qual scope f cd A outer s H E) (.Raise (some (.Call (.Name x np) (e:: es) [] cpos)) none pos) (tRaiseX s E C sp E1 ta):=by
 intro pins s1 σ H1 D I h
 obtain⟨nm,q',Nn,bs,bm,hdct,sn,sub,ab,col,dd,k0,k1,k2,k3,k5,mN,hi,hf⟩:=Mk.ini.ex
 have hB:bm.contains (.type "BaseException")=true:=(hf _ I.kIn).2.2.hasType (X:= "BaseException") (b:=true) (by decide +kernel)
 refine xr_exec (C:=C) (nm:=nm) (q:=q') (N:=Nn) (bs:=bs) (bm:=bm) (hdct:=hdct) (sn:=sn) (sub:=sub) (ab:=ab) (col:=col) (dd:=dd) (k0:=k0) (k1:=k1) (k2:=k2) (k3:=k3) (k5:=k5) (newId:= "ValueError.__new__") hB (I.ok.hd rfl) ?_
 refine wpAny_mono (wpAny_Call_Name_kw (tU I hg hm (PySem.W.callWith_K (h₀:=(jz (CX2 P w) P w K mg base N qual scope f cd A outer s H E).base) I.ok.mod.kin Mk.kp (thn (ha cpos pins s1 σ H1 _ I h) fun us s2 ⟨vs,H2,I2,r,hz,q⟩=>⟨I2.kIn,
  run_makeX (X:=jz (CX2 P w) P w K mg base N qual scope f cd A outer s H E) (Q:=RaisedX s E C) Mk F hr hb hx I2 r hz q⟩) he hpl) hdb)) (fun v s3 z=>?_) fun _ _ z=>z
 obtain⟨v',H3,I3,rv,y,dx,rfl,n0,e1,e2⟩:=z
 obtain rfl:v=Value.ref y:=rv
 obtain⟨⟨a0,vr,sl,hx3⟩,_,_⟩:=(show dC P w H3 s3.heap y (zL y C dx) from I3.hok y _ e1)
 exact⟨y,_,_,_,rfl,(hf _ I3.kIn).1,hx3,rfl,raise2 I3 e1 n0 e2⟩
end
end L2
namespace L2
open PySem PySem.Spec PyProof.Rows
def excG (x C dx:Addr):HO:=.ext fun h=>∃fl sl,h.get? x=some ⟨.ref C,some dx,.fields fl,sl⟩
theorem land2 {X:Cx} {pins:List (Addr×Obj)} {σ:St} {H:Hp} {s1 s':Shared} {Ex:XK} {e:Value} {A:Around} {E:Value→Shared→Prop} {Q:Unit→Shared→Prop} (I:Inv X pins σ H s1) (c:CX2 X.prog X.w X.stack H s1 Ex e s')
  (hA:A.frames=some X.stack) (hst:X.stack=X.env:: X.outer) (hf:X.env.frame=some X.env.locals) (hex:X.ex=[])
  (k:∀x cls H' s2 B a0 d,e=.ref x→Landed X pins σ H' x cls s2 B a0→DictAt s2.heap x d→Ex cls d H'→Q () s2):
  wpAny (model X.prog X.w) A (noteFrame e X.env) (fun _ s2=>wpAny (model X.prog X.w) A (setFlight e none) Q E s2) E s':=by
 obtain⟨x,cls,a0,H',B,d,rfl,hos,hg,fl,da,hok,un,inB,hE'⟩:=c
 have fd:∀b o,s'.heap.get? b=some o→b∈frs X.stack→∀vs,o.data≠.fields vs:=fun b o q hb=>by
  obtain⟨_,_,ff,_⟩:=id fl
  obtain⟨_,o',q',d⟩:=ff.mem hb
  rw [q] at q'
  cases q'
  exact d
 have nB:B.get? x=none:=fl.2.1
 have hfree:H' x=none:=by
  cases q:H' x with
  | none=>rfl
  | some o=>
   obtain⟨ob,z⟩:=(hok x o q).some_at
   rw [nB] at z;cases z
 have n1:s1.heap.get? x=none:=by
  cases q:s1.heap.get? x with
  | none=>rfl
  | some o=>
   exfalso
   by_cases hb:x∈frs X.stack
   ·obtain⟨oe,vs,he,_,hd,_⟩:=fl.first
    exact fd x oe he hb vs hd
   ·obtain⟨o',z⟩:=inB x o q hb
    rw [nB] at z;cases z
 have here:∀b o,s1.heap.get? b=some o→b≠x:=fun b o q z=>by rw [z,n1] at q;cases q
 have fl0:Heap.FlyingW B (X.env:: X.outer) x cls a0 s'.heap:=by rw [←hst];exact fl
 have g1:=mR Be (wpAny_looks_onW (M:=model X.prog X.w) (A:=A) (E:=E) (Q:=fun _ s2=>∃h',s2={ s' with heap:=h' }∧Heap.HeldW B (X.env:: X.outer) x cls a0 X.env.locals h'∧s'.heap.UpToSlots h') (by rw [hA,hst]) hf fl0 fun h' hh up=>⟨h',rfl,hh,up⟩)
 refine wpAny_mono g1 (fun _ s2 q=>?_) fun _ _ z=>z
 obtain⟨⟨h2,rfl,hh,up2⟩,dk2⟩:=q
 have g2:=mR jJ (wpAny_landsW (M:=model X.prog X.w) (A:=A) (E:=E) (s:={ s' with heap:=h2 }) (Q:=fun _ s3=>∃h',s3={ s' with heap:=h' }∧Heap.FlyingW B (X.env:: X.outer) x cls a0 h'∧h2.UpToSlots h') hh fun h' f3 up=>⟨h',rfl,f3,up⟩)
 refine wpAny_mono g2 (fun _ s3 q=>?_) fun _ _ z=>z
 obtain⟨⟨h3,rfl,fl3,up3⟩,dk3⟩:=q
 obtain⟨o2,ho2,_⟩:=hh.there
 obtain⟨o3,ho3,_⟩:=fl3.there
 have fl3':Heap.FlyingW B X.stack x cls a0 h3:=by rw [hst];exact fl3
 have go:∀h6,Heap.FlyingW B X.stack x cls a0 h6→s'.heap.UpToSlots h6→Inv X pins σ H' { s' with heap:=h6 }:=fun h6 f6 u6=>
  I.call' (s':={ s' with heap:=h6 }) hos (un_up un inB fl.1 f6.1 u6 fd) (hok.kept fun b o q=>f6.1 b o q) hg fun b hb=>absurd hb (by simp)
 refine k x cls H' _ B a0 d rfl ⟨go h3 fl3' (up2.trans up3),fl3',fun h6 f6 u6=>go h6 f6 ((up2.trans up3).trans u6),hfree,?_,?_,fun y c e=>?_,fun p hp=>here _ _ (I.pin p hp).1⟩ ((da.on dk2 ho2).on dk3 ho3) hE'
 ·cases q:X.s₀.heap.get? x with
  | none=>rfl
  | some o=>
   obtain⟨o',z⟩:=I.base.there x o q (by rw [hex];simp)
   rw [n1] at z;cases z
 ·obtain⟨m,⟨o,_,_,q,_⟩,_⟩:=I.loc
  exact fun z=>here _ _ q z.symm
 ·obtain⟨v,o,q,_⟩:=I.cell y c e
  exact here _ _ q
section
variable {M:Model} {A:Around} {E:Value→Shared→Prop} {nm q:Str} {C N:Addr} {bs bm:List Value} {hdct:Bool} {sn:List Str} {sub:List Value} {ab:Bool} {col:Option Bool} {dd:Option Addr} {k0 k1 k2 k3 k5:Option Value} {newId:String}
theorem xm_other {h:Heap} {g:Array GenState} {d:Drawn} {t:Nat} {os:OsState} {e C1:Addr} {oe:Obj} {Q:Bool→Shared→Prop}
  (hC:h.get? C=some (excClassObj nm q C N bs bm hdct sn sub ab col dd k0 k1 k2 k3 k5 newId)) (he:h.get? e=some oe) (hcls:oe.cls=.ref C1) (hbase:bm.contains (.type "BaseException")=true)
  (hs:∀{Q:Bool→Shared→Prop},Q false ⟨h,g,d,t,os⟩→wpAny M A (isSubtype (.ref C1) (.ref C)) Q E ⟨h,g,d,t,os⟩) (hq:Q false ⟨h,g,d,t,os⟩):wpAny M A (excMatches (.ref e) (.ref C)) Q E ⟨h,g,d,t,os⟩:=by
 have hB:(Value.ref C:: bm).contains (.type "BaseException")=true:=by rw [List.contains_cons,hbase,Bool.or_true]
 have f0:=tc_notTuple
 unfold excMatches
 repeat (first | (with_reducible refine wpAny_loadPart_at he ?_;rw [hcls]) | with_reducible refine wpAny_loadPart_at hC ?_ | (with_reducible refine wpAny_isSubtype_exc hC ?_;rw [hB]) | with_reducible refine hs ?_ | wp_step)
 exact hq
end
abbrev TH:=Ends→Value→Option Addr→St→Hp→Prop
def PH (X:Cx) (hs:List ExceptHandler) (T:TH):Prop:=∀(pins:List (Addr×Obj)) (σ:St) (H':Hp) (y:Addr) (cls:Value) (s:Shared) (B:Heap) (a0:Value) (d:Option Addr) (D:Ends),Landed X pins σ H' y cls s B a0→DictAt s.heap y d→T D cls d σ H'→
 wpAny (model X.prog X.w) X.A (handleBy (.ref y) X.env hs) (SP X pins D) X.xe s
def thNil:TH:=fun _ _ _ _ _=>False
def tTry2 (tb:(St→XK)→TS) (th:TH):TS:=fun D σ H=>∃R:St→XK,(∀σ' cls d H',R σ' cls d H'→th D cls d σ' H')∧tb R D σ H
theorem ps_try2 {X:Cx} {body:List Stmt} {h₀:ExceptHandler} {hs:List ExceptHandler} {pos:Pos} {tb:(St→XK)→TS} {th:TH} (hst:X.stack=X.env:: X.outer) (hf:X.env.frame=some X.env.locals) (hex:X.ex=[])
  (hb:∀(pn:List (Addr×Obj)) (Ex:Value→Shared→Prop) (R:St→XK),(∀pins σ H s e s',Inv (X.over pn Ex) pins σ H s→CX2 X.prog X.w X.stack H s (R σ) e s'→Ex e s')→PSs (X.over pn Ex) body (tb R)) (hh:PH X (h₀:: hs) th):
  PS X (.Try body (h₀:: hs) [] [] pos) (tTry2 tb th):=by
 intro pins s σ H D I h
 obtain⟨R,hR,hbody⟩:=h
 refine wpAny_Try_except (wpAny_mono (hb (X.pn ++ pins) (fun e s₁=>wpAny (model X.prog X.w) X.A (noteFrame e X.env) (fun _ s₂=>wpAny (model X.prog X.w) X.A (setFlight e none) (fun _ s₃=>
  wpAny (model X.prog X.w) X.A (handleBy e X.env (h₀:: hs)) (SP X pins D) X.xe s₃) X.xe s₂) X.xe s₁) R ?_ [] s σ H D I.over hbody) (fun f s₁ q=>?_) fun e s₁ q=>q)
 ·intro pins' σ' H' s1 e s2 I1 c
  refine land2 (I1.unover) c I.ok.frames hst hf hex fun y cls H2 s3 B a0 d he L da hE=>?_
  subst he
  exact hh pins σ' H2 y cls s3 B a0 d D L da (hR _ _ _ _ hE)
 ·cases f with
  | next=>
   obtain⟨σ1,H1,I1,q1⟩:=q
   exact wpAny_execs_nil ⟨σ1,H1,I1.unover,q1⟩
  | brk=>
   obtain⟨σ1,H1,I1,q1⟩:=q
   exact⟨σ1,H1,I1.unover,q1⟩
  | cont=>
   obtain⟨σ1,H1,I1,q1⟩:=q
   exact⟨σ1,H1,I1.unover,q1⟩
  | ret u=>
   obtain⟨v,σ1,H1,I1,rv,q1⟩:=q
   exact⟨v,σ1,H1,I1.unover,rv,q1⟩
def tFldG (K:PySem.W.Frag) (ta:TE) (f:Str):TE:=fun σ H Q=>ta σ H fun x H1=>∃a C dx fs v,x=.ref a∧H1 a=some (excG a C dx)∧H1 dx=some (.xd fs)∧XfK K C∧bu K C f∧fs.lookup f=some v∧Q v H1
theorem pe_fldG {X:Cx} {K:PySem.W.Frag} {e:Expr} {f:Str} {pos:Pos} {ta:TE} (hK:X.K=K) (he:PE X e ta) (hb:attributeBase e f X.env (eval e X.env)=eval e X.env):PE X (.Attribute e f pos) (tFldG K ta f):=by
 subst hK
 intro pins s σ H Q I h
 refine attr_of hb (thn (he pins s σ H _ I h) fun u s1 hpt=>?_)
 obtain⟨x,H1,I1,rx,a,C,dx,fs,v,ex,ea,ed,c,n,l,q⟩:=hpt
 subst ex
 obtain rfl:u=Value.ref a:=rx
 obtain⟨⟨fl,sl,hx⟩,_,_⟩:=(show dC X.prog X.w H1 s1.heap a (excG a C dx) from I1.hok a _ ea)
 exact getx_at I1 hx ed c n l fun u' s2 I2 ru=>⟨v,H1,I2,ru,q⟩
section
variable {P:Program} {w:World} {K:PySem.W.Frag} {mg:Str→Option Value} {base:Heap}
theorem Fun.ok2 {x qual:Str} {st:Stmt} {f:Addr} {fd:FuncData} {N ps:List Str} {k:Nat} {sp:Sp} (F:Fun K x qual st f fd) (S:FnScope N ps (aA st)) (len:∀vs H Q E,sp vs H Q E→vs.length=ps.length)
  (go:∀(cdv:Value) (A:Around) (outer:List Env) (s:Shared) (H:Hp) (vs:List V) (Q:VK) (E:XK),Room k (A.deeper (envOfC qual (aA st) s.heap.objs.size f cdv))→sp vs H Q E→
   ∃t,PSs (jz (CX2 P w) P w K mg base N qual (aA st) f cdv A outer s H E) (aR st) t∧t { nx:=fun _ H'=>Q .non H',rt:=Q } (start N vs) H):FnOk P w K mg base (CX2 P w) (k+1) f fd ps sp:=by
 obtain⟨oc,od,kV,doc,pm,an,cdv,ct,osl,e,lk,hcd⟩:=F.ex
 subst e
 exact fn_of lk hcd S len fun A outer s H vs Q E hr hsp=>go cdv A outer s H vs Q E hr hsp
end
theorem ExcIni.at {K:PySem.W.Frag} {C f:Addr} (c:ExcIni K C f) {h:Heap} (X:K.In h):ExcAt K C:=by
 obtain⟨nm,q,Nn,bs,bm,hdct,sn,sub,ab,col,dd,k0,k1,k2,k3,k5,mN,_,hf⟩:=c.ex
 exact⟨⟨nm,q,Nn,bs,bm,hdct,sn,sub,ab,col,dd,k0,k1,k2,k3,k5,_,(hf h X).2.2.hasType (X:= "BaseException") (b:=true) (by decide +kernel),fun h X=>(hf h X).1⟩⟩
end L2
set_option Elab.async false
set_option linter.all false
set_option maxRecDepth 100000
set_option Elab.async false
set_option maxHeartbeats 4000000
namespace L2
open PySem PySem.Spec PyProof.Rows
def iOr (a b:TI):TI:=fun σ H R=>a σ H R∨b σ H R
theorem pi_or {X:Cx} {tg it:Expr} {a b:TI} (h1:PI X tg it a) (h2:PI X tg it b):PI X tg it (iOr a b):=fun pins s σ H R I h=>h.elim (h1 pins s σ H R I) (h2 pins s σ H R I)
theorem comp_tup {js:List Nat} {tt:TT} {te:TE} {σ:St} {Qd:List V→Hp→Prop} {K:PySem.W.Frag} {a:Addr} {xs:List V} {H:Hp} (Pv:Nat→List V→Hp→Prop) (hn:xs.length≤sizeLine) (h0:Pv 0 [] H) (hl:∀i ys H,Pv i ys H→ys.length≤i) (hq:∀i ys H,i≤xs.length→Pv i ys H→SqT K H a xs)
  (hs:∀i x ys H,xs[i]?=some x→Pv i ys H→tt (some x:: eQ σ js) H fun b H4=>if b=true then te (some x:: eQ σ js) H4 fun y H5=>Pv (i+1) (ys ++ [y]) H5 else Pv (i+1) ys H4)
  (hd:∀ys H,Pv xs.length ys H→Qd ys H):CompEnd js tt te σ Qd (Itt K a) H:=by
 refine⟨fun i m ys H=>m=xs.length - i∧i≤xs.length∧Pv i ys H,⟨xs.length,by simp,Nat.zero_le _,h0⟩,?_⟩
 rintro i m ys H ⟨rfl,hi,p⟩
 have hlen:=hl i ys H p
 have q:=hq i ys H hi p
 by_cases hlt:i <xs.length
 ·refine .inr ⟨⟨xs,xs[i],q,by simp [hlt]⟩,by omega,Pv (i+1),fun ys' H' p'=>⟨xs.length - (i+1),by omega,rfl,hlt,p'⟩,fun x H' y=>?_⟩
  obtain⟨e,y⟩:=y
  subst e
  exact hs i x ys _ (y xs q) p
 ·have e:i=xs.length:=by omega
  subst e
  exact .inl ⟨⟨xs,q,Nat.le_refl _⟩,by omega,hd ys H p⟩
theorem comp_A {js:List Nat} {tt:TT} {te:TE} {σ σ0:St} {Qd:List V→Hp→Prop} {K:PySem.W.Frag} {a:Addr} {xs:List V} {H:Hp} {tl:TE} (ht:∀R:V→Hp→Prop,R (.ref a) H→tl σ0 H R) (ha:SqA K H a xs) (Pv:Nat→List V→Prop) (hn:xs.length≤sizeLine) (h0:Pv 0 []) (hl:∀i ys,Pv i ys→ys.length≤i)
  (hs:∀i x ys,xs[i]?=some x→Pv i ys→tt (some x:: eQ σ js) H fun b H4=>if b=true then te (some x:: eQ σ js) H4 fun y H5=>H5=H∧Pv (i+1) (ys ++ [y]) else H4=H∧Pv (i+1) ys)
  (hd:∀ys,Pv xs.length ys→Qd ys H):iOr (iList K tl) (iTup K tl) σ0 H (CompEnd js tt te σ Qd):=by
 rcases ha with ha | ha
 ·refine .inl (ht _ ⟨a,rfl,⟨xs,ha⟩,rN (K:=K) (a:=a) (xs:=xs) (fun i ys H'=>H'=H∧Pv i ys) hn ⟨rfl,h0⟩ (fun i ys _ z=>hl i ys z.2) (fun i ys H' _ z=>by rw [z.1];exact ha) (fun i x ys H' hx z=>?_) fun ys H' z=>?_⟩)
  ·obtain⟨rfl,z⟩:=z;exact hs i x ys hx z
  ·obtain⟨rfl,z⟩:=z;exact hd ys z
 ·refine .inr (ht _ ⟨a,rfl,⟨xs,ha⟩,comp_tup (K:=K) (a:=a) (xs:=xs) (fun i ys H'=>H'=H∧Pv i ys) hn ⟨rfl,h0⟩ (fun i ys _ z=>hl i ys z.2) (fun i ys H' _ z=>by rw [z.1];exact ha) (fun i x ys H' hx z=>?_) fun ys H' z=>?_⟩)
  ·obtain⟨rfl,z⟩:=z;exact hs i x ys hx z
  ·obtain⟨rfl,z⟩:=z;exact hd ys z
theorem SqA.len {K:PySem.W.Frag} {H:Hp} {a:Addr} {xs:List V} (h:SqA K H a xs):LenV K (.ref a) H xs.length:=h.elim (fun h=>.inl ⟨xs,h,rfl⟩) fun h=>.inr ⟨xs,h,rfl⟩
theorem ix_tupK {X:Cx} {K:PySem.W.Frag} (hK:X.K=K):IxR X (rIxT K):=by subst hK;exact bT
end L2
set_option Elab.async false
set_option linter.all false
set_option maxRecDepth 100000
set_option Elab.async false
set_option maxHeartbeats 4000000
namespace L2
open PySem PySem.Spec PyProof.Rows
section
variable {P:Program} {w:World} {K:PySem.W.Frag} {mg:Str→Option Value} {base:Heap} {N:List Str} {qual:Str} {scope:Scope} {f:Addr} {cd:Value} {A:Around} {outer:List Env} {s:Shared} {H:Hp} {E:XK}
theorem raise3 {pins:List (Addr×Obj)} {σ:St} {H1:Hp} {s1:Shared} {h':Heap} {e:Addr} {cls:Value} {args:List Value} (I:Inv (jz (CX2 P w) P w K mg base N qual scope f cd A outer s H E) pins σ H1 s1)
  (hx:Heap.MadeExcOf s1.heap h' e cls args) (hE:E cls none H1):(jz (CX2 P w) P w K mg base N qual scope f cd A outer s H E).xe (.ref e) { s1 with heap:=h' }:=by
 have nL:∀b o,s.heap.get? b=some o→b≠s.heap.objs.size:=fun b o q=>Nat.ne_of_lt (Heap.lt_size q)
 have hmem:∀env∈(envOfC qual scope s.heap.objs.size f cd:: outer),∀b,env.frame=some b→b∈frs (envOfC qual scope s.heap.objs.size f cd:: outer):=fun env he b hb=>List.mem_filterMap.mpr ⟨env,he,hb⟩
 have stk:=I.stack
 have inB:∀b o,s.heap.get? b=some o→b∉frs outer→∃o',(PySem.W.hideAll s1.heap (frs (envOfC qual scope s.heap.objs.size f cd:: outer))).get? b=some o':=fun b o q hb=>by
  obtain⟨o1,k1⟩:=I.base.there b o q (by simp [jz])
  exact⟨o1,PySem.W.hideAll_get _ k1 fun z=>(List.mem_cons.mp z).elim (nL b o q) hb⟩
 have hok:HOk P w H1 (PySem.W.hideAll s1.heap (frs (envOfC qual scope s.heap.objs.size f cd:: outer))):=fun b o q=>by
  refine(I.hok b o q).stay (fun c v hc q'=>PySem.W.hideAll_get _ q' fun hm=>?_) (fun _ q'=>q') fun _ _ q'=>q'
  have hn:=I.stkFree c hm
  rcases hc with z | z
  ·rw [z,q] at hn;cases hn
  ·rw [z] at hn;cases hn
 have sB:(PySem.W.hideAll s1.heap (frs (envOfC qual scope s.heap.objs.size f cd:: outer))).StaysIn s1.heap:=fun b o q=>PySem.W.of_hideAll _ q
 have go:=mR rA (wpAny_leaves_madeW (M:=model P w) (E:=fun e' s''=>CX2 P w outer H s E e' s'') (s:={ s1 with heap:=h' }) (base:=PySem.W.hideAll s1.heap (frs (envOfC qual scope s.heap.objs.size f cd:: outer))) (h:=s1.heap)
  (Q:=fun _ s2=>∃h2 t,s2={ s1 with heap:=h2 }∧Heap.FlyingW (PySem.W.hideAll s1.heap (frs (envOfC qual scope s.heap.objs.size f cd:: outer))) outer e cls (.ref t) h2∧h'.UpToSlots h2)
  I.ok.frames rfl sB (PySem.W.funFrames_hide stk hmem) hx fun h2 t fl _ _ up=>⟨h2,t,rfl,fl,up⟩)
 refine wpAny_mono go (fun _ s2 q=>?_) fun _ _ z=>z
 obtain⟨⟨h2,t,rfl,fl,up⟩,dk⟩:=q
 obtain⟨ob,hob,_⟩:=fl.there
 obtain⟨t0,he,_,_⟩:=hx.there
 have fd:∀b o,s1.heap.get? b=some o→b∈frs outer→∀vs,o.data≠.fields vs:=fun b o q hb=>by
  have hb':b∈frs (envOfC qual scope s.heap.objs.size f cd:: outer):=List.mem_cons_of_mem _ hb
  obtain⟨_,o',q',d⟩:=stk.mem hb'
  rw [q] at q'
  cases q'
  exact d
 exact⟨e,cls,_,H1,_,none,rfl,I.os,I.bare,fl,DictAt.on (h:=h') ⟨_,he,rfl⟩ dk hob,hok,un_fly2 (L:=s.heap.objs.size) I.base Un.refl nL inB sB fl.1 ((Heap.UpToSlots.of_keeps hx.keeps).trans up) fd,inB,hE⟩
theorem ps_raise2 {x:Str} {C:Addr} {np cpos pos:Pos} {e:Expr} {es:List Expr} {ta:TA} (c:ExcCls K C) (hm:mg x=some (.ref C))
  (hg:Gl (jz (CX2 P w) P w K mg base N qual scope f cd A outer s H E) x) (ha:PA (jz (CX2 P w) P w K mg base N qual scope f cd A outer s H E) (e:: es) ta)
  (he:starEach (e:: es) (jz (CX2 P w) P w K mg base N qual scope f cd A outer s H E).env=(false,eval e (jz (CX2 P w) P w K mg base N qual scope f cd A outer s H E).env):: starEach es (jz (CX2 P w) P w K mg base N qual scope f cd A outer s H E).env:=by rfl)
  (hpl:(backTo cpos (starEach (e:: es) (jz (CX2 P w) P w K mg base N qual scope f cd A outer s H E).env)).any (·.1)=false:=by rfl) (hdb:(x == ("__debug__" :Str))=false:=by decide):
  PS (jz (CX2 P w) P w K mg base N qual scope f cd A outer s H E) (.Raise (some (.Call (.Name x np) (e:: es) [] cpos)) none pos) (tRaise E C ta):=by
 intro pins s1 σ H1 D I h
 obtain⟨nm,q,Nn,bs,bm,bmB,hdct,sn,sub,ab,col,dd,k0,k1,k2,k3,k5,B,newId,initId,mN,F,hb,hni,hf⟩:=c.ex
 have hl:sizeLine=16777216:=sizeLine_eq
 refine wpAny_Raise_call_subT (nm:=nm) (q:=q) (N:=Nn) (bs:=bs) (bm:=bm) (hdct:=hdct) (sn:=sn) (sub:=sub) (ab:=ab) (col:=col) (dd:=dd) (k0:=k0) (k1:=k1) (k2:=k2) (k3:=k3) (k5:=k5) F hb (I.ok.hd rfl) hpl hni (tU I hg hm ⟨rfl,?_⟩ hdb)
 have ha':=ha cpos pins s1 σ H1 _ I h
 rw [he] at ha' ⊢
 refine Calls.evalArgs_plain (thn ha' fun us s2 hpt=>?_)
 obtain⟨vs,H2,I2,r,hz,hE⟩:=hpt
 obtain⟨hC,hn,hT⟩:=hf s2.heap I2.kIn
 exact⟨rfl,by have:=r.length;show us.length≤sizeLine;omega,hC,hn,hT,fun h' e hx=>raise3 I2 hx hE⟩
end
def caught (y C:Addr):Option Addr→HO
 | some dx=>excG y C dx
 | none=>excO y (.ref C)
def thC (K:PySem.W.Frag) (i:Nat) (C:Addr) (ts:TS) (tr:TH):TH:=fun D cls d σ H=>
 (cls=.ref C∧∀y,H y=none→ts { nx:=fun σ2 H2=>D.nx (σ2.set i none) H2,rt:=D.rt,bk:=fun σ2 H2=>D.bk (σ2.set i none) H2,ct:=fun σ2 H2=>D.ct (σ2.set i none) H2 } (σ.set i (some (.ref y))) (upd H y (caught y C d)))∨
 (∃C1,cls=.ref C1∧PySem.W.subIn K (.ref C1) (.ref C)=some false∧tr D cls d σ H)
theorem ph_c {X:Cx} {K:PySem.W.Frag} {i:Nat} {n x:Str} {C:Addr} {b₀:Stmt} {suite:List Stmt} {np hpos:Pos} {rest:List ExceptHandler} {ts:TS} {tr:TH} (hK:X.K=K)
  (hN:X.N.Nodup) (hi:X.N[i]?=some n) (hk:X.env.scope.names.lookup n=some .local) (hg:Gl X x) (hm:X.mg x=some (.ref C)) (cl:ExcAt K C)
  (hs:∀y,PSs (X.marked y) (b₀:: suite) ts) (hr:PH X rest tr) (hdb:(x == ("__debug__" :Str))=false:=by decide):
  PH X (.ExceptHandler (some (.Name x np)) (some n) (b₀:: suite) hpos:: rest) (thC K i C ts tr):=by
 subst hK
 intro pins σ H' y cls s B a0 d D L da h
 obtain⟨nm,q,Nn,bs,bm,hdct,sn,sub,ab,col,dd,k0,k1,k2,k3,k5,newId,hbase,hC⟩:=cl.ex
 obtain⟨ob,hob,hobc⟩:=L.fly.there
 have IL:=L.inv
 have hd:=IL.ok.hd
 refine wpAny_handleBy_cons (codeAny_handlers_test (Calls.Name_function_global IL.ok.kind hg (Calls.loadGlobal_global (by rw [IL.ok.glob];exact IL.mod.glob.keeps IL.bk) hm ?_) hdb)) (by intro q;cases q)
 rcases h with ⟨rfl,hsu⟩ | ⟨C1,rfl,hsub,hrest⟩
 ·refine wpAny_excMatches_sub_self (hC s.heap IL.kIn) hob hobc hbase ?_
  refine codeAny_handlers_suite_as (e:=.ref y) ?_
  have g1:=mR jJ (lands_againW (M:=model X.prog X.w) (A:=X.A.mark (some (.ref y))) (E:=fun _ _=>False) (Q:=fun _ s6=>∃h',s6={ s with heap:=h' }∧Heap.FlyingW B X.stack y (.ref C) a0 h'∧s.heap.UpToSlots h') L.fly fun h' f up=>⟨h',rfl,f,up⟩)
  refine wpAny_mono g1 (fun _ s6 q6=>?_) fun _ _ z=>False.elim z
  obtain⟨⟨h6,rfl,fl6,up6⟩,dk6⟩:=q6
  obtain⟨oe6,vs6,hob6,hobc6,hdat6,_⟩:=fl6.first
  obtain⟨o7,ho7,hd7⟩:=da.on dk6 hob6
  obtain rfl:oe6=o7:=Option.some.inj (hob6.symm.trans ho7)
  obtain⟨oc,od,dt,osl⟩:=oe6
  dsimp only at hobc6 hdat6 hd7
  subst hobc6 hdat6 hd7
  have ok6:dC X.prog X.w (upd H' y (caught y C od)) h6 y (caught y C od):=by
   cases od with
   | some dx=>exact⟨⟨_,_,hob6⟩,⟨_,hob6⟩,fun h1 h2 ⟨x1,x2,z⟩ k=>⟨x1,x2,k _ z⟩⟩
   | none=>exact⟨⟨_,hob6,rfl⟩,⟨_,hob6⟩,fun h1 h2 ⟨o,e1,e2⟩ k=>⟨o,k o e1,e2⟩⟩
  have I6:=(L.more h6 fl6 up6).track (x:=y) (o:=caught y C od) L.free L.new L.neL L.neC L.neP ok6
  refine vd I6 hN hi (.inl hk) (v:=.ref y) rfl (fun s7 I7=>?_) (.inr hk)
  refine wpAny_mono (hs y pins s7 _ _ _ I7.marked (hsu y L.free)) (fun f s8 q8=>?_) fun _ _ z=>False.elim z
  cases f with
  | next=>
   obtain⟨σ8,H8,I8,q8⟩:=q8
   exact qx (I8.unmarked hd) hN hi hk fun s9 I9=>⟨_,_,I9,q8⟩
  | brk=>
   obtain⟨σ8,H8,I8,q8⟩:=q8
   exact qx (I8.unmarked hd) hN hi hk fun s9 I9=>⟨_,_,I9,q8⟩
  | cont=>
   obtain⟨σ8,H8,I8,q8⟩:=q8
   exact qx (I8.unmarked hd) hN hi hk fun s9 I9=>⟨_,_,I9,q8⟩
  | ret u=>
   obtain⟨v,σ8,H8,I8,rv,q8⟩:=q8
   exact qx (I8.unmarked hd) hN hi hk fun s9 I9=>⟨v,_,_,I9,rv,q8⟩
 ·obtain⟨hp,g,dr,tk,os⟩:=s
  refine xm_other (hC _ IL.kIn) hob hobc hbase (fun q=>(PySem.W.looks_subIn IL.kIn hsub).at q) ?_
  exact hr pins σ H' y _ _ B a0 d D L da hrest
theorem zm {X:Cx} {K:PySem.W.Frag} (hK:X.K=K):qK X (.builtin "isinstance") (fun xs H Q=>∃y C d c b,xs=[.ref y,c]∧H y=some (caught y C d)∧XcK K C∧isiE K C c b∧Q (.bl b) H):=by
 subst hK
 intro pins s σ H xs us Q I r h
 obtain⟨y,C,d,c,b,rfl,hy,x,hc,q⟩:=h
 obtain⟨u,w',rfl,rx,ry⟩:=vals2 r
 cases rx
 have p:ExcHere y C s.heap:=by
  have z:=I.hok y _ hy
  cases d with
  | some dx=>obtain⟨⟨_,_,w⟩,_⟩:=z;exact⟨_,w,rfl⟩
  | none=>obtain⟨⟨_,w,e⟩,_⟩:=z;exact⟨_,w,e⟩
 have fin:∀tk,EP X pins σ Q (.bool b) { s with toks:=tk }:=fun tk=>⟨.bl b,H,I.tok tk,rfl,q⟩
 cases c with
 | ref D=>cases ry;exact PySem.W.kia_one (kitx_exc x) I.kIn p hc (by intro e;cases e) fin
 | ty T=>cases ry;exact PySem.W.kia_one (kitx_exc x) I.kIn p hc (by intro e;cases e) fin
 | _=>exact(show False from hc).elim
end L2
set_option Elab.async false
set_option linter.all false
set_option maxRecDepth 100000
set_option Elab.async false
set_option maxHeartbeats 4000000
namespace L2
open PySem PySem.Spec PyProof.Rows
section
variable {κ:Type} [DecidableEq κ]
def fG (kvs:List (κ×V)) (k:κ):Option V:=(kvs.find? fun kv=>decide (kv.1=k)).map (·.2)
def putK (kvs:List (κ×V)) (k:κ) (v:V):List (κ×V):=
 if (kvs.any fun kv=>decide (kv.1=k))=true then kvs.map (fun kv=>if kv.1=k then(kv.1,v) else kv) else kvs ++ [(k,v)]
theorem gC {p:κ×V} {r:List (κ×V)} {k:κ} (e:p.1=k):fG (p:: r) k=some p.2:=by simp [fG,List.find?_cons,e]
theorem fQ {p:κ×V} {r:List (κ×V)} {k:κ} (e:¬p.1=k):fG (p:: r) k=fG r k:=by simp [fG,List.find?_cons,e]
theorem rH (k:κ):∀kvs:List (κ×V),(kvs.any fun kv=>decide (kv.1=k))=(fG kvs k).isSome
 | []=>rfl
 | p:: r=>by
  rw [List.any_cons]
  by_cases e:p.1=k
  ·simp only [gC e,decide_eq_true e,Bool.true_or,Option.isSome_some]
  ·rw [fQ e,decide_eq_false e,Bool.false_or];exact rH k r
theorem valV_map (k j:κ) (y:V):∀kvs:List (κ×V),fG (kvs.map fun kv=>if kv.1=k then(kv.1,y) else kv) j=(fG kvs j).map fun x=>if j=k then y else x
 | []=>rfl
 | p:: r=>by
  have ih:=valV_map k j y r
  rw [List.map_cons]
  by_cases h:p.1=k
  ·rw [if_pos h]
   by_cases e:p.1=j
   ·rw [gC (p:=(p.1,y)) e,gC e,Option.map_some,if_pos (e.symm.trans h)]
   ·rw [fQ (p:=(p.1,y)) e,fQ e,ih]
  ·rw [if_neg h]
   by_cases e:p.1=j
   ·rw [gC (p:=p) e,gC e,Option.map_some,if_neg (fun z=>h (e.trans z))]
   ·rw [fQ (p:=p) e,fQ e,ih]
theorem valV_snoc (k j:κ) (y:V):∀kvs:List (κ×V),fG kvs k=none→fG (kvs ++ [(k,y)]) j=if j=k then some y else fG kvs j
 | [],_=>by
  by_cases e:k=j
  ·rw [if_pos e.symm];exact gC (p:=(k,y)) e
  ·rw [if_neg (fun z=>e z.symm)];exact fQ (p:=(k,y)) e
 | p:: r,hn=>by
  rw [List.cons_append]
  have hk:¬p.1=k:=fun z=>by rw [gC z] at hn;cases hn
  rw [fQ hk] at hn
  have ih:=valV_snoc k j y r hn
  by_cases e:p.1=j
  ·rw [gC e,gC e,if_neg (fun z=>hk (e.trans z))]
  ·rw [fQ e,fQ e,ih]
theorem valV_put (kvs:List (κ×V)) (k j:κ) (y:V):fG (putK kvs k y) j=if j=k then some y else fG kvs j:=by
 unfold putK
 by_cases a:(kvs.any fun kv=>decide (kv.1=k))=true
 ·rw [if_pos a,valV_map]
  rw [rH] at a
  by_cases e:j=k
  ·obtain⟨x,hx⟩:=Option.isSome_iff_exists.mp a
   rw [if_pos e,e,hx,Option.map_some,if_pos rfl]
  ·rw [if_neg e]
   cases fG kvs j with
   | none=>rfl
   | some x=>rw [Option.map_some,if_neg e]
 ·rw [if_neg a]
  refine valV_snoc k j y kvs ?_
  rw [rH] at a
  cases q:fG kvs k with
  | none=>rfl
  | some x=>rw [q] at a;exact(a rfl).elim
theorem m6 (kvs:List (κ×V)) (k:κ) (v:V):(putK kvs k v).length≤kvs.length+1:=by
 unfold putK
 split
 ·rw [List.length_map];omega
 ·rw [List.length_append,List.length_cons,List.length_nil];omega
theorem yf {kvs:List (κ×V)} {k:κ} (v:V) (h:fG kvs k=none):putK kvs k v=kvs ++ [(k,v)]:=by
 unfold putK
 rw [rH,h]
 exact if_neg (by decide)
theorem qX.isSome_eq {o:Option V} {u:Option Value} (r:qX o u):o.isSome=u.isSome:=by
 cases o with
 | none=>cases u with
  | none=>rfl
  | some _=>exact(show False from r).elim
 | some _=>cases u with
  | none=>exact(show False from r).elim
  | some _=>rfl
theorem qX.getD {o:Option V} {u:Option Value} {d:V} {d':Value} (r:qX o u) (rd:RelV d d'):RelV (o.getD d) (u.getD d'):=by
 cases o with
 | none=>cases u with
  | none=>exact rd
  | some _=>exact(show False from r).elim
 | some _=>cases u with
  | none=>exact(show False from r).elim
  | some _=>exact r
theorem KV.val {kvs:List (κ×V)} {vs:List (κ×Value)} (r:KV kvs vs) (k:κ):qX (fG kvs k) (valueAt vs k):=by
 unfold KV at r
 induction r with
 | nil=>exact True.intro
 | @cons p q ps qs h t ih=>
  obtain⟨h1,h2⟩:=h
  by_cases e:p.1=k
  ·have e':q.1=k:=h1.symm.trans e
   have b:valueAt (q:: qs) k=some q.2:=by simp [valueAt,List.find?_cons,e']
   rw [gC e,b];exact h2
  ·have e':¬q.1=k:=fun z=>e (h1.trans z)
   have b:valueAt (q:: qs) k=valueAt qs k:=by simp [valueAt,List.find?_cons,e']
   rw [fQ e,b];exact ih
theorem KV.any {kvs:List (κ×V)} {vs:List (κ×Value)} (r:KV kvs vs) (k:κ):(kvs.any fun kv=>decide (kv.1=k))=vs.any fun kv=>decide (kv.1=k):=by
 unfold KV at r
 induction r with
 | nil=>rfl
 | cons h t ih=>rw [List.any_cons,List.any_cons,ih,h.1]
theorem KV.repl {kvs:List (κ×V)} {vs:List (κ×Value)} (r:KV kvs vs) (k:κ) {y:V} {u:Value} (ry:RelV y u):
  KV (kvs.map fun kv=>if kv.1=k then(kv.1,y) else kv) (vs.map fun kv=>if kv.1=k then(kv.1,u) else kv):=by
 unfold KV at r ⊢
 induction r with
 | nil=>exact .nil
 | @cons p q ps qs h t ih=>
  rw [List.map_cons,List.map_cons]
  refine .cons ?_ ih
  obtain⟨h1,h2⟩:=h
  by_cases e:p.1=k
  ·rw [if_pos e,if_pos (h1.symm.trans e)];exact⟨h1,ry⟩
  ·rw [if_neg e,if_neg (fun z=>e (h1.trans z))];exact⟨h1,h2⟩
theorem KV.put {kvs:List (κ×V)} {vs:List (κ×Value)} (r:KV kvs vs) (k:κ) {y:V} {u:Value} (ry:RelV y u):KV (putK kvs k y) (stored vs k u):=by
 unfold putK stored
 rw [r.any k]
 by_cases e:(vs.any fun kv=>decide (kv.1=k))=true
 ·rw [if_pos e,if_pos e];exact r.repl k ry
 ·rw [if_neg e,if_neg e];exact Paired.snoc r ⟨rfl,ry⟩
theorem KV.length {kvs:List (κ×V)} {vs:List (κ×Value)} (r:KV kvs vs):kvs.length=vs.length:=Paired.length r
end
theorem Bx {P:Program} {w:World} {k:Key} {u:Value} (r:RelV (kV k) u):(cX P w).is k u=true:=by
 cases k with
 | inl i=>obtain⟨t,e⟩:=(show ∃t,u=Value.int i t from r);subst e;exact mixKind_int P w i t
 | inr x=>obtain⟨t,e⟩:=(show ∃t,u=Value.str x t from r);subst e;exact nY P w x t
theorem items_are {P:Program} {w:World}:∀{ks:List Key} {us:List Value},Vals (ks.map kV) us→ItemsAre (cX P w) ks us
 | [],_,r=>by rw [List.map_nil] at r;cases r;exact .nil
 | k:: ks,_,r=>by
  rw [List.map_cons] at r
  cases r with
  | cons h t=>exact .cons (Bx h) (items_are t)
abbrev KT (H:Hp):List (List Key×V)→List (List Key×Addr×Value)→Prop:=Paired fun p q=>p.1=q.1∧H q.2.1=some (.tup (p.1.map kV))∧RelV p.2 q.2.2
theorem KT.val {H:Hp} {kvs:List (List Key×V)} {xs:List (List Key×Addr×Value)} (r:KT H kvs xs) (k:List Key):qX (fG kvs k) ((atKey xs k).map (·.2)):=by
 induction r with
 | nil=>exact True.intro
 | @cons p q ps qs h t ih=>
  obtain⟨h1,_,h2⟩:=h
  by_cases e:p.1=k
  ·have e':q.1=k:=h1.symm.trans e
   have b:atKey (q:: qs) k=some q.2:=by simp [atKey,List.find?_cons,e']
   rw [gC e,b];exact h2
  ·have e':¬q.1=k:=fun z=>e (h1.trans z)
   have b:atKey (q:: qs) k=atKey qs k:=by simp [atKey,List.find?_cons,e']
   rw [fQ e,b];exact ih
theorem KT.repl {H:Hp} {kvs:List (List Key×V)} {xs:List (List Key×Addr×Value)} (r:KT H kvs xs) (k:List Key) {y:V} {u:Value} (ry:RelV y u):
  KT H (kvs.map fun kv=>if kv.1=k then(kv.1,y) else kv) (xs.map (putAt k u)):=by
 induction r with
 | nil=>exact .nil
 | @cons p q ps qs h t ih=>
  rw [List.map_cons,List.map_cons]
  refine .cons ?_ ih
  obtain⟨h1,h2,h3⟩:=h
  unfold putAt
  by_cases e:p.1=k
  ·rw [if_pos e,if_pos (h1.symm.trans e)];exact⟨h1,h2,ry⟩
  ·rw [if_neg e,if_neg (fun z=>e (h1.trans z))];exact⟨h1,h2,h3⟩
theorem KT.put {H:Hp} {kvs:List (List Key×V)} {xs:List (List Key×Addr×Value)} (r:KT H kvs xs) (k:List Key) {b:Addr} {y:V} {u:Value} (hb:H b=some (.tup (k.map kV))) (ry:RelV y u):
  KT H (putK kvs k y) (storedH xs k b u):=by
 have e:(kvs.any fun kv=>decide (kv.1=k))=(atKey xs k).isSome:=by
  rw [rH,(r.val k).isSome_eq,Option.isSome_map]
 unfold putK storedH
 rw [e]
 by_cases q:(atKey xs k).isSome=true
 ·rw [if_pos q,if_pos q];exact r.repl k ry
 ·rw [if_neg q,if_neg q];exact Paired.snoc r ⟨rfl,hb,ry⟩
theorem KT.keeps {H H':Hp} {kvs:List (List Key×V)} {xs:List (List Key×Addr×Value)} (r:KT H kvs xs) (ht:∀b ys,H b=some (.tup ys)→H' b=some (.tup ys)):KT H' kvs xs:=
 Paired.mapP r fun _ _ z=>⟨z.1,ht _ _ z.2.1,z.2.2⟩
section
variable {P:Program} {w:World} {H:Hp} {h:Heap} {a:Addr}
theorem rd_of {u:HO} (ok:HOk P w H h) (e:Rd H a u):dC P w H h a u:=e.ok ok
theorem yx {kvs:List (Key×V)} (ok:HOk P w H h) (e:Rd H a (.dK kvs)):kvs.length≤sizeLine∧(a == sysModules)=false∧∃vs,KV kvs vs∧h.DictOf (cX P w) a vs:=
 show dC P w H h a (.dK kvs) from rd_of ok e
theorem dk_of {kvs:List (Key×V)} (ok:HOk P w H h) (e:H a=some (.dK kvs)):kvs.length≤sizeLine∧(a == sysModules)=false∧∃vs,KV kvs vs∧h.DictOf (cX P w) a vs:=yx ok (.inl e)
theorem zJ {ks:List Key} (ok:HOk P w H h) (e:H a=some (.tup (ks.map kV))):(tupleKind (cX P w)).is h ks a:=by
 obtain⟨_,its,r,o,h1,h2,n,h3⟩:=(show dC P w H h a (.tup (ks.map kV)) from ok a _ e)
 exact⟨o,its.toArray,n,h1,h2,h3,by simpa using items_are r⟩
theorem Bo {kvs:List (List Key×V)} (ok:HOk P w H h) (e:Rd H a (.dT kvs)):kvs.length≤sizeLine∧(a == sysModules)=false∧
  ∃xs,KT H kvs xs∧h.DictOfH (tupleKind (cX P w)) a xs:=by
 obtain⟨z,y,xs,r,o,es,ep,h1,h2,h3,h4,h5⟩:=(show dC P w H h a (.dT kvs) from rd_of ok e)
 refine⟨z,y,xs,r,o,es,ep,h1,h2,h3,h4,fun x hx=>?_,h5⟩
 have all:∀{l:List (List Key×V)} {m:List (List Key×Addr×Value)},KT H l m→∀x∈m,(tupleKind (cX P w)).is h x.1 x.2.1:=by
  intro l m q
  induction q with
  | nil=>intro x hx;exact nomatch hx
  | @cons p q ps qs hq t ih=>
   intro x hx
   rcases List.mem_cons.mp hx with e | hx
   ·subst e
    exact zJ ok (by rw [←hq.1];exact hq.2.1)
   ·exact ih x hx
 exact all r x hx
theorem dt_of {kvs:List (List Key×V)} (ok:HOk P w H h) (e:H a=some (.dT kvs)):kvs.length≤sizeLine∧(a == sysModules)=false∧
  ∃xs,KT H kvs xs∧h.DictOfH (tupleKind (cX P w)) a xs:=Bo ok (.inl e)
end
def ji (H:Hp) (a:Addr) (y:V) (r:Option V):Prop:=
 (∃kvs k,Rd H a (.dK kvs)∧y=kV k∧r=fG kvs k)∨∃kvs k b,Rd H a (.dT kvs)∧y=.ref b∧H b=some (.tup (k.map kV))∧r=fG kvs k
def sG (H:Hp) (a:Addr) (y v:V) (H':Hp):Prop:=
 (∃kvs k,H a=some (.dK kvs)∧y=kV k∧kvs.length <sizeLine∧H'=upd H a (.dK (putK kvs k v)))∨
 ∃kvs k b,H a=some (.dT kvs)∧y=.ref b∧H b=some (.tup (k.map kV))∧kvs.length <sizeLine∧H'=upd H a (.dT (putK kvs k v))
theorem ji.k {H:Hp} {a:Addr} {kvs:List (Key×V)} {k:Key} (e:H a=some (.dK kvs)):ji H a (kV k) (fG kvs k):=.inl ⟨kvs,k,.inl e,rfl,rfl⟩
theorem sG.k {H:Hp} {a:Addr} {kvs:List (Key×V)} {k:Key} {v:V} (e:H a=some (.dK kvs)) (hl:kvs.length <sizeLine):sG H a (kV k) v (upd H a (.dK (putK kvs k v))):=.inl ⟨kvs,k,e,rfl,hl,rfl⟩
section
variable {X:Cx} {pins:List (Addr×Obj)} {σ:St} {H:Hp} {s:Shared} {a:Addr} {y v:V} {u r:Value} {o:Option V} {A:Around} {E:Value→Shared→Prop}
theorem Inv.big (I:Inv X pins σ H s):sysModules <s.heap.objs.size:=by
 have h:mainGlobals <s.heap.objs.size:=(I.mod.glob.keeps I.bk).lt
 exact Nat.lt_trans (by decide) h
theorem d_getItem {Q:Value→Shared→Prop} (hu:A.units+1 <cLine) (I:Inv X pins σ H s) (g:ji H a y (some v)) (ry:RelV y u) (h:∀w' s',Inv X pins σ H s'→RelV v w'→Q w' s'):
  wpAny (model X.prog X.w) A (getItem (.ref a) u) Q E s:=by
 rcases g with ⟨kvs,k,e,ey,l⟩ | ⟨kvs,k,b,e,ey,eb,l⟩
 ·subst ey
  obtain⟨z,hd,vs,rel,dd⟩:=yx I.hok e
  obtain⟨w',hw,rw'⟩:=qX.some_of (v:=v) (o:=valueAt vs k) (by rw [l];exact rel.val k)
  exact wpAny_getItem_of (Bx ry) dd.mapOf hw (h w' _ (I.tok _) rw')
 ·subst ey
  cases (show u=Value.ref b from ry)
  obtain⟨z,hd,xs,rel,dd⟩:=Bo I.hok e
  obtain⟨w',hw,rw'⟩:=qX.some_of (v:=v) (o:=(atKey xs k).map (·.2)) (by rw [l];exact rel.val k)
  obtain⟨p,hp,hp2⟩:=Option.map_eq_some_iff.mp hw
  refine wpAny_getItem_heap (tupleKind_room_in1 hu) (zJ I.hok eb) dd hp ?_
  rw [hp2]
  exact h w' _ (I.tok _) rw'
theorem d_in {Q:Value→Shared→Prop} (hu:A.units+1 <cLine) (I:Inv X pins σ H s) (g:ji H a y o) (ry:RelV y u) (h:∀s',Inv X pins σ H s'→Q (.bool o.isSome) s'):
  wpAny (model X.prog X.w) A (compareOp .In u (.ref a)) Q E s:=by
 rcases g with ⟨kvs,k,e,ey,l⟩ | ⟨kvs,k,b,e,ey,eb,l⟩
 ·subst ey
  obtain⟨z,hd,vs,rel,dd⟩:=yx I.hok e
  refine wpAny_in_of (Bx ry) hd dd.mapOf ?_
  rw [←(rel.val k).isSome_eq,←l]
  exact h _ (I.tok _)
 ·subst ey
  cases (show u=Value.ref b from ry)
  obtain⟨z,hd,xs,rel,dd⟩:=Bo I.hok e
  refine wpAny_in_heap (tupleKind_room_in1 hu) (zJ I.hok eb) hd dd ?_
  have q:=(rel.val k).isSome_eq
  rw [Option.isSome_map] at q
  rw [←q,←l]
  exact h _ (I.tok _)
theorem d_notIn {Q:Value→Shared→Prop} (hu:A.units+1 <cLine) (I:Inv X pins σ H s) (g:ji H a y o) (ry:RelV y u) (h:∀s',Inv X pins σ H s'→Q (.bool (!o.isSome)) s'):
  wpAny (model X.prog X.w) A (compareOp .NotIn u (.ref a)) Q E s:=by
 rcases g with ⟨kvs,k,e,ey,l⟩ | ⟨kvs,k,b,e,ey,eb,l⟩
 ·subst ey
  obtain⟨z,hd,vs,rel,dd⟩:=yx I.hok e
  refine wpAny_notIn_of (Bx ry) hd dd.mapOf ?_
  rw [←(rel.val k).isSome_eq,←l]
  exact h _ (I.tok _)
 ·subst ey
  cases (show u=Value.ref b from ry)
  obtain⟨z,hd,xs,rel,dd⟩:=Bo I.hok e
  refine wpAny_notIn_heap (tupleKind_room_in1 hu) (zJ I.hok eb) hd dd ?_
  have q:=(rel.val k).isSome_eq
  rw [Option.isSome_map] at q
  rw [←q,←l]
  exact h _ (I.tok _)
theorem d_write {h':Heap} {t':Nat} {ob:HO} (I:Inv X pins σ H s) (mu:Mut (H a)) (hs:Heap.SameBut a s.heap h') (he:∃q,h'.get? a=some q) (new:dC X.prog X.w (upd H a ob) h' a ob):
  Inv X pins σ (upd H a ob) { s with heap:=h',toks:=t' }:=
 I.write (x:=a) (e:=a) mu (.inl rfl) (fun b q hb z=>(hs.2 b hb).trans z) he new
theorem dk_new {P:Program} {w:World} {H':Hp} {h':Heap} {kvs:List (Key×V)} {vs:List (Key×Value)} (z:kvs.length≤sizeLine) (hd:(a == sysModules)=false) (rel:KV kvs vs) (dd:h'.DictOf (cX P w) a vs):
  dC P w H' h' a (.dK kvs):=⟨z,hd,vs,rel,dd⟩
theorem d_setItem {H':Hp} {Q:Unit→Shared→Prop} (hu:A.units+1 <cLine) (I:Inv X pins σ H s) (g:sG H a y v H') (ry:RelV y u) (rv:RelV v r) (h:∀s',Inv X pins σ H' s'→Q () s'):
  wpAny (model X.prog X.w) A (setItem (.ref a) u r) Q E s:=by
 rcases g with ⟨kvs,k,e,ey,l,eH⟩ | ⟨kvs,k,b,e,ey,eb,l,eH⟩
 ·subst ey eH
  obtain⟨z,hd,vs,rel,dd⟩:=dk_of I.hok e
  have hz:vs.length≤sizeLine:=by rw [←rel.length];exact z
  have hl:(putK kvs k v).length≤sizeLine:=by have:=m6 kvs k v;omega
  refine wpAny_setItem_pairs (hsz:=hz) (Bx ry) dd fun h' dd' hs=>h _ ?_
  have he:∃q,h'.get? a=some q:=let ⟨q,_,_,hq,_⟩:=dd';⟨q,hq⟩
  exact d_write I (by rw [e];exact True.intro) hs he (dk_new hl hd (rel.put k rv) dd')
 ·subst ey eH
  cases (show u=Value.ref b from ry)
  obtain⟨z,hd,xs,rel,dd⟩:=dt_of I.hok e
  have hz:xs.length≤sizeLine:=by rw [←Paired.length rel];exact z
  have hl:(putK kvs k v).length≤sizeLine:=by have:=m6 kvs k v;omega
  refine wpAny_setItem_heap (hsz:=hz) (tupleKind_room_in1 hu) (zJ I.hok eb) dd fun h' dd' hs=>h _ ?_
  obtain⟨q,es,ep,hq,h2,h3,h4,_,h5⟩:=dd'
  refine d_write I (by rw [e];exact True.intro) hs ⟨q,hq⟩ ⟨hl,hd,_,(rel.put k eb rv).keeps fun c ys ec=>?_,q,es,ep,hq,h2,h3,h4,h5⟩
  rw [aH (uA ec e (fun z=>nomatch z))]
  exact ec
end
section
variable {X:Cx} {pins:List (Addr×Obj)} {σ:St} {H:Hp} {s:Shared} {a:Addr} {kvs:List (Key×V)} {k:Key} {u:Value} {A:Around} {E:Value→Shared→Prop}
end
def NoSl (i:Expr):Prop:=∀ov iv,subscripted i false ov iv=operate [ov,iv] (getItem ov iv)
theorem subD_of {prog:Program} {w:World} {A:Around} {E:Value→Shared→Prop} {s:Shared} {env:Env} {value slice:Expr} {pos:Pos} {T id:String} {Q:Value→Shared→Prop}
  (hl:typeLookup (.type T) "__getitem__" =pure (some (.builtin id))) (hs:NoSl slice)
  (h:wpAny (model prog w) A (eval value env) (fun o s₁=>wpAny (model prog w) A (eval slice env) (fun i s₂=>s₂.TypeIs o T∧wpAny (model prog w) A (getItem o i) Q E s₂) E s₁) E s):
  wpAny (model prog w) A (eval (.Subscript value slice pos) env) Q E s:=by
 refine Subscript_ (wpAny_mono h (fun o s₁ h₁=>wpAny_mono h₁ (fun i s₂ h₂=>?_) fun _ _ x=>x) fun _ _ x=>x)
 obtain⟨hT,h₂⟩:=h₂
 unfold subscriptTail
 refine wpAny_bind ?_
 rw [getitemInPython_of_ne hT.not_modules]
 refine wpAny_bind (wpAny_specialOf hT hl ?_)
 have fin:wpAny (model prog w) A (subscripted slice false o i) (fun r s₃=>wpAny (model prog w) A (letTemporaryGo value o r >>= fun _=>pure r) Q E s₃) E s₂:=by
  rw [hs o i]
  exact wpAny_operating (wpAny_mono h₂ (fun r s₃ h₃=>wpAny_bind (wpAny_letTemporaryGo (wpAny_pure h₃))) fun _ _ x=>x)
 first
  | exact wpAny_pure (wpAny_bind fin)
  | exact wpAny_bind (wpAny_pure (wpAny_bind fin))
  | exact wpAny_bind fin
theorem dict_typeIs {X:Cx} {pins:List (Addr×Obj)} {σ:St} {H:Hp} {s:Shared} {a:Addr} {y:V} {o:Option V} (I:Inv X pins σ H s) (g:ji H a y o):s.TypeIs (.ref a) "dict" :=by
 rcases g with ⟨kvs,k,e,_,_⟩ | ⟨kvs,k,b,e,_,_,_⟩
 ·obtain⟨_,_,vs,_,dd⟩:=yx I.hok e
  exact dd.typeIs
 ·obtain⟨_,_,xs,_,dd⟩:=Bo I.hok e
  exact dd.typeIs
def tDGet (td ty:TE):TE:=fun σ H Q=>td σ H fun x H1=>ty σ H1 fun y H2=>∃a v,x=.ref a∧ji H2 a y (some v)∧Q v H2
def tDIn (ty td:TE):TE:=fun σ H Q=>ty σ H fun y H1=>td σ H1 fun x H2=>∃a o,x=.ref a∧ji H2 a y o∧Q (.bl o.isSome) H2
def tDNotIn (ty td:TE):TE:=fun σ H Q=>ty σ H fun y H1=>td σ H1 fun x H2=>∃a o,x=.ref a∧ji H2 a y o∧Q (.bl (!o.isSome)) H2
def sDPut (td ty tv:TE):TS:=fun D σ H=>tv σ H fun v H1=>td σ H1 fun x H2=>ty σ H2 fun y H3=>∃a H4,x=.ref a∧sG H3 a y v H4∧D.nx σ H4
def sDAug (td ty tv:TE) (rd:V→V→Hp→VK→Prop):TS:=fun D σ H=>td σ H fun x H1=>ty σ H1 fun y H2=>∃a v,x=.ref a∧ji H2 a y (some v)∧
 tv σ H2 fun y2 H3=>rd v y2 H3 fun z H4=>∃H5,sG H4 a y z H5∧D.nx σ H5
section
variable {X:Cx} {o i e value:Expr} {pos pos' tpos:Pos} {td ty tv:TE}
theorem dD (hu:X.A.units+1 <cLine) (ho:PE X o td) (hi:PE X i ty) (hs:NoSl i):PE X (.Subscript o i pos) (tDGet td ty):=by
 intro pins s σ H Q I h
 refine subD_of PySem.F.slot_dict_getitem.lookup hs (thn (ho pins s σ H _ I h) fun u s1 ⟨x,H1,I1,rx,q1⟩=>thn (hi pins s1 σ H1 _ I1 q1) fun iv s2 hpt=>?_)
 obtain⟨y,H2,I2,ry,a,v,ex,g,q2⟩:=hpt
 subst ex
 obtain rfl:u=Value.ref a:=rx
 exact⟨dict_typeIs I2 g,d_getItem hu I2 g ry fun w' s3 I3 rw'=>⟨v,H2,I3,rw',q2⟩⟩
theorem Bg (hu:X.A.units+1 <cLine) (hi:PE X i ty) (ho:PE X o td):PC X .In i o (tDIn ty td):=by
 intro pins s σ H Q I h
 refine thn (hi pins s σ H _ I h) fun iv s1 ⟨y,H1,I1,ry,q1⟩=>thn (ho pins s1 σ H1 _ I1 q1) fun u s2 hpt=>?_
 obtain⟨x,H2,I2,rx,a,ov,ex,g,q2⟩:=hpt
 subst ex
 obtain rfl:u=Value.ref a:=rx
 exact d_in hu I2 g ry fun s3 I3=>⟨.bl ov.isSome,H2,I3,rfl,q2⟩
theorem wA (hu:X.A.units+1 <cLine) (hi:PE X i ty) (ho:PE X o td):PC X .NotIn i o (tDNotIn ty td):=by
 intro pins s σ H Q I h
 refine thn (hi pins s σ H _ I h) fun iv s1 ⟨y,H1,I1,ry,q1⟩=>thn (ho pins s1 σ H1 _ I1 q1) fun u s2 hpt=>?_
 obtain⟨x,H2,I2,rx,a,ov,ex,g,q2⟩:=hpt
 subst ex
 obtain rfl:u=Value.ref a:=rx
 exact d_notIn hu I2 g ry fun s3 I3=>⟨.bl (!ov.isSome),H2,I3,rfl,q2⟩
theorem jL (hu:X.A.units+1 <cLine) (ho:PE X o td) (hi:PE X i ty) (hv:PE X value tv) (hs:swapsWith value (some (.Subscript o i pos')) pos.line X.env=pure false):
  PS X (.Assign [.Subscript o i pos'] value pos) (sDPut td ty tv):=by
 intro pins s σ H D I h
 refine wpAny_Assign_Subscript (thn (hv pins s σ H _ I h) fun r s1 ⟨v,H1,I1,rv,q1⟩=>thn (ho pins s1 σ H1 _ I1 q1) fun u s2 ⟨x,H2,I2,rx,q2⟩=>thn (hi pins s2 σ H2 _ I2 q2) fun iv s3 hpt=>?_) hs
 obtain⟨y,H3,I3,ry,a,H4,ex,g,q3⟩:=hpt
 subst ex
 obtain rfl:u=Value.ref a:=rx
 exact d_setItem hu I3 g ry rv fun s4 I4=>⟨σ,H4,I4,q3⟩
theorem ps_daug {op:Operator} {rd:V→V→Hp→VK→Prop} (hu:X.A.units+1 <cLine) (ho:PE X o td) (hi:PE X i ty) (hv:PE X value tv) (hop:InOp X op rd)
  (ha:∀ov iv new,augStore i ov iv new=(do holding [new,ov,iv] (setItem ov iv new);release [new,ov,iv] [];pure .next)):PS X (.AugAssign (.Subscript o i tpos) op value pos) (sDAug td ty tv rd):=by
 intro pins s σ H D I h
 refine wpAny_AugAssign_SubscriptAny (thn (ho pins s σ H _ I h) fun u s1 ⟨x,H1,I1,rx,q1⟩=>thn (hi pins s1 σ H1 _ I1 q1) fun iv s2 hpt=>?_) ha
 obtain⟨y,H2,I2,ry,a,v,ex,g,q2⟩:=hpt
 subst ex
 obtain rfl:u=Value.ref a:=rx
 refine d_getItem hu I2 g ry fun w' s3 I3 rw'=>thn (hv pins s3 σ H2 _ I3 q2) fun w2 s4 ⟨y2,H3,I4,ry2,q3⟩=>thn (hop pins s4 σ H3 v y2 w' w2 _ I4 rw' ry2 q3) fun w3 s5 hpt=>?_
 obtain⟨z,H4,I5,rz,H5,g5,q4⟩:=hpt
 exact d_setItem hu I5 g5 ry rz fun s6 I6=>⟨σ,H5,I6,q4⟩
end
theorem dk_empty {P:Program} {w:World} {H:Hp} (h:Heap) (hb:sysModules <h.objs.size):dC P w H (h.push { cls:=.type "dict",data:=.dict #[] }) h.objs.size (.dK []):=
 ⟨Nat.zero_le _,beq_eq_false_iff_ne.mpr (Ne.symm (Nat.ne_of_lt hb)),[],.nil,Heap.DictOf.new h⟩
def tDNewK:TE:=fun _ H Q=>∀p,H p=none→Q (.ref p) (upd H p (.dK []))
section
variable {X:Cx} {pos:Pos}
theorem jC:PE X (.Dict [] [] pos) tDNewK:=fun pins s σ H Q I h=>
 wpAny_Dict_empty ⟨.ref s.heap.objs.size,_,I.laid (a:=s.heap.objs.size) (o:=.dK []) (t':=s.toks) (fun _ _ q=>Heap.get?_push_of_some _ q) (Nat.le_refl _) (dk_empty s.heap I.big),rfl,h _ (I.hok.fresh (Nat.le_refl _))⟩
end
def tPairs:List (TE×TE)→St→Hp→(List (V×V)→Hp→Prop)→Prop
 | [],_,H,Q=>Q [] H
 | (tk,tv):: r,σ,H,Q=>tk σ H fun x H1=>tv σ H1 fun y H2=>tPairs r σ H2 fun ps H3=>Q ((x,y):: ps) H3
abbrev VV:List (V×V)→List (Value×Value)→Prop:=Paired fun p q=>RelV p.1 q.1∧RelV p.2 q.2
def PPs (X:Cx) (pos:Pos) (keys:List (Option Expr)) (values:List Expr) (trs:List (TE×TE)):Prop:=
 ∀(pins:List (Addr×Obj)) (s:Shared) (σ:St) (H:Hp) (Q:List (V×V)→Hp→Prop),Inv X pins σ H s→tPairs trs σ H Q→
  wpAny (model X.prog X.w) X.A (evalPairs (pairTrees keys values X.env pos)) (fun vs s'=>∃ps H',Inv X pins σ H' s'∧VV ps vs∧Q ps H') X.xe s
theorem pps_nil {X:Cx} {pos:Pos}:PPs X pos [] [] []:=fun pins s σ H Q I h=>pairTrees_nil_walk ⟨[],H,I,.nil,h⟩
theorem pps_cons {X:Cx} {pos:Pos} {k v:Expr} {ks:List (Option Expr)} {vs:List Expr} {tk tv:TE} {trs:List (TE×TE)} (hk:PE X k tk) (hv:PE X v tv) (hr:PPs X pos ks vs trs):
  PPs X pos (some k:: ks) (v:: vs) ((tk,tv):: trs):=fun pins s σ H Q I h=>
 pairTrees_cons_walk (thn (hk pins s σ H _ I h) fun u s1 ⟨x,H1,I1,rx,q1⟩=>thn (hv pins s1 σ H1 _ I1 q1) fun w2 s2 ⟨y,H2,I2,ry,q2⟩=>
  thn (hr pins s2 σ H2 _ I2 q2) fun ws s3 ⟨ps,H3,I3,rel,q3⟩=>⟨(x,y):: ps,H3,I3,.cons ⟨rx,ry⟩ rel,q3⟩)
def uC (kvs more:List (Key×V)):List (Key×V):=more.foldl (fun acc kv=>putK acc kv.1 kv.2) kvs
theorem KV.merge:∀{more:List (Key×V)} {rs:List (Key×Value)} {kvs:List (Key×V)} {vs:List (Key×Value)},KV more rs→KV kvs vs→KV (uC kvs more) (merged vs rs):=by
 intro more rs kvs vs r
 unfold KV at r
 induction r generalizing kvs vs with
 | nil=>intro q;exact q
 | @cons p q ps qs h t ih=>
  intro r0
  have e:KV (putK kvs p.1 p.2) (stored vs q.1 q.2):=by
   have:=r0.put p.1 h.2
   rw [←h.1];exact this
  exact ih e
theorem wU:∀(more kvs:List (Key×V)),(uC kvs more).length≤kvs.length+more.length
 | [],kvs=>by show kvs.length≤kvs.length+0;omega
 | p:: r,kvs=>by
  have h1:=wU r (putK kvs p.1 p.2)
  have h2:=m6 kvs p.1 p.2
  show(uC (putK kvs p.1 p.2) r).length≤_
  rw [List.length_cons];omega
theorem Bs {P:Program} {w:World}:∀{kvs:List (Key×V)} {ws:List (Value×Value)},VV (kvs.map fun kv=>(kV kv.1,kv.2)) ws→∃rs,Carries (cX P w) ws rs∧KV kvs rs
 | [],_,r=>by rw [List.map_nil] at r;cases r;exact⟨[],True.intro,.nil⟩
 | p:: kvs,_,r=>by
  rw [List.map_cons] at r
  cases r with
  | @cons a b as bs h t=>
   obtain⟨rs,c,q⟩:=Bs (P:=P) (w:=w) t
   obtain⟨b1,b2⟩:=b
   exact⟨(p.1,b2):: rs,⟨Bx h.1,rfl,c⟩,.cons ⟨rfl,h.2⟩ q⟩
def tDisp (trs:List (TE×TE)):TE:=fun σ H Q=>∀p,H p=none→tPairs trs σ (upd H p (.dK [])) fun ps H2=>H2 p=some (.dK [])∧∃kvs:List (Key×V),ps=kvs.map (fun kv=>(kV kv.1,kv.2))∧kvs.length≤15∧Q (.ref p) (upd H2 p (.dK (uC [] kvs)))
theorem pe_disp {X:Cx} {pos:Pos} {keys:List (Option Expr)} {values:List Expr} {trs:List (TE×TE)} (h:PPs X pos keys values trs) (hall:keys.all (·.isSome)=true) (hl:keys.length=values.length) (h0:keys≠[])
  (h15:keys.length≤15):PE X (.Dict keys values pos) (tDisp trs):=by
 intro pins s σ H Q I q
 have hn:=I.hok.fresh (Nat.le_refl s.heap.objs.size)
 have I1:=I.laid (a:=s.heap.objs.size) (o:=.dK []) (h':=s.heap.push { cls:=.type "dict",data:=.dict #[] }) (t':=s.toks) (fun _ _ q=>Heap.get?_push_of_some _ q) (Nat.le_refl _) (dk_empty s.heap I.big)
 refine wpAny_Dict_walk (knd:=cX X.prog X.w) hall hl h0 h15 (thn (h pins _ σ _ _ I1 (q _ hn)) fun ws s2 hpt=>?_)
 obtain⟨ps,H2,I2,rel,e,kvs,ep,lk,q2⟩:=hpt
 subst ep
 obtain⟨rs,c,rk⟩:=Bs (P:=X.prog) (w:=X.w) rel
 obtain⟨z,hd,vs0,r0,dd⟩:=dk_of I2.hok e
 cases r0
 refine⟨rs,c,dd,fun h' dd' hs=>⟨.ref s.heap.objs.size,_,?_,rfl,q2⟩⟩
 have hz:(uC [] kvs).length≤sizeLine:=by
  have h1:=wU kvs []
  rw [List.length_nil] at h1
  rw [sizeLine_eq];omega
 have he:∃q,h'.get? s.heap.objs.size=some q:=let ⟨q,_,_,hq,_⟩:=dd';⟨q,hq⟩
 exact d_write I2 (by rw [e];exact True.intro) hs he (dk_new hz hd (rk.merge .nil) dd')
structure M2 (X:Cx) (o:Expr) (m:Str) (apos:Pos) (e f:Expr) (cpos:Pos):Prop where
 base:attributeBase o m X.env (eval o X.env)=eval o X.env
 few:((backTo cpos (starEach [e,f] X.env)).all (fun x=>!x.1) && (backToKw cpos (keywordEach [] X.env)).all (fun x=>x.1.isSome)
  && decide (([e,f]:List Expr).length+([]:List Keyword).length+(if ([]:List Keyword).isEmpty then 0 else 1) <30))=true
 line:(apos.endLine == cpos.line)=true
 trees:backTo cpos (starEach [e,f] X.env)=[(false,eval e X.env),(false,eval f X.env)]
def IsD (H:Hp) (a:Addr):Prop:=(∃kvs,Rd H a (.dK kvs))∨∃kvs,Rd H a (.dT kvs)
theorem isD_at {X:Cx} {pins:List (Addr×Obj)} {σ:St} {H:Hp} {s:Shared} {a:Addr} (I:Inv X pins σ H s) (d:IsD H a):
  s.TypeIs (.ref a) "dict" ∧(∀b,Value.ref a=.ref b→∃ob,s.heap.get? b=some ob∧ob.dict=none)∧(a == sysModules)=false:=by
 rcases d with ⟨kvs,e⟩ | ⟨kvs,e⟩
 ·obtain⟨_,hd,vs,_,dd⟩:=yx I.hok e
  refine⟨dd.typeIs,fun b q=>?_,hd⟩
  cases q
  obtain⟨ob,_,_,h1,h2,_⟩:=dd
  exact⟨ob,h1,h2.2.1⟩
 ·obtain⟨_,hd,xs,_,dd⟩:=Bo I.hok e
  refine⟨dd.typeIs,fun b q=>?_,hd⟩
  cases q
  obtain⟨ob,_,_,h1,h2,_⟩:=dd
  exact⟨ob,h1,h2.2.1⟩
section
variable {X:Cx} {pins:List (Addr×Obj)} {σ:St} {H:Hp} {s:Shared} {a:Addr} {y d:V} {u r:Value} {o:Option V} {A:Around} {E:Value→Shared→Prop}
theorem d_get2 {Q:Value→Shared→Prop} (hu:A.units+1 <cLine) (I:Inv X pins σ H s) (g:ji H a y o) (ry:RelV y u) (rd:RelV d r) (h:∀w' s',Inv X pins σ H s'→RelV (o.getD d) w'→Q w' s'):
  wpAny (model X.prog X.w) A (call (.builtin "dict.get") [.ref a,u,r]) Q E s:=by
 rcases g with ⟨kvs,k,e,ey,l⟩ | ⟨kvs,k,b,e,ey,eb,l⟩
 ·subst ey
  obtain⟨z,hd,vs,rel,dd⟩:=yx I.hok e
  refine call_meetsIn PySem.F.slot_dict_get dd.typeIs PySem.F.entry_dict_get (PySem.F.args_dict_get_3 _ _ _) (meets_dict_get_default (cX X.prog X.w) a (Bx ry) hd r) ⟨_,dd.mapOf,h _ _ (I.tok _) ?_⟩
  rw [l]
  exact(rel.val k).getD rd
 ·subst ey
  cases (show u=Value.ref b from ry)
  obtain⟨z,hd,xs,rel,dd⟩:=Bo I.hok e
  refine call_meetsIn PySem.F.slot_dict_get dd.typeIs PySem.F.entry_dict_get (PySem.F.args_dict_get_3 _ _ _) (meetsH_dict_get_default (tupleKind (cX X.prog X.w)) a b hd r) ⟨tupleKind_room_in1 hu,k,xs,zJ I.hok eb,dd,h _ _ (I.tok _) ?_⟩
  rw [l]
  exact(rel.val k).getD rd
end
def tDGet2 (td ty tx:TE):TE:=fun σ H Q=>td σ H fun x H1=>∃a,x=.ref a∧IsD H1 a∧ty σ H1 fun y H2=>tx σ H2 fun z H3=>∃o,ji H3 a y o∧Q (o.getD z) H3
section
variable {X:Cx} {o e f:Expr} {apos cpos:Pos} {td ty tx:TE}
theorem pe_dget2 (hu:X.A.units+1 <cLine) (ho:PE X o td) (he:PE X e ty) (hf:PE X f tx) (m:M2 X o "get" apos e f cpos):PE X (.Call (.Attribute o "get" apos) [e,f] [] cpos) (tDGet2 td ty tx):=by
 intro pins s σ H Q I h
 refine wpAny_Call_method m.base m.few m.line PySem.F.plainAttrs_dict PySem.F.slot_dict_get PySem.F.type_dict_get (thn (ho pins s σ H _ I h) fun u s1 hpt=>?_)
 obtain⟨x,H1,I1,rx,a,ex,d,q1⟩:=hpt
 subst ex
 obtain rfl:u=Value.ref a:=rx
 obtain⟨t1,t2,_⟩:=isD_at I1 d
 refine⟨t1,t2,?_⟩
 rw [m.trees]
 refine Calls.callWith_builtin rfl (Calls.evalArgs_plain (Calls.spliced_cons (thn (he pins s1 σ H1 _ I1 q1) fun iv s2 ⟨y,H2,I2,ry,q2⟩=>
  Calls.spliced_cons (thn (hf pins s2 σ H2 _ I2 q2) fun fv s3 ⟨z,H3,I3,rz,ov,g,q3⟩=>Calls.spliced_nil ?_))))
 exact d_get2 hu I3 g ry rz fun w' s4 I4 rw'=>⟨_,H3,I4,rw',q3⟩
end
section
variable {X:Cx} {pins:List (Addr×Obj)} {σ:St} {H:Hp} {s:Shared} {a:Addr} {kvs:List (Key×V)} {A:Around} {E:Value→Shared→Prop}
theorem d_copyOf {Q:Value→Shared→Prop} (I:Inv X pins σ H s) (e:Rd H a (.dK kvs)) (h:∀p s',H p=none→Inv X pins σ (upd H p (.dK kvs)) s'→Q (.ref p) s'):wpAny (model X.prog X.w) A (call (.type "dict") [.ref a]) Q E s:=by
 obtain⟨z,hd,vs,rel,dd⟩:=yx I.hok e
 refine kt_call_dict hd dd (by rw [←rel.length];exact z) fun h' dd' hs=>?_
 refine h _ _ (I.hok.fresh (Nat.le_refl _)) (I.laid (a:=s.heap.objs.size) (o:=.dK kvs) (t':=s.toks) (fun b q hq=>?_) (Nat.le_refl _) (dk_new z (beq_eq_false_iff_ne.mpr (Ne.symm (Nat.ne_of_lt I.big))) rel dd'))
 exact(hs.2 b (Nat.ne_of_lt (Heap.lt_size hq))).trans (Heap.get?_push_of_some _ hq)
end
section
variable {X:Cx} {pins:List (Addr×Obj)} {σ:St} {H:Hp} {s:Shared} {a:Addr} {y:V} {u:Value} {A:Around} {E:Value→Shared→Prop}
end
end L2
set_option Elab.async false
set_option linter.all false
set_option maxRecDepth 100000
set_option Elab.async false
set_option maxHeartbeats 4000000
namespace L2
open PySem PySem.Spec PyProof.Rows
section
variable {X:Cx} {pins:List (Addr×Obj)} {σ:St} {H:Hp} {s:Shared} {d:Addr} {kvs:List (Key×V)}
theorem Inv.chill (I:Inv X pins σ H s) (e:H d=some (.dK kvs)):∃o,s.heap.get? d=some o∧Inv X pins σ (upd H d (.frz o (.dK kvs))) s:=by
 obtain⟨z,hd,vs,rel,o,es,ep,ho,r⟩:=(show dC X.prog X.w H s.heap d (.dK kvs) from I.hok d _ e)
 refine⟨o,ho,?_⟩
 have:=I.write (x:=d) (e:=d) (o:=.frz o (.dK kvs)) (h':=s.heap) (t':=s.toks) (by rw [e];exact True.intro) (.inl rfl) (fun b u _ q=>q) ⟨o,ho⟩ ⟨ho,z,hd,vs,rel,o,es,ep,ho,r⟩
 exact this
theorem Inv.melt {o:Obj} (I:Inv X pins σ H s) (e:H d=some (.frz o (.dK kvs))) (h0:∀o u,X.H₀ d≠some (.frz o u)):Inv X pins σ (upd H d (.dK kvs)) s:=by
 have ne:∀b u,H b=some u→(∀o v,u≠.frz o v)→b≠d:=fun b u q n z=>by
  rw [z,e] at q
  exact n _ _ (Option.some.inj q).symm
 have no:∀b,H b=none→b≠d:=fun b q z=>by rw [z,e] at q;cases q
 refine⟨I.ok,I.os,I.bare,⟨I.base.keep,I.base.slot,fun b u q n hx=>?_,I.base.there,fun b xs q=>?_,fun b u v q=>?_,fun b ps q=>?_⟩,I.loc,I.cell,?_,fun y c q=>?_,fun p h=>?_,fun b u q=>?_,I.len⟩
 ·have z:=I.base.free b u q n hx
  rw [aH (no b z)];exact z
 ·have z:=I.base.tups b xs q
  rw [aH (ne b _ z (by intro _ _ w;cases w))];exact z
 ·have z:=I.base.frzs b u v q
  rw [aH (fun w=>by rw [w] at q;exact h0 _ _ q)];exact z
 ·obtain⟨m,z⟩:=I.base.tbls b ps q
  exact⟨m,by rw [aH (ne b _ z (by intro _ _ w;cases w))];exact z⟩
 ·rw [aH (no _ I.free)];exact I.free
 ·rw [aH (no _ (I.freeC y c q))];exact I.freeC y c q
 ·obtain⟨z1,z2,r⟩:=I.pin p h
  exact⟨z1,by rw [aH (no _ z2)];exact z2,r⟩
 ·by_cases w:b=d
  ·subst w
   rw [au] at q
   cases q
   exact(I.hok b _ e).2
  ·rw [aH w] at q
   exact(I.hok b u q).stay (fun _ _ _ z=>z) (fun c z=>by rw [aH (ne c _ z (by intro _ _ w;cases w))];exact z) fun c xs z=>by rw [aH (ne c _ z (by intro _ _ w;cases w))];exact z
end
def Melt (H0 H H':Hp):Prop:=∃d o kvs,H d=some (.frz o (.dK kvs))∧(∀o u,H0 d≠some (.frz o u))∧H'=upd H d (.dK kvs)
section
variable {X:Cx} {H0:Hp} {st:Stmt} {sts:List Stmt} {e:Expr} {t:TS} {te:TE}
theorem ps_melt (hH:X.H₀=H0) (h:PS X st t):PS X st (fun D σ H=>∃H',Melt H0 H H'∧t D σ H'):=by
 subst hH
 intro pins s σ H D I hh
 obtain⟨H',⟨d,o,kvs,e,n,rfl⟩,q⟩:=hh
 exact h pins s σ _ D (I.melt e n) q
theorem nG (hH:X.H₀=H0) (h:PS X st t):PS X st (fun D σ H=>t { D with nx:=fun σ' H'=>∃H'',Melt H0 H' H''∧D.nx σ' H'' } σ H):=by
 subst hH
 intro pins s σ H D I hh
 refine thn (h pins s σ H _ I hh) fun f s1 q=>?_
 cases f with
 | next=>obtain⟨σ',H',I',H'',⟨d,o,kvs,e,n,rfl⟩,q⟩:=q;exact⟨σ',_,I'.melt e n,q⟩
 | ret v=>exact q
 | brk=>exact q
 | cont=>exact q
theorem pe_melt (hH:X.H₀=H0) (h:PE X e te):PE X e (fun σ H Q=>te σ H fun v H1=>∃H2,Melt H0 H1 H2∧Q v H2):=by
 subst hH
 intro pins s σ H Q I hh
 refine thn (h pins s σ H _ I hh) fun u s1 q=>?_
 obtain⟨v,H1,I1,r,H2,⟨d,o,kvs,e,n,rfl⟩,q⟩:=q
 exact⟨v,_,I1.melt e n,r,q⟩
end
def Itd (d:Addr) (o:Obj) (kvs:List (Key×V)):It:=
 ⟨fun i H=>H d=some (.frz o (.dK kvs))∧i <kvs.length,fun i H x H'=>H'=H∧∃k v,kvs[i]?=some (k,v)∧x=kV k,fun i H=>H d=some (.frz o (.dK kvs))∧kvs.length≤i⟩
theorem kV_rel {P:Program} {w:World} {k:Key} {u:Value} (h:(cX P w).is k u=true):RelV (kV k) u:=by
 rcases eV (k:=k) (v:=u) h with ⟨i,t,rfl,rfl⟩ | ⟨x,t,rfl,rfl⟩
 ·exact⟨t,rfl⟩
 ·exact⟨t,rfl⟩
theorem kv_get:∀{kvs:List (Key×V)} {vs:List (Key×Value)} {i:Nat} {k:Key} {v:V},KV kvs vs→kvs[i]?=some (k,v)→∃v',vs[i]?=some (k,v')
 | _,_,0,k,v,.cons h _,e=>by
  cases (Option.some.inj e)
  exact⟨_,by rw [List.getElem?_cons_zero,show k=_ from h.1]⟩
 | _,_,i+1,k,v,.cons _ t,e=>by
  obtain⟨v',z⟩:=kv_get (i:=i) (k:=k) (v:=v) t (by simpa using e)
  exact⟨v',by simpa using z⟩
theorem turn_dict {P:Program} {w:World} {K:PySem.W.Frag} {tg:Expr} {d it:Addr} {o:Obj} {kvs:List (Key×V)} {vs:List (Key×Value)} {ep:Nat} (rel:KV kvs vs) (hD:∀h:Heap,h.get? d=some o→h.DictAt (cX P w) d vs ep):
  Turn P w K tg (Itd d o kvs) [it] it (fun i h=>h.IsKeyIter it d i vs.length ep) where
 mem:=by simp
 obj:=fun i h st b hb=>by
  have e:b=it:=by simpa using hb
  subst e
  obtain⟨o,e,c,d⟩:=st
  exact⟨o,e,fun v z=>by rw [d] at z;cases z⟩
 keep:=fun i h h' st k=>st.at fun o e=>k it (by simp) o e
 item:=by
  intro X hP hw hK hc i pins s σ H E I hf st hg
  subst hP hw hK
  obtain⟨hq,hi⟩:=hg
  obtain⟨f0,f1,f2,f3,f4,f5⟩:=hf it (by simp)
  have ho:s.heap.get? d=some o:=(I.hok d _ hq).1
  have hl:kvs.length=vs.length:=Paired.length rel
  obtain⟨k,v,ek⟩:∃k v,kvs[i]?=some (k,v):=⟨_,_,List.getElem?_eq_getElem hi⟩
  obtain⟨v',ev⟩:=kv_get rel ek
  refine wpAny_pyNext_dict_item st (hD _ ho) ev fun key h' hk st' sb=>?_
  have I1:Inv X pins σ H { s with heap:=h' }:=I.turned (t':=s.toks) (fun b o hb e=>(sb.2 b hb).trans e) f0 f1 f3 f4 f5
  obtain⟨o',e,c,dd⟩:=id st'
  exact⟨key,rfl,go_of (s:={ s with heap:=h' }) e c dd (by decide) ⟨kV k,H,I1,kV_rel hk,⟨rfl,k,v,ek,rfl⟩,st',fun b hb=>(hf b hb).1⟩⟩
 done:=by
  intro X hP hw hK hc i pins s σ H E I hf st hg
  subst hP hw hK
  obtain⟨hq,hi⟩:=hg
  obtain⟨f0,f1,f2,f3,f4,f5⟩:=hf it (by simp)
  have ho:s.heap.get? d=some o:=(I.hok d _ hq).1
  have hl:kvs.length=vs.length:=Paired.length rel
  exact wpAny_pyNext_dict_end (I.ok.hd hc) st (hD _ ho) (List.getElem?_eq_none (by omega)) fun h' eb=>⟨rfl,I.turned (t':=s.toks) (fun b o hb e=>eb b o hb e) f0 f1 f3 f4 f5⟩
 self:=fun _ _ _ _ _ st h=>wpAny_pyIter_keyiter st h
def iDict (td:TE):TI:=fun σ H R=>td σ H fun x H1=>∃d kvs,x=.ref d∧H1 d=some (.dK kvs)∧∀o,R (Itd d o kvs) (upd H1 d (.frz o (.dK kvs)))
theorem oW {X:Cx} {tg l:Expr} {td:TE} (hl:PE X l td):PI X tg l (iDict td):=by
 intro pins s σ H R I h
 refine thn (hl pins s σ H _ I h) fun v s1 hpt=>?_
 obtain⟨x,H1,I1,r1,q1⟩:=hpt
 obtain⟨d,kvs,e,ed,q⟩:=q1
 subst e
 cases r1
 obtain⟨_,hd,vs,rel,o0,es,ep,ho0,r⟩:=(show dC X.prog X.w H1 s1.heap d (.dK kvs) from I1.hok d _ ed)
 obtain⟨o,ho,I2⟩:=I1.chill ed
 obtain rfl:o0=o:=Option.some.inj (ho0.symm.trans ho)
 have hD:∀h:Heap,h.get? d=some o0→h.DictAt (cX X.prog X.w) d vs ep:=fun h z=>⟨o0,es,z,r⟩
 refine wpAny_pyIter_dict hd (hD _ ho) ?_
 refine⟨s1.heap.objs.size,[s1.heap.objs.size],_,_,_,rfl,I2.kept (t':=s1.toks) fun b o e=>Heap.get?_push_of_some _ e,turn_dict rel hD,⟨_,Heap.get?_push_size _ rfl,rfl,rfl⟩,fun b hb=>?_,q o0⟩
 have e:b=s1.heap.objs.size:=by simpa using hb
 subst e
 exact I2.fpOk (Nat.le_refl _) (I2.hok.fresh (Nat.le_refl _))
theorem rG {d:Addr} {o:Obj} {kvs:List (Key×V)} {g:TG} {tb:TS} {D:Ends} {σ:St} {H:Hp} (Pv:Nat→St→Hp→Prop) (h0:Pv 0 σ H) (hl:∀i σ H,i≤kvs.length→Pv i σ H→H d=some (.frz o (.dK kvs)))
  (hs:∀i k v σ H,kvs[i]?=some (k,v)→Pv i σ H→g (kV k) σ H fun σ2 H2=>tb { D with nx:=Pv (i+1),ct:=Pv (i+1),bk:=D.nx } σ2 H2) (hd:∀σ H,Pv kvs.length σ H→D.nx σ H):
  ∃W:Nat→Nat→St→Hp→Prop,(∃m,W 0 m σ H)∧∀i m σ H,W i m σ H→
   ((Itd d o kvs).stop i H∧D.nx σ H)∨((Itd d o kvs).go i H∧∃N:St→Hp→Prop,(∀σ' H',N σ' H'→∃m',m' <m∧W (i+1) m' σ' H')∧∀x H',(Itd d o kvs).yld i H x H'→g x σ H' fun σ2 H2=>tb { D with nx:=N,ct:=N,bk:=D.nx } σ2 H2):=by
 refine⟨fun i m σ H=>m=kvs.length - i∧i≤kvs.length∧Pv i σ H,⟨kvs.length,by simp,Nat.zero_le _,h0⟩,?_⟩
 rintro i m σ H ⟨rfl,hi,p⟩
 have q:=hl i σ H hi p
 by_cases hlt:i <kvs.length
 ·refine .inr ⟨⟨q,hlt⟩,Pv (i+1),fun σ' H' p'=>⟨kvs.length - (i+1),by omega,rfl,hlt,p'⟩,fun x H' y=>?_⟩
  obtain⟨rfl,k,v,ek,rfl⟩:=y
  exact hs i k v σ _ ek p
 ·obtain rfl:i=kvs.length:=by omega
  exact .inl ⟨⟨q,Nat.le_refl _⟩,hd σ H p⟩
theorem zE {js:List Nat} {tt:TT} {te:TE} {σ:St} {Qd:List V→Hp→Prop} {d:Addr} {o:Obj} {kvs:List (Key×V)} {H:Hp} (Pv:Nat→List V→Hp→Prop) (hn:kvs.length≤sizeLine) (h0:Pv 0 [] H) (hl:∀i ys H,Pv i ys H→ys.length≤i) (hq:∀i ys H,i≤kvs.length→Pv i ys H→H d=some (.frz o (.dK kvs)))
  (hs:∀i k v ys H,kvs[i]?=some (k,v)→Pv i ys H→tt (some (kV k):: eQ σ js) H fun b H4=>if b=true then te (some (kV k):: eQ σ js) H4 fun y H5=>Pv (i+1) (ys ++ [y]) H5 else Pv (i+1) ys H4)
  (hd:∀ys H,Pv kvs.length ys H→Qd ys H):CompEnd js tt te σ Qd (Itd d o kvs) H:=by
 refine⟨fun i m ys H=>m=kvs.length - i∧i≤kvs.length∧Pv i ys H,⟨kvs.length,by simp,Nat.zero_le _,h0⟩,?_⟩
 rintro i m ys H ⟨rfl,hi,p⟩
 have hlen:=hl i ys H p
 have q:=hq i ys H hi p
 by_cases hlt:i <kvs.length
 ·refine .inr ⟨⟨q,hlt⟩,by omega,Pv (i+1),fun ys' H' p'=>⟨kvs.length - (i+1),by omega,rfl,hlt,p'⟩,fun x H' y=>?_⟩
  obtain⟨rfl,k,v,ek,rfl⟩:=y
  exact hs i k v ys _ ek p
 ·obtain rfl:i=kvs.length:=by omega
  exact .inl ⟨⟨q,Nat.le_refl _⟩,by omega,hd ys H p⟩
end L2
set_option Elab.async false
set_option linter.all false
set_option maxRecDepth 100000
set_option Elab.async false
set_option maxHeartbeats 4000000
namespace L2
open PySem PySem.Spec PyProof.Rows
theorem zP:∀{xs:List V} {us:List Value},us.length=xs.length→(∀(j:Nat) x u,xs[j]?=some x→us[j]?=some u→RelV x u)→Vals xs us
 | [],[],_,_=>.nil
 | [],_:: _,h,_=>by simp at h
 | _:: _,[],h,_=>by simp at h
 | x:: xs,u:: us,h,r=>.cons (r 0 x u rfl rfl) (zP (by simpa using h) fun j y v h1 h2=>r (j+1) y v (by simpa using h1) (by simpa using h2))
theorem pU {X:Cx} (hc:X.calm=true):qK X (.type "list") (fun xs H Q=>∃d kvs,xs=[.ref d]∧Rd H d (.dK kvs)∧∀l,H l=none→Q (.ref l) (upd H l (.lst (kvs.map fun p=>kV p.1)))):=by
 intro pins s σ H xs us Q I rx h
 obtain⟨d,kvs,rfl,hr,q⟩:=h
 obtain⟨u,rfl,ru⟩:=vals1 rx
 cases ru
 obtain⟨z,hd,vs,rel,dd⟩:=yx I.hok hr
 obtain⟨ep,da⟩:=dd.dictAt
 have hl:kvs.length=vs.length:=Paired.length rel
 refine PySem.W.kdl_call (PySem.W.kdl_dict (knd:=cX X.prog X.w) (kvs:=vs) (ep:=ep) hd) (I.ok.hd hc) da (by omega) fun h' tk acc' c' kp e' hi=>?_
 refine⟨.ref s.heap.objs.size,_,I.laid (t':=tk) kp (Nat.le_refl _) (show dC X.prog X.w _ h' _ (.lst (kvs.map fun p=>kV p.1)) from⟨by rw [List.length_map];exact z,acc'.toList,c',zP (by rw [Array.length_toList,hi.1,List.length_map,hl]) fun j x u hx hu=>?_,by simpa using e'⟩),rfl,q _ (I.hok.fresh (Nat.le_refl _))⟩
 obtain⟨k,v,hkv,hk⟩:=hi.2 j u (by rw [←Array.getElem?_toList];exact hu)
 rw [List.getElem?_map] at hx
 obtain⟨p,hp,rfl⟩:=Option.map_eq_some_iff.mp hx
 obtain⟨v',hv'⟩:=kv_get rel (k:=p.1) (v:=p.2) hp
 rw [hkv] at hv'
 cases hv'
 exact kV_rel hk
section
variable {X:Cx} {pins:List (Addr×Obj)} {σ:St} {H:Hp} {s:Shared}
end
end L2
set_option Elab.async false
set_option linter.all false
set_option maxRecDepth 100000
set_option Elab.async false
set_option maxHeartbeats 4000000
namespace L2
open PySem PySem.Spec PyProof.Rows
section
variable {X:Cx} {tg:Expr}
end
theorem yN {X:Cx}:qK X (.type "dict") (fun xs H Q=>∃d kvs,xs=[.ref d]∧Rd H d (.dK kvs)∧∀l,H l=none→Q (.ref l) (upd H l (.dK kvs))):=by
 intro pins s σ H xs us Q I rx h
 obtain⟨d,kvs,rfl,hr,q⟩:=h
 obtain⟨u,rfl,ru⟩:=vals1 rx
 cases ru
 exact d_copyOf I hr fun p s' hp I'=>⟨.ref p,_,I',rfl,q p hp⟩
theorem Room.u1 {k:Nat} {A:Around} (r:Room k A):A.units+1 <cLine:=by have:=r.units;omega
theorem bt_dict:bootBuiltins "dict" =some (.type "dict"):=by decide +kernel
end L2
set_option Elab.async false
set_option linter.all false
set_option maxRecDepth 100000
set_option Elab.async false
set_option maxHeartbeats 4000000
namespace L2
open PySem PySem.Spec PyProof.Rows
section
variable {prog:Program} {w:World} {A:Around} {E:Value→Shared→Prop} {s:Shared}
end
theorem Room.u100 {k:Nat} {A:Around} (r:Room k A):A.units+100 <cLine:=by have:=r.un;omega
theorem pass20 {P:Program} {w:World} {X:Cx}:oO (CX2 P w) X E0:=by
 intro pins σ H s e s' _ c
 obtain⟨_,_,_,_,_,_,_,_,_,_,_,_,_,_,z⟩:=c
 exact z.elim
end L2
set_option Elab.async false
set_option linter.all false
set_option maxRecDepth 100000
set_option Elab.async false
set_option maxHeartbeats 4000000
namespace L2
open PySem PySem.Spec PyProof.Rows
theorem pe_fldK {X:Cx} {K:PySem.W.Frag} {e:Expr} {f:Str} {pos:Pos} {ta:TE} (hK:X.K=K) (he:PE X e ta) (hb:attributeBase e f X.env (eval e X.env)=eval e X.env):PE X (.Attribute e f pos) (tFld K ta f):=by subst hK;exact cJ he hb
theorem op_in_seqK {X:Cx} {K:PySem.W.Frag} (hK:X.K=K):OpR X (compareOp .In) (rIn K false):=by subst hK;exact zj
section
variable {X:Cx} {P:Program} {w:World} {K:PySem.W.Frag} {mg:Str→Option Value} {base:Heap} {CX:CXT} {k:Nat} {E:XK} {m:Str} {pos apos:Pos} {e o:Expr} {es:List Expr} {ta:TE} {t:TA}
end
end L2
set_option Elab.async false
set_option linter.all false
set_option maxRecDepth 100000
set_option Elab.async false
set_option maxHeartbeats 4000000
namespace L2
open PySem PySem.Spec PyProof.Rows
section
variable {prog:Program} {w:World} {A:Around} {R:Result→Shared→Prop} {s:Shared}
end
section
variable {X:Cx} {tg:Expr} {g:TG} {pos:Pos} {iter elt:Expr} {ifs:List Expr} {scope:Scope} {wi:TI} {tt:TT} {te:TE}
end
end L2
set_option Elab.async false
set_option linter.all false
set_option maxRecDepth 100000
set_option Elab.async false
set_option maxHeartbeats 4000000
namespace L2
open PySem PySem.Spec PyProof.Rows
section
variable {X:Cx} {tg:Expr} {g:TG} {pos:Pos} {iter elt:Expr} {ifs:List Expr} {scope:Scope} {wi:TI} {tt:TT} {te:TE}
end
end L2
set_option Elab.async false
set_option linter.all false
set_option maxRecDepth 100000
set_option Elab.async false
set_option maxHeartbeats 4000000
namespace L2
open PySem PySem.Spec PyProof.Rows
section
variable {P:Program} {w:World} {K:PySem.W.Frag} {mg:Str→Option Value} {base:Heap} {its:Array Value}
end
end L2
namespace L2
open PySem PySem.Spec PyProof.Rows
end L2
namespace L2
open PySem PySem.Spec PyProof.Rows
end L2
namespace L2
open PySem PySem.Spec PyProof.Rows
section
variable {X:Cx} {e:Expr} {es:List Expr} {te:TE} {t:TA} {pos:Pos} {st:Stmt} {rest:List Stmt} {ts us:TS}
end
end L2
set_option Elab.async false
set_option linter.all false
set_option maxRecDepth 100000
set_option Elab.async false
set_option maxHeartbeats 4000000
namespace L2
open PySem PySem.Spec PyProof.Rows
end L2
set_option Elab.async false
set_option linter.all false
set_option maxRecDepth 100000
set_option Elab.async false
set_option maxHeartbeats 4000000
namespace L2
open PySem PySem.Spec PyProof.Rows
section
variable {X:Cx}
def isTx (z:Str):Value→Bool
 | .str y _=>y.cps.toList == z.cps.toList
 | _=>false
theorem isTx_strs {z:Str} {t:Tok}:∀{ys:List Str} {us:List Value},Vals (ys.map V.str) us→(∀u∈us,PySem.MeetsSeq.EqGives u (.str z t) (isTx z u))∧us.countP (isTx z)=ys.countP (fun y=>decide (y=z))∧∀(m:Nat) (u:Value),us[m]?=some u→∃y,ys[m]?=some y∧isTx z u=decide (y=z)
 | [],us,r=>by
  rw [List.map_nil] at r
  cases r
  exact⟨(fun _ h=>by cases h),rfl,fun m u h=>by simp at h⟩
 | y:: ys,us,r=>by
  rw [List.map_cons] at r
  cases r with
  | cons r1 r2=>
   obtain⟨t',e⟩:=r1
   subst e
   obtain⟨h1,h2,h3⟩:=isTx_strs (z:=z) (t:=t) r2
   have he:isTx z (.str y t')=decide (y=z):=by
    show(y.cps.toList == z.cps.toList)=decide (y=z)
    rw [Bool.eq_iff_iff,beq_iff_eq,decide_eq_true_eq]
    exact⟨fun h=>ext_toList h,fun h=>by rw [h]⟩
   refine⟨fun u hu=>?_,?_,fun m u hm=>?_⟩
   ·rcases List.mem_cons.mp hu with rfl | hu
    ·exact PySem.SeqRoads2.EqGives.str y z t' t
    ·exact h1 u hu
   ·rw [List.countP_cons,List.countP_cons,h2,he]
   ·cases m with
    | zero=>
     simp only [List.getElem?_cons_zero,Option.some.injEq] at hm
     subst hm
     exact⟨y,rfl,he⟩
    | succ m=>exact h3 m u (by simpa using hm)
def rIndexS:V→List V→Hp→VK→Prop:=fun x vs H Q=>∃(l:Addr) (xs:List Str) (z:Str) (j:Nat),x=.ref l∧vs=[.str z]∧H l=some (.lst (xs.map V.str))∧xs[j]?=some z∧(∀m y,m <j→xs[m]?=some y→y≠z)∧Q (.int (j:Nat)) H
theorem mt_indexS:MtM X "list.index" rIndexS:=by
 intro pins s σ H x vs v us Q I rx rv h
 obtain⟨l,xs,z,j,rfl,rfl,hH,hj,hno,q⟩:=h
 cases rx
 obtain⟨u,rfl,ru⟩:=rv.one
 obtain⟨t,rfl⟩:=ru
 obtain⟨hz,its,n,r,hl,e⟩:=I.lstM hH
 have hsz:sizeLine=16777216:=sizeLine_eq
 obtain⟨h1,_,h3⟩:=isTx_strs (z:=z) (t:=t) r
 have hjx:=(List.getElem?_eq_some_iff.mp hj).1
 rw [List.length_map] at hl hz
 have hji:j <its.length:=by omega
 refine call_meets F.slot_list_index ⟨_,e,rfl⟩ F.entry_list_index (F.args_list_index_2 _ _) (MeetsSeq.list_index l its.toArray n (.str z t) (isTx z) (fun y hy=>h1 y (by simpa using hy)) j (by simpa using hji) (by omega) ?_ ?_) ⟨e,?_⟩
 ·obtain⟨y,hy,e2⟩:=h3 j its[j] (List.getElem?_eq_getElem hji)
  rw [hj] at hy
  cases hy
  simpa using e2
 ·intro m hm hlt
  have hm':m <its.length:=by simpa using hm
  obtain⟨y,hy,e2⟩:=h3 m its[m] (List.getElem?_eq_getElem hm')
  have:=hno m y hlt hy
  simp only [List.getElem_toArray]
  rw [e2]
  exact decide_eq_false this
 ·exact⟨.int (j:Nat),H,I.tok _,⟨s.toks,rfl⟩,q⟩
end
end L2
namespace L2
open PySem PySem.Spec PyProof.Rows
theorem ph_none {X:Cx} {hs:List ExceptHandler}:PH X hs thNil:=fun _ _ _ _ _ _ _ _ _ _ _ _ h=>h.elim
end L2
set_option Elab.async false
set_option linter.all false
set_option maxRecDepth 100000
set_option Elab.async false
set_option maxHeartbeats 4000000
namespace L2
open PySem PySem.Spec PyProof.Rows
section
variable {X:Cx}
end
section
variable {prog:Program} {w:World} {A:Around} {E:Value→Shared→Prop}
end
end L2
set_option Elab.async false
set_option linter.all false
set_option maxRecDepth 100000
set_option Elab.async false
set_option maxHeartbeats 4000000
namespace L2
open PySem PySem.Spec PyProof.Rows
def Itrv (K:PySem.W.Frag) (a:Addr) (xs:List V):It:=
 ⟨fun i H=>SqL K H a xs∧i <xs.length,fun i H x H'=>H'=H∧xs.reverse[i]?=some x,fun i H=>SqL K H a xs∧xs.length≤i⟩
theorem turn_rev {P:Program} {w:World} {K:PySem.W.Frag} {tg:Expr} (a it:Addr) (xs:List V):Turn P w K tg (Itrv K a xs) [it] it (fun i h=>i≤xs.length∧h.IsRevIter it a ((xs.length:Int) - 1 - (i:Int))) where
 mem:=by simp
 obj:=fun i h st b hb=>by
  have e:b=it:=by simpa using hb
  subst e
  obtain⟨_,o,e,c,d⟩:=st
  exact⟨o,e,fun v z=>by rw [d] at z;cases z⟩
 keep:=fun i h h' st k=>⟨st.1,st.2.at fun o e=>k it (by simp) o e⟩
 item:=by
  intro X hP hw hK hc i pins s σ H E I hf st hg
  subst hP hw hK
  obtain⟨hq,hi⟩:=hg
  obtain⟨its,rv,p,hz⟩:=I.list hq
  have hl:=rv.length
  obtain⟨f0,f1,f2,f3,f4,f5⟩:=hf it (by simp)
  have e1:(xs.length:Int) - 1 - (i:Int)=((xs.length - 1 - i:Nat):Int):=by omega
  have hit:=st.2
  rw [e1] at hit
  have hx:xs.reverse[i]?=some (xs[xs.length - 1 - i]'(by omega)):=by rw [List.getElem?_reverse hi];exact List.getElem?_eq_getElem _
  obtain⟨u,hu,ru⟩:=rv.get (List.getElem?_eq_getElem (show xs.length - 1 - i <xs.length by omega))
  refine wpAny_pyNext_rev_item hit p.isList (x:=u) (by simpa using hu) fun h' st' sb=>?_
  have e2:((xs.length - 1 - i:Nat):Int) - 1=(xs.length:Int) - 1 - ((i+1:Nat):Int):=by omega
  rw [e2] at st'
  have I1:Inv X pins σ H { s with heap:=h' }:=I.turned (t':=s.toks) (fun b o hb e=>(sb.2 b hb).trans e) f0 f1 f3 f4 f5
  obtain⟨o,e,c,d⟩:=id st'
  exact⟨u,rfl,go_of (s:={ s with heap:=h' }) e c d (by decide) ⟨_,H,I1,ru,⟨rfl,hx⟩,⟨hi,st'⟩,fun b hb=>(hf b hb).1⟩⟩
 done:=by
  intro X hP hw hK hc i pins s σ H E I hf st hg
  subst hP hw hK
  obtain⟨hq,hi⟩:=hg
  obtain⟨f0,f1,f2,f3,f4,f5⟩:=hf it (by simp)
  have hit:=st.2
  rw [show(xs.length:Int) - 1 - (i:Int)= -1 by have:=st.1;omega] at hit
  exact wpAny_pyNext_rev_end (I.ok.hd hc) hit fun h' eb=>⟨rfl,I.turned (t':=s.toks) (fun b o hb e=>eb b o hb e) f0 f1 f3 f4 f5⟩
 self:=fun _ _ _ _ _ st h=>wpAny_pyIter_revIter st.2 h
section
variable {X:Cx} {tg:Expr}
theorem bt_reversed:bootBuiltins "reversed" =some (.type "reversed"):=by decide +kernel
def iRev (K:PySem.W.Frag) (ta:TA):TI:=fun σ H R=>ta σ H fun vs H1=>∃a xs,vs=[.ref a]∧SqL K H1 a xs∧R (Itrv K a xs) H1
theorem pi_rev {l:Expr} {ta:TA} {p pos:Pos} (hg:Gl X "reversed") (hm:X.mg "reversed" =none) (ha:PA X [l] ta) (hs:starEach [l] X.env=[(false,eval l X.env)]:=by rfl):
  PI X tg (.Call (.Name "reversed" p) [l] [] pos) (iRev X.K ta):=by
 intro pins s σ H R I h
 refine Call_ (BR I hg hm bt_reversed (PyProof.Rows.callWith_type1 (thn (ha pos pins s σ H _ I h) fun us s1 ⟨vs,H1,I1,r1,q1⟩=>?_) hs rfl))
 obtain⟨a,xs,e,hq,q⟩:=q1
 subst e
 obtain⟨u,rfl,ru⟩:=vals1 r1
 cases ru
 obtain⟨its,rv,pl,hz⟩:=I1.list hq
 have hl:=rv.length
 refine call_reversed_list pl.isList (wpAny_pyIter_revIter (it:=s1.heap.objs.size) (l:=a) (i:=(xs.length:Int) - 1) ⟨_,Heap.get?_push_size _ rfl,rfl,by simp [revObj,hl]⟩ ?_)
 refine⟨s1.heap.objs.size,[s1.heap.objs.size],_,_,H1,rfl,I1.kept (t':=s1.toks) fun b o e=>Heap.get?_push_of_some _ e,turn_rev a _ xs,⟨Nat.zero_le _,⟨_,Heap.get?_push_size _ rfl,rfl,by simp [revObj,hl]⟩⟩,fun b hb=>?_,q⟩
 have e:b=s1.heap.objs.size:=by simpa using hb
 subst e
 exact I1.fpOk (Nat.le_refl _) (I1.hok.fresh (Nat.le_refl _))
end
theorem comp_rev {js:List Nat} {tt:TT} {te:TE} {σ:St} {Qd:List V→Hp→Prop} {K:PySem.W.Frag} {a:Addr} {xs:List V} {H:Hp} (Pv:Nat→List V→Hp→Prop) (hn:xs.length≤sizeLine) (h0:Pv 0 [] H) (hl:∀i ys H,Pv i ys H→ys.length≤i) (hq:∀i ys H,i≤xs.length→Pv i ys H→SqL K H a xs)
  (hs:∀i x ys H,xs.reverse[i]?=some x→Pv i ys H→tt (some x:: eQ σ js) H fun b H4=>if b=true then te (some x:: eQ σ js) H4 fun y H5=>Pv (i+1) (ys ++ [y]) H5 else Pv (i+1) ys H4)
  (hd:∀ys H,Pv xs.length ys H→Qd ys H):CompEnd js tt te σ Qd (Itrv K a xs) H:=by
 refine⟨fun i m ys H=>m=xs.length - i∧i≤xs.length∧Pv i ys H,⟨xs.length,by simp,Nat.zero_le _,h0⟩,?_⟩
 rintro i m ys H ⟨rfl,hi,p⟩
 have hlen:=hl i ys H p
 have q:=hq i ys H hi p
 by_cases hlt:i <xs.length
 ·refine .inr ⟨⟨q,hlt⟩,by omega,Pv (i+1),fun ys' H' p'=>⟨xs.length - (i+1),by omega,rfl,hlt,p'⟩,fun x H' y=>?_⟩
  obtain⟨rfl,y⟩:=y
  exact hs i x ys _ y p
 ·obtain rfl:i=xs.length:=by omega
  exact .inl ⟨⟨q,Nat.le_refl _⟩,by omega,hd ys H p⟩
section
variable {X:Cx} {e:Expr}
end
end L2
set_option Elab.async false
set_option linter.all false
set_option maxRecDepth 100000
set_option Elab.async false
set_option maxHeartbeats 4000000
namespace L2
open PySem PySem.Spec PyProof.Rows
section
variable {X:Cx}
def rInD (K:PySem.W.Frag) (neg:Bool):R2:=fun x y H Q=>∃d ds,Dt K H x d∧Dt K H y (.list ds)∧SeqAt.shaped d=true∧SeqAt.shaped (.list ds)=true∧Q (.bl (if neg then !(ds.any fun z=>PyData.eqv z d) else ds.any fun z=>PyData.eqv z d)) H
theorem op_inD (hu:X.A.units+100 <cLine):OpR X (compareOp .In) (rInD X.K false):=by
 intro pins s σ H x y v u Q I rx ry h
 obtain⟨d,ds,h1,h2,s1,s2,q⟩:=h
 obtain⟨as,r1⟩:=h1.reads I rx
 obtain⟨bs,r2⟩:=h2.reads I ry
 exact SeqAt.in_list_reads r2 r1 (SeqAt.canLay_of_shaped s2) (SeqAt.canLay_of_shaped s1) (room_in_shaped s1 (by omega)) (cM I q rfl)
end
end L2
namespace L2
open PySem PySem.Spec PyProof.Rows
section
variable {M:Model} {A:Around} {E:Value→Shared→Prop} {nm q:Str} {C N:Addr} {bs bm:List Value} {hdct:Bool} {sn:List Str} {sub:List Value} {ab:Bool} {col:Option Bool} {dd:Option Addr} {k0 k1 k2 k3 k5:Option Value} {newId:String}
theorem xm_below {h:Heap} {g:Array GenState} {d:Drawn} {t:Nat} {os:OsState} {e C1:Addr} {oe:Obj} {Q:Bool→Shared→Prop}
  (hC:h.get? C=some (excClassObj nm q C N bs bm hdct sn sub ab col dd k0 k1 k2 k3 k5 newId)) (he:h.get? e=some oe) (hcls:oe.cls=.ref C1) (hbase:bm.contains (.type "BaseException")=true)
  (hs:∀{Q:Bool→Shared→Prop},Q true ⟨h,g,d,t,os⟩→wpAny M A (isSubtype (.ref C1) (.ref C)) Q E ⟨h,g,d,t,os⟩) (hq:Q true ⟨h,g,d,t,os⟩):wpAny M A (excMatches (.ref e) (.ref C)) Q E ⟨h,g,d,t,os⟩:=by
 have hB:(Value.ref C:: bm).contains (.type "BaseException")=true:=by rw [List.contains_cons,hbase,Bool.or_true]
 have f0:=tc_notTuple
 unfold excMatches
 repeat (first | (with_reducible refine wpAny_loadPart_at he ?_;rw [hcls]) | with_reducible refine wpAny_loadPart_at hC ?_ | (with_reducible refine wpAny_isSubtype_exc hC ?_;rw [hB]) | with_reducible refine hs ?_ | wp_step)
 exact hq
end
def thU (K:PySem.W.Frag) (i:Nat) (C:Addr) (ts:TS):TH:=fun D cls d σ H=>
 ∃C1,cls=.ref C1∧PySem.W.subIn K (.ref C1) (.ref C)=some true∧∀y,H y=none→ts { nx:=fun σ2 H2=>D.nx (σ2.set i none) H2,rt:=D.rt,bk:=fun σ2 H2=>D.bk (σ2.set i none) H2,ct:=fun σ2 H2=>D.ct (σ2.set i none) H2 } (σ.set i (some (.ref y))) (upd H y (caught y C1 d))
theorem ph_u {X:Cx} {K:PySem.W.Frag} {i:Nat} {n x:Str} {C:Addr} {b₀:Stmt} {suite:List Stmt} {np hpos:Pos} {rest:List ExceptHandler} {ts:TS} (hK:X.K=K)
  (hN:X.N.Nodup) (hi:X.N[i]?=some n) (hk:X.env.scope.names.lookup n=some .local) (hg:Gl X x) (hm:X.mg x=some (.ref C)) (cl:ExcAt K C)
  (hs:∀y,PSs (X.marked y) (b₀:: suite) ts) (hdb:(x == ("__debug__" :Str))=false:=by decide):
  PH X (.ExceptHandler (some (.Name x np)) (some n) (b₀:: suite) hpos:: rest) (thU K i C ts):=by
 subst hK
 intro pins σ H' y cls s B a0 d D L da h
 obtain⟨nm,q,Nn,bs,bm,hdct,sn,sub,ab,col,dd,k0,k1,k2,k3,k5,newId,hbase,hC⟩:=cl.ex
 obtain⟨ob,hob,hobc⟩:=L.fly.there
 have IL:=L.inv
 have hd:=IL.ok.hd
 refine wpAny_handleBy_cons (codeAny_handlers_test (Calls.Name_function_global IL.ok.kind hg (Calls.loadGlobal_global (by rw [IL.ok.glob];exact IL.mod.glob.keeps IL.bk) hm ?_) hdb)) (by intro q;cases q)
 obtain⟨C1,rfl,hsub,hsu⟩:=h
 obtain⟨hp,g,dr,tk,os⟩:=s
 refine xm_below (hC _ IL.kIn) hob hobc hbase (fun q=>(PySem.W.looks_subIn IL.kIn hsub).at q) ?_
 generalize hss:(⟨hp,g,dr,tk,os⟩:Shared)=s at *
 refine codeAny_handlers_suite_as (e:=.ref y) ?_
 have g1:=mR jJ (lands_againW (M:=model X.prog X.w) (A:=X.A.mark (some (.ref y))) (E:=fun _ _=>False) (Q:=fun _ s6=>∃h',s6={ s with heap:=h' }∧Heap.FlyingW B X.stack y (.ref C1) a0 h'∧s.heap.UpToSlots h') L.fly fun h' f up=>⟨h',rfl,f,up⟩)
 refine wpAny_mono g1 (fun _ s6 q6=>?_) fun _ _ z=>False.elim z
 obtain⟨⟨h6,rfl,fl6,up6⟩,dk6⟩:=q6
 obtain⟨oe6,vs6,hob6,hobc6,hdat6,_⟩:=fl6.first
 obtain⟨o7,ho7,hd7⟩:=da.on dk6 hob6
 obtain rfl:oe6=o7:=Option.some.inj (hob6.symm.trans ho7)
 obtain⟨oc,od,dt,osl⟩:=oe6
 dsimp only at hobc6 hdat6 hd7
 subst hobc6 hdat6 hd7
 have ok6:dC X.prog X.w (upd H' y (caught y C1 od)) h6 y (caught y C1 od):=by
  cases od with
  | some dx=>exact⟨⟨_,_,hob6⟩,⟨_,hob6⟩,fun h1 h2 ⟨x1,x2,z⟩ k=>⟨x1,x2,k _ z⟩⟩
  | none=>exact⟨⟨_,hob6,rfl⟩,⟨_,hob6⟩,fun h1 h2 ⟨o,e1,e2⟩ k=>⟨o,k o e1,e2⟩⟩
 have I6:=(L.more h6 fl6 up6).track (x:=y) (o:=caught y C1 od) L.free L.new L.neL L.neC L.neP ok6
 refine vd I6 hN hi (.inl hk) (v:=.ref y) rfl (fun s7 I7=>?_) (.inr hk)
 refine wpAny_mono (hs y pins s7 _ _ _ I7.marked (hsu y L.free)) (fun f s8 q8=>?_) fun _ _ z=>False.elim z
 cases f with
 | next=>
  obtain⟨σ8,H8,I8,q8⟩:=q8
  exact qx (I8.unmarked hd) hN hi hk fun s9 I9=>⟨_,_,I9,q8⟩
 | brk=>
  obtain⟨σ8,H8,I8,q8⟩:=q8
  exact qx (I8.unmarked hd) hN hi hk fun s9 I9=>⟨_,_,I9,q8⟩
 | cont=>
  obtain⟨σ8,H8,I8,q8⟩:=q8
  exact qx (I8.unmarked hd) hN hi hk fun s9 I9=>⟨_,_,I9,q8⟩
 | ret u=>
  obtain⟨v,σ8,H8,I8,rv,q8⟩:=q8
  exact qx (I8.unmarked hd) hN hi hk fun s9 I9=>⟨v,_,_,I9,rv,q8⟩
def tChain3 (r r' r'':R2) (ta tb tc td:TE):TE:=fun σ H Q=>ta σ H fun x H1=>tb σ H1 fun y H2=>r x y H2 fun z H3=>∃k,z=.bl k∧
 (if k=true then tc σ H3 fun w' H4=>r' y w' H4 fun z' H5=>∃k',z'=.bl k'∧(if k'=true then td σ H5 fun w2 H6=>r'' w' w2 H6 Q else Q (.bl false) H5) else Q (.bl false) H3)
theorem pt_chain3 {X:Cx} {a b c e:Expr} {pos:Pos} {ta tb tc td:TE} {op op' op'':CmpOp} {r r' r'':R2} (ho:OpR X (compareOp op) r) (ho':OpR X (compareOp op') r') (ho'':OpR X (compareOp op'') r'') (ha:PE X a ta) (hb:PE X b tb) (hc:PE X c tc) (he:PE X e td)
  (hm:lastMarks [op,op',op''] [b,c,e]=false:=by with_unfolding_all rfl):PT X (.Compare a [op,op',op''] [b,c,e] pos) (tTest (tChain3 r r' r'' ta tb tc td)):=by
 intro pins s σ H Q I h
 refine isTrue_chain (thn (ha pins s σ H _ I h) fun v s1 ⟨x,H1,I1,r1,q1⟩=>test_link (thn (hb pins s1 σ H1 _ I1 q1) fun u s2 ⟨y,H2,I2,r2,q2⟩=>
  thn (ho pins s2 σ H2 x y v u _ I2 r1 r2 q2) fun d s3 ⟨z,H3,I3,r3,k,e,q3⟩=>?_)) hm
 subst e
 cases r3
 refine wpAny_truthy_bool ?_
 cases k with
 | false=>
  obtain⟨k',e',q'⟩:=q3
  cases e'
  exact ite_ff ⟨H3,I3,q'⟩
 | true=>
  refine ite_tt (test_link (thn (hc pins s3 σ H3 _ I3 q3) fun w' s4 ⟨z',H4,I4,r4,q4⟩=>thn (ho' pins s4 σ H4 y z' u w' _ I4 r2 r4 q4) fun d' s5 hpt=>?_))
  obtain⟨z2,H5,I5,r5,k2,e2,q5⟩:=hpt
  subst e2
  cases r5
  refine wpAny_truthy_bool ?_
  cases k2 with
  | false=>
   obtain⟨k',e',q'⟩:=q5
   cases e'
   exact ite_ff ⟨H5,I5,q'⟩
  | true=>
   refine ite_tt (test_last (thn (he pins s5 σ H5 _ I5 q5) fun w2 s6 ⟨z6,H6,I6,r6,q6⟩=>thn (ho'' pins s6 σ H6 z' z6 w' w2 _ I6 r4 r6 q6) fun d7 s7 hpt=>?_))
   obtain⟨z7,H7,I7,r7,k7,e7,q7⟩:=hpt
   subst e7
   cases r7
   exact wpAny_truthy_bool ⟨H7,I7,q7⟩
end L2
set_option Elab.async false
set_option linter.all false
set_option maxRecDepth 100000set_option Elab.async false
set_option maxHeartbeats 4000000
namespace L2
open PySem PyProof
end L2
set_option maxHeartbeats 4000000
namespace One
open PySem PySem.W PySem.Calls PyProof.Rows
def plant:Nat→BT→List Obj→BT
 | _,t,[]=>t
 | n,t,o:: r=>plant (n+1) (t.ins n o) r
def planted:Nat→BT→List Obj→Bool
 | _,_,[]=>true
 | n,t,o:: r=>((t.ins n o).get n).isSome && planted (n+1) (t.ins n o) r
theorem plant_abs {life:Life}:∀(l:List Obj) (n:Nat) (t:BT) (as:List Obj),absHeap t n life=⟨as.toArray,life⟩→planted n t l=true→absHeap (plant n t l) (n+l.length) life=⟨(as ++ l).toArray,life⟩
 | [],n,t,as,h,_=>by simpa [plant] using h
 | o:: r,n,t,as,h,k=>by
  simp only [planted,Bool.and_eq_true] at k
  have e:=absHeap_ins (life:=life) k.1
  rw [h] at e
  have:=plant_abs r (n+1) (t.ins n o) (as ++ [o]) (by rw [e];simp [Heap.push]) k.2
  rw [List.append_assoc] at this
  rw [List.length_cons,show n+(r.length+1)=n+1+r.length by omega]
  exact this
def goT (tb:String→Option Builtin) (p:Program) (w:World) (m:Nat) (an:Option Value):Nat→SharedT→Thread→Option (SharedT×Thread)
 | 0,s,t=>some (s,t)
 | n+1,s,t=>match through t with
  | true=>some (s,t)
  | false=>match stepOk m an t with
   | false=>none
   | true=>match stepT (denote tb) p w s t with
    | some (s',t')=>goT tb p w m an n s' t'
    | none=>none
theorem goT_of {tb:String→Option Builtin} {p:Program} {w:World} {m:Nat} {an:Option Value}:∀{n:Nat} {s s':SharedT} {t t':Thread},goT tb p w m an n s t=some (s',t')→through t'=true→topRun tb p w m an (n+1) s.abs t=some s'.abs
 | 0,s,s',t,t',h,z=>by
  obtain⟨rfl,rfl⟩:=Prod.mk.inj (Option.some.inj h)
  unfold topRun
  rw [z]
 | n+1,s,s',t,t',h,z=>by
  unfold goT at h
  unfold topRun
  cases e1:through t with
  | true=>
   rw [e1] at h
   obtain⟨rfl,rfl⟩:=Prod.mk.inj (Option.some.inj h)
   rfl
  | false=>
   rw [e1] at h
   cases e2:stepOk m an t with
   | false=>rw [e2] at h;cases h
   | true=>
    rw [e2] at h
    cases e3:stepT (denote tb) p w s t with
    | none=>rw [e3] at h;cases h
    | some r=>
     obtain⟨s2,t2⟩:=r
     rw [e3] at h
     rw [stepT_spec e3]
     exact goT_of h z
def ends (r:SharedT×Thread):Option SharedT:=match through r.2 with
 | true=>some r.1
 | false=>none
theorem topT_of {tb:String→Option Builtin} {p:Program} {w:World} {m:Nat} {an:Option Value} {n:Nat} {s s':SharedT} {t:Thread} (h:(goT tb p w m an n s t).bind ends=some s'):topRun tb p w m an (n+1) s.abs t=some s'.abs:=by
 obtain⟨⟨s2,t2⟩,e1,e2⟩:=Option.bind_eq_some_iff.mp h
 unfold ends at e2
 cases z:through t2 with
 | false=>simp only [z] at e2;cases e2
 | true=>
  simp only [z] at e2
  cases e2
  exact goT_of e1 z
noncomputable def ann0 (P:Params):Option Value:=(boot_heap P).nsMap mainGlobals "__annotations__"
noncomputable def S0 (w:World) (os:OsState):SharedT:=⟨plant 0 .nil (boot_heap w.params).objs.toList,11,{},Array.mk [],boot_drawn,boot_toks,os⟩
theorem S0_abs (w:World) (os:OsState):(S0 w os).abs=⟨boot_heap w.params,Array.mk [],boot_drawn,boot_toks,os⟩:=by
 have e:=plant_abs (life:={}) (boot_heap w.params).objs.toList 0 .nil [] rfl (by rfl)
 have e2:absHeap (plant 0 .nil (boot_heap w.params).objs.toList) 11 {}=boot_heap w.params:=e
 show(⟨absHeap (plant 0 .nil (boot_heap w.params).objs.toList) 11 {},_,_,_,_⟩:Shared)=_
 rw [e2]
 rfl
noncomputable def runX (p:Program) (M:Nat) (w:World) (os:OsState):Option SharedT:=(goT treeTable p w 11 (ann0 w.params) M (S0 w os) (topStub p)).bind ends
noncomputable def looksX (p q:Program) (loose:List Str) (Xt:Shared→Bool) (M:Nat) (w:World) (os:OsState):=
 (runX p M w os).map fun s=>(staticsOk (importedModules p.main.body) (boot_heap w.params) s.abs.heap && namesBound p s.abs.heap && gensDone s.abs && laidKept (boot_heap w.params) s.abs.heap,openSeen q loose (importedModules p.main.body) Xt true s.abs)
theorem left_of {p q:Program} {loose:List Str} {Xt:Shared→Bool} {α:Type} {Yf:Shared→α} {Ya:World→α} {N M:Nat} (e:opening p=plainProg p.main.scope.names) (hN:Nat.ble 600 N=true) (f:∀s,fenceModules? p s=some s) (le:Nat.ble (M+1) N=true)
  (A:∀w os,looksX p q loose Xt M w os=some (true,openGood q loose)) (B:∀w os,(runX p M w os).map (fun s=>Yf s.abs)=some (Ya w)):LeftO p q loose Xt Yf Ya N:=fun w=>by
 obtain⟨⟨h,gs,d,k,os⟩,e1,e2⟩:=Option.map_eq_some_iff.mp (boot_open e hN f w)
 obtain⟨rfl,rfl,rfl,rfl⟩:h=boot_heap w.params∧gs=Array.mk []∧d=boot_drawn∧k=boot_toks:=by simpa using e2
 obtain⟨s1,r1,l1⟩:=Option.map_eq_some_iff.mp (A w os)
 obtain⟨s2,r2,l2⟩:=Option.map_eq_some_iff.mp (B w os)
 rw [r1] at r2
 cases r2
 obtain⟨l3,l4⟩:=Prod.mk.inj l1
 have r3:=topT_of r1
 rw [S0_abs] at r3
 have r4:=topRun_mono (N - (M+1)) _ _ _ _ r3
 rw [show M+1+(N - (M+1))=N by have:=Nat.le_of_ble_eq_true le;omega] at r4
 have t:topFrom treeTable p w N ⟨boot_heap w.params,Array.mk [],boot_drawn,boot_toks,os⟩=some s1.abs:=by
  unfold topFrom
  have z1:((boot_heap w.params).isNs mainGlobals && (Array.mk []:Array GenState).size == 0)=true:=by kernel_rfl
  dsimp only
  rw [z1]
  show((topRun treeTable p w 11 (ann0 w.params) N _ _).bind _)=_
  rw [r4]
  show(match staticsOk (importedModules p.main.body) (boot_heap w.params) s1.abs.heap && namesBound p s1.abs.heap && gensDone s1.abs && laidKept (boot_heap w.params) s1.abs.heap with | true=>_ | false=>_)=_
  rw [l3]
 unfold openEnds
 rw [e1]
 show(topFrom treeTable p w N _).map _=_
 rw [t]
 exact congrArg some (Prod.ext l4 l2)
def ye (s:SharedT) (a:Addr):Option Obj:=match Nat.blt a s.n with
 | true=>(match s.tree.get a with | some o=>alive o | none=>none)
 | false=>none
theorem getT_abs {s:SharedT} {a:Addr} {o:Obj} (h:ye s a=some o):s.abs.heap.get? a=some o:=by
 unfold ye at h
 cases e:Nat.blt a s.n with
 | false=>rw [e] at h;cases h
 | true=>
  rw [e] at h
  cases g:s.tree.get a with
  | none=>rw [g] at h;cases h
  | some x=>
   rw [g] at h
   exact(abs_get (Nat.le_of_ble_eq_true e) g).trans h
theorem all_abs {s:SharedT}:∀{as:List Addr} {l:List (Addr×Obj)},as.map (ye s)=l.map (fun p=>some p.2)→as.map s.abs.heap.get?=l.map fun p=>some p.2
 | [],[],_=>rfl
 | [],_:: _,h=>by cases h
 | _:: _,[],h=>by cases h
 | a:: as,x:: l,h=>by
  have h1:=List.cons.inj h
  show s.abs.heap.get? a:: as.map _=_
  rw [getT_abs h1.1,all_abs h1.2]
  rfl
theorem chunk {o:Option SharedT} {as:List Addr} {l:List (Addr×Obj)} (n:Nat) (h1:o.map (fun s=>(as.take n).map (ye s))=some ((l.take n).map fun p=>some p.2)) (h2:o.map (fun s=>(as.drop n).map (ye s))=some ((l.drop n).map fun p=>some p.2)):
  o.map (fun s=>as.map (ye s))=some (l.map fun p=>some p.2):=by
 obtain⟨s,e1,e2⟩:=Option.map_eq_some_iff.mp h1
 subst e1
 have e3:=Option.some.inj h2
 show some (as.map (ye s))=_
 rw [←List.take_append_drop n as,←List.take_append_drop n l,List.map_append,List.map_append]
 exact congrArg some (congr (congrArg _ e2) e3)
theorem hook_of {o:Option SharedT} {w:World} {K:Params→Frag} {as:List Addr} {e:∀P,as=(K P).map (·.1)} (h:o.map (fun s=>as.map (ye s))=some ((K w.params).map fun p=>some p.2)):
  o.map (fun s=>Hook.obs (kHook K as e) s.abs)=some (Hook.val (kHook K as e) w):=by
 obtain⟨s,h1,h2⟩:=Option.map_eq_some_iff.mp h
 rw [h1]
 exact congrArg some (all_abs h2)
end One
namespace HD
open PySem PySem.W PySem.Calls PyProof.Rows
abbrev rr:OpenRow:=OpenLaw.row PySem.Challenge.rw_holdlane_k73_plans_refused
def q:Program:=view PySem.Challenge.pw_holdlane_k73_plans_refused [89]
def loose:List PySem.Str:=(["_wall", "LaneError", "BadWord", "TooMany", "NoKind", "BadName", "Doubled", "NoSuch", "BadNumbers", "BadLanes", "BadRoom", "Open", "Loose", "NotCalm", "TooFast", "arcs_of"]:List PySem.Str) ++ (["arcs_of_lane", "VALUES", "FIGURES", "LETTERS", "LONGEST_NAME", "is_whole", "is_value", "is_name", "COUNTS", "Part", "Give", "Take", "Pass", "Copy", "Turn", "Heap"]:List PySem.Str) ++ (["Add", "Less", "Order", "Choose", "Split", "is_kind", "need_fit", "made_of", "part_made", "MOST_LANES", "MOST_PARTS", "MOST_ROOM", "need_counts", "need_fresh", "need_lane", "fresh_part"]:List PySem.Str) ++ (["tie_lanes", "need_ends", "joined_with", "need_joined", "row_of", "Net", "gone_round", "ring_into", "times_or_ring", "grow_times", "MOST_BOTTOM", "plan", "need_wish", "enough_room", "spared_room", "ring_without_one"]:List PySem.Str) ++ (["arc_with_room", "_law_cell", "_law_mix", "_law_value", "_law_word", "_law_lane", "_law_part", "_law_pick", "_law_two", "_law_loop", "_law_step", "_law_closed", "_law_net", "_law_kinds", "_law_odd_name", "_law_spoilt"]:List PySem.Str)
def Xt (s:Shared):Bool:=xlAt q [] s && recOk (RowW.records (OpenRow.toRowW (OpenLaw.row PySem.Challenge.rw_holdlane_k73_plans_refused))) s
structure KA where
 K:Params→Frag
 as:List Addr
def pickK {r:OpenRow} {K:Params→Frag} {as:List Addr} (_:(∀H:Hook,(∃e,H=kHook K as e)→r.Holds)→r.Holds):KA:=⟨K,as⟩
local macro_rules | `(tactic| o_head $H)=>`(tactic| (rename_i hh;exact hh $H ⟨_,rfl⟩))
noncomputable def ka:KA:=pickK (r:=rr) (fun _=>by k_head)
theorem ka_e (P:Params):KA.as ka=(ka.heap_1 P).map (·.1):=by kernel_rfl
noncomputable def runC:World→OsState→Option SharedT:=fun w os=>One.runX PySem.Challenge.pw_holdlane_k73_plans_refused 12060 w os
noncomputable def looksC:=fun(w:World) (os:OsState)=>One.looksX PySem.Challenge.pw_holdlane_k73_plans_refused q loose Xt 12060 w os
noncomputable def goodC:=some (true,openGood q loose)
theorem runC_e:runC=runC:=rfl
name_quick runQ for HD.runC by HD.runC_e
theorem looksC_e:looksC=looksC:=rfl
name_quick looksQ for HD.looksC by HD.looksC_e
theorem goodC_e:goodC=goodC:=rfl
name_quick goodQ for HD.goodC by HD.goodC_e
theorem A0 (w:World) (os:OsState):PySem.W.Fast.looksQ (w.withFollow "special-get-raises" false) os=PySem.W.Fast.goodQ:=by kernel_rfl
theorem B0_0 (w:World) (os:OsState):(PySem.W.Fast.runQ (w.withFollow "special-get-raises" false) os).map (fun s=>(KA.as ka).map (One.ye s))=some ((ka.heap_1 (w.withFollow "special-get-raises" false).params).map fun p=>some p.2):=by kernel_rfl
theorem B0 (w:World) (os:OsState):(PySem.W.Fast.runQ (w.withFollow "special-get-raises" false) os).map (fun s=>(KA.as ka).map (One.ye s))=some ((ka.heap_1 (w.withFollow "special-get-raises" false).params).map fun p=>some p.2):=B0_0 w os
theorem A1 (w:World) (os:OsState):PySem.W.Fast.looksQ (w.withFollow "special-get-raises" true) os=PySem.W.Fast.goodQ:=by kernel_rfl
theorem B1_0 (w:World) (os:OsState):(PySem.W.Fast.runQ (w.withFollow "special-get-raises" true) os).map (fun s=>(KA.as ka).map (One.ye s))=some ((ka.heap_1 (w.withFollow "special-get-raises" true).params).map fun p=>some p.2):=by kernel_rfl
theorem B1 (w:World) (os:OsState):(PySem.W.Fast.runQ (w.withFollow "special-get-raises" true) os).map (fun s=>(KA.as ka).map (One.ye s))=some ((ka.heap_1 (w.withFollow "special-get-raises" true).params).map fun p=>some p.2):=B1_0 w os
theorem A (w:World):∀os,looksC w os=goodC:=by
 rw [PySem.W.Fast.looksQ_eq,PySem.W.Fast.goodQ_eq]
 exact byRow2 "special-get-raises" (P:=fun w=>∀os,PySem.W.Fast.looksQ w os=PySem.W.Fast.goodQ) A0 A1 w
theorem B (w:World):∀os,(runC w os).map (fun s=>(KA.as ka).map (One.ye s))=some ((ka.heap_1 w.params).map fun p=>some p.2):=by
 rw [PySem.W.Fast.runQ_eq]
 exact byRow2 "special-get-raises" (P:=fun w=>∀os,(PySem.W.Fast.runQ w os).map (fun s=>(KA.as ka).map (One.ye s))=some ((ka.heap_1 w.params).map fun p=>some p.2)) B0 B1 w
theorem head {d:DefRec} {kwd:List (PySem.Str×Expr)}
  (hdef:defOf q rr.name=some (d,kwd)) (hp:rr.prog.theDef rr.name=some (d.params,d.body,d.scope)) (hk:kwWritten? d.params.kwonlyargs d.params.kw_defaults=some kwd) (hwr:(!rr.writes || rr.records.isEmpty)=true)
  (k1:rr.wellSaid=true) (ok:(chainsOk q && opensWell rr.prog && (frees rr.toRowW && rr.within.isEmpty))=true) (hb:rr.prog.bare) (ho:opening PySem.Challenge.pw_holdlane_k73_plans_refused=plainProg (PySem.Challenge.pw_holdlane_k73_plans_refused).main.scope.names) (f:∀s,fenceModules? PySem.Challenge.pw_holdlane_k73_plans_refused s=some s)
  (hw:rr.toRowW.promised) (hc:WalkO q loose (XL q []) (Hook.says (kHook ka.heap_1 (KA.as ka) ka_e)) rr.toRowW d kwd fun f vs=>PySem.call f vs):rr.Holds:=by
 have left:LeftO PySem.Challenge.pw_holdlane_k73_plans_refused q loose Xt (Hook.obs (kHook ka.heap_1 (KA.as ka) ka_e)) (Hook.val (kHook ka.heap_1 (KA.as ka) ka_e)) 24700:=One.left_of (M:=12060) ho rfl f rfl A fun w os=>One.hook_of (B w os)
 exact holds_open (XP:=XL q []) (YP:=Hook.says (kHook ka.heap_1 (KA.as ka) ka_e)) left (Hook.of _) (Hook.keeps _) (fun s z=>xl_of s (Bool.and_eq_true_iff.mp z).1) XL.keeps hdef hp hk (fun s z=>recFacts_of (Bool.and_eq_true_iff.mp z).2) hwr k1 ok hb hw hc
end HD
namespace K73
open PySem L2
theorem szl {n:Nat} (h:Nat.ble n 16777216=true:=by rfl):n≤sizeLine:=by rw [sizeLine_eq];exact Nat.le_of_ble_eq_true h
def top (i:Nat):Stmt:=PySem.Challenge.pw_holdlane_k73_plans_refused.main.body.getD i (.Pass ⟨0,0,0,0⟩)
abbrev dO:Stmt:=inClass (top 8) 0
abbrev dI:Stmt:=inClass (top 14) 0
abbrev dH:Stmt:=inClass (top 15) 0
abbrev mQ:Stmt:=top 24
abbrev mJ:Stmt:=top 25
abbrev fK:Stmt:=inClass (top 29) 0
abbrev jY:Stmt:=inClass (top 30) 0
abbrev j4:Stmt:=inClass (top 31) 0
abbrev kJ:Stmt:=inClass (top 32) 0
abbrev km:Stmt:=inClass (top 33) 0
abbrev j6:Stmt:=inClass (top 34) 0
abbrev j7:Stmt:=inClass (top 35) 0
abbrev mz:Stmt:=inClass (top 36) 0
abbrev kj:Stmt:=inClass (top 37) 0
abbrev jl:Stmt:=inClass (top 38) 0
abbrev iI:Stmt:=inClass (top 39) 0
abbrev jq:Stmt:=inClass (top 40) 0
abbrev pF:Stmt:=top 41
abbrev jT:Stmt:=top 42
abbrev pA:Stmt:=top 43
abbrev kh:Stmt:=top 44
abbrev mC:Stmt:=top 75
abbrev jW:Stmt:=top 74
abbrev jn:Stmt:=top 76
abbrev jf:Stmt:=top 77
abbrev iU:Stmt:=top 78
abbrev kI:Stmt:=top 80
abbrev je:Stmt:=top 79
abbrev mD:Stmt:=top 81
abbrev j9:Stmt:=top 82
abbrev jV:Stmt:=top 83
abbrev iJ:Stmt:=top 84
abbrev jR:Stmt:=top 85
abbrev my:Stmt:=top 26
abbrev iC:Stmt:=top 49
abbrev jo:Stmt:=top 50
abbrev iV:Stmt:=top 51
abbrev jm:Stmt:=top 52
abbrev j8:Stmt:=top 53
abbrev j5:Stmt:=top 54
abbrev iy:Stmt:=top 55
abbrev iB:Stmt:=top 56
abbrev eY:Stmt:=inClass (top 58) 1
abbrev fc:Stmt:=inClass (top 58) 2
abbrev dw:Stmt:=inClass (top 58) 12
abbrev iK:Stmt:=inClass (top 58) 7
abbrev gA:Stmt:=inClass (top 58) 8
abbrev gm:Stmt:=inClass (top 58) 9
abbrev gw:Stmt:=inClass (top 58) 10
abbrev pB:Stmt:=inClass (top 58) 6
abbrev rR:Stmt:=top 57
abbrev iW:Stmt:=inClass (top 58) 13
abbrev gG:Stmt:=inClass (top 58) 0
abbrev gH:Stmt:=top 18
abbrev mO:Stmt:=top 17
abbrev jr:Stmt:=top 60
abbrev iY:Stmt:=top 61
abbrev jw:Stmt:=top 64
abbrev fL:Stmt:=top 63
abbrev jX:Stmt:=top 68
abbrev iH:Stmt:=top 69
abbrev fJ:Stmt:=top 72
abbrev dj:Stmt:=top 71
abbrev iG:Stmt:=top 70
abbrev vG:Stmt:=top 67
abbrev jx:Stmt:=top 86
abbrev fH:Stmt:=top 87
abbrev iD:Stmt:=top 88
abbrev Bf:Stmt:=top 89
set_option genInjectivity false in
structure Adr where
 lB:Addr
 jP:FuncData
 jN:Addr
 jB:FuncData
 jQ:Addr
 jA:FuncData
 wX:Addr
 vf:FuncData
 xO:Addr
 uJ:FuncData
 bV:Addr
 mU:FuncData
 vD:Addr
 sI:FuncData
 uP:Addr
 rZ:FuncData
 uI:Addr
 sy:FuncData
 vq:Addr
 tR:FuncData
 uX:Addr
 sV:FuncData
 uD:Addr
 sY:FuncData
 xM:Addr
 vz:FuncData
 vM:Addr
 sr:FuncData
 sZ:Addr
 rB:FuncData
 rD:Addr
 pI:FuncData
 sE:Addr
 qP:FuncData
 yW:Addr
 xJ:FuncData
 xR:Addr
 vp:FuncData
 yV:Addr
 wZ:FuncData
 vH:Addr
 tY:FuncData
 xF:Addr
 uL:FuncData
 uU:Addr
 ud:FuncData
 tZ:Addr
 qZ:FuncData
 uK:Addr
 sW:FuncData
 vg:Addr
 tH:FuncData
 uY:Addr
 tX:FuncData
 vO:Addr
 tK:FuncData
 xW:Addr
 vU:FuncData
 uH:Addr
 sX:FuncData
 vW:Addr
 ur:FuncData
 qT:Addr
 qd:FuncData
 xQ:Addr
 uE:FuncData
 zp:Addr
 xu:FuncData
 qQ:Addr
 pW:FuncData
 uo:Addr
 qM:FuncData
 vy:Addr
 sO:FuncData
 ue:Addr
 qU:FuncData
 vB:Addr
 ug:FuncData
 uO:Addr
 rT:FuncData
 qY:Addr
 pL:FuncData
 rm:Addr
 pY:FuncData
 lY:Addr
 kZ:FuncData
 lZ:Addr
 lG:FuncData
 jg:Addr
 iM:FuncData
 qO:Addr
 pH:FuncData
 pP:Addr
 oK:FuncData
 pZ:Addr
 oM:FuncData
 pO:Addr
 oG:FuncData
 zF:Addr
 xq:FuncData
 Bd:Addr
 zg:FuncData
 xG:Addr
 uT:FuncData
 qb:Addr
 oE:FuncData
 pJ:Addr
 oN:FuncData
 zy:Addr
 xT:FuncData
 ut:Addr
 qL:FuncData
 vX:Addr
 uh:FuncData
 tO:Addr
 rn:FuncData
 oA:Addr
 mq:FuncData
 vL:Addr
 um:FuncData
 rF:Addr
 pM:FuncData
 oH:Addr
 mH:FuncData
 jO:Addr
 jy:FuncData
 qW:Addr
 pX:FuncData
 f_plan:Addr
 fd_plan:FuncData
 uc:Addr
 qN:FuncData
 oJ:Addr
 mK:FuncData
 qR:Addr
 pQ:FuncData
 f_law:Addr
 fd_law:FuncData
 dW:Addr
 dU:Addr
 dR:Addr
 eE:Addr
 dZ:Addr
 dY:Addr
 gW:Addr
 d8:Addr
 dg:Addr
 cz:Addr
 dh:Addr
 bI:Addr
 mY:Addr
 cC:Addr
 bR:Addr
 dB:Addr
 bG:Addr
 bO:Addr
abbrev ROWS:List (Str×List Int):=[("give",[0,0,1]),("take",[0,1,0]),("pass",[0,1,1]),("copy",[0,1,2]),("turn",[2,1,1]),("heap",[1,1,1]),("add",[0,2,1]),("less",[0,2,1]),("order",[0,2,2]),("choose",[0,3,1]),("split",[0,2,2])]
structure Txt (w:World) (K:PySem.W.Frag) (mg:Str→Option Value) (t:Adr):Prop where
 F_NoSuch___init__:Fun K "__init__" "NoSuch.__init__" dO t.lB t.jP
 b_NoSuch___init__:Binds K t.jP ["self", "name"] []
 F_NotCalm___init__:Fun K "__init__" "NotCalm.__init__" dI t.jN t.jB
 b_NotCalm___init__:Binds K t.jB ["self", "name"] []
 F_TooFast___init__:Fun K "__init__" "TooFast.__init__" dH t.jQ t.jA
 b_TooFast___init__:Binds K t.jA ["self", "ring"] []
 p8:Fun K "is_whole" "is_whole" mQ t.wX t.vf
 tE:Binds K t.vf ["thing"] []
 tQ:mg "is_whole" =some (.ref t.wX)
 xg:Fun K "is_value" "is_value" mJ t.xO t.uJ
 Am:Binds K t.uJ ["thing"] []
 BL:mg "is_value" =some (.ref t.xO)
 F_Part___init__:Fun K "__init__" "Part.__init__" fK t.bV t.mU
 cu:Binds K t.mU ["self", "name", "numbers", "ins", "outs"] []
 F_Give_kind:Fun K "kind" "Give.kind" jY t.vD t.sI
 b_Give_kind:Binds K t.sI ["self"] []
 F_Take_kind:Fun K "kind" "Take.kind" j4 t.uP t.rZ
 b_Take_kind:Binds K t.rZ ["self"] []
 F_Pass_kind:Fun K "kind" "Pass.kind" kJ t.uI t.sy
 b_Pass_kind:Binds K t.sy ["self"] []
 F_Copy_kind:Fun K "kind" "Copy.kind" km t.vq t.tR
 b_Copy_kind:Binds K t.tR ["self"] []
 F_Turn_kind:Fun K "kind" "Turn.kind" j6 t.uX t.sV
 b_Turn_kind:Binds K t.sV ["self"] []
 F_Heap_kind:Fun K "kind" "Heap.kind" j7 t.uD t.sY
 b_Heap_kind:Binds K t.sY ["self"] []
 F_Add_kind:Fun K "kind" "Add.kind" mz t.xM t.vz
 b_Add_kind:Binds K t.vz ["self"] []
 F_Less_kind:Fun K "kind" "Less.kind" kj t.vM t.sr
 b_Less_kind:Binds K t.sr ["self"] []
 F_Order_kind:Fun K "kind" "Order.kind" jl t.sZ t.rB
 b_Order_kind:Binds K t.rB ["self"] []
 F_Choose_kind:Fun K "kind" "Choose.kind" iI t.rD t.pI
 b_Choose_kind:Binds K t.pI ["self"] []
 F_Split_kind:Fun K "kind" "Split.kind" jq t.sE t.qP
 b_Split_kind:Binds K t.qP ["self"] []
 zH:Fun K "is_kind" "is_kind" pF t.yW t.xJ
 b_is_kind:Binds K t.xJ ["word"] []
 m_is_kind:mg "is_kind" =some (.ref t.yW)
 By:Fun K "need_fit" "need_fit" jT t.xR t.vp
 b_need_fit:Binds K t.vp ["kind", "name", "numbers", "ins", "outs"] []
 m_need_fit:mg "need_fit" =some (.ref t.xR)
 F_made_of:Fun K "made_of" "made_of" pA t.yV t.wZ
 b_made_of:Binds K t.wZ ["kind", "name", "numbers", "ins", "outs"] []
 m_made_of:mg "made_of" =some (.ref t.yV)
 zN:Fun K "part_made" "part_made" kh t.vH t.tY
 b_part_made:Binds K t.tY ["kind", "name", "numbers", "ins", "outs"] []
 m_part_made:mg "part_made" =some (.ref t.vH)
 bx:Fun K "_law_mix" "_law_mix" mC t.xF t.uL
 bD:Binds K t.uL ["_law_cell_here", "_law_k"] []
 bC:mg "_law_mix" =some (.ref t.xF)
 fP:Fun K "_law_cell" "_law_cell" jW t.uU t.ud
 gK:Binds K t.ud ["_law_script", "_law_k"] []
 gM:mg "_law_cell" =some (.ref t.uU)
 lq:Fun K "_law_value" "_law_value" jn t.tZ t.qZ
 o9:Binds K t.qZ ["_law_cell_here", "_law_k"] []
 oZ:mg "_law_value" =some (.ref t.tZ)
 m9:Fun K "_law_word" "_law_word" jf t.uK t.sW
 qC:Binds K t.sW ["_law_cell_here", "_law_k"] []
 qH:mg "_law_word" =some (.ref t.uK)
 jZ:Fun K "_law_lane" "_law_lane" iU t.vg t.tH
 nj:Binds K t.tH ["_law_state", "_law_cell_here", "_law_back"] []
 mX:mg "_law_lane" =some (.ref t.vg)
 qI:Fun K "_law_pick" "_law_pick" kI t.uY t.tX
 u9:Binds K t.tX ["_law_state", "_law_number"] []
 vh:mg "_law_pick" =some (.ref t.uY)
 cZ:Fun K "_law_part" "_law_part" je t.vO t.tK
 du:Binds K t.tK ["_law_state", "_law_cell_here", "_law_kind", "_law_numbers", "_law_ins", "_law_many"] []
 dq:mg "_law_part" =some (.ref t.vO)
 Bb:Fun K "_law_two" "_law_two" mD t.xW t.vU
 b__law_two:Binds K t.vU ["_law_state", "_law_cell_here", "_law_one", "_law_odd"] []
 m__law_two:mg "_law_two" =some (.ref t.xW)
 zT:Fun K "_law_loop" "_law_loop" j9 t.uH t.sX
 b__law_loop:Binds K t.sX ["_law_state", "_law_cell_here", "_law_one"] []
 m__law_loop:mg "_law_loop" =some (.ref t.uH)
 z8:Fun K "_law_step" "_law_step" jV t.vW t.ur
 b__law_step:Binds K t.ur ["_law_state", "_law_cell_here", "_law_odd"] []
 m__law_step:mg "_law_step" =some (.ref t.vW)
 wD:Fun K "_law_closed" "_law_closed" iJ t.qT t.qd
 b__law_closed:Binds K t.qd ["_law_state", "_law_cell_here", "_law_back"] []
 m__law_closed:mg "_law_closed" =some (.ref t.qT)
 Bv:Fun K "_law_net" "_law_net" jR t.xQ t.uE
 b__law_net:Binds K t.uE ["_law_script", "_law_start", "_law_steps", "_law_odd"] []
 m__law_net:mg "_law_net" =some (.ref t.xQ)
 F_is_name:Fun K "is_name" "is_name" my t.zp t.xu
 b_is_name:Binds K t.xu ["thing"] []
 m_is_name:mg "is_name" =some (.ref t.zp)
 wK:Fun K "need_counts" "need_counts" iC t.qQ t.pW
 b_need_counts:Binds K t.pW ["lanes", "parts"] []
 m_need_counts:mg "need_counts" =some (.ref t.qQ)
 rW:Fun K "need_fresh" "need_fresh" jo t.uo t.qM
 yO:Binds K t.qM ["name", "known"] []
 yE:mg "need_fresh" =some (.ref t.uo)
 zQ:Fun K "need_lane" "need_lane" iV t.vy t.sO
 b_need_lane:Binds K t.sO ["name", "room", "first"] []
 m_need_lane:mg "need_lane" =some (.ref t.vy)
 yM:Fun K "fresh_part" "fresh_part" jm t.ue t.qU
 b_fresh_part:Binds K t.qU ["row", "known"] []
 m_fresh_part:mg "fresh_part" =some (.ref t.ue)
 vV:Fun K "tie_lanes" "tie_lanes" j8 t.vB t.ug
 zM:Binds K t.ug ["part", "lanes", "rooms", "ends"] []
 Aa:mg "tie_lanes" =some (.ref t.vB)
 Ac:Fun K "need_ends" "need_ends" j5 t.uO t.rT
 b_need_ends:Binds K t.rT ["rooms", "givers", "takers"] []
 m_need_ends:mg "need_ends" =some (.ref t.uO)
 wW:Fun K "joined_with" "joined_with" iy t.qY t.pL
 b_joined_with:Binds K t.pL ["part", "givers", "takers"] []
 m_joined_with:mg "joined_with" =some (.ref t.qY)
 wL:Fun K "need_joined" "need_joined" iB t.rm t.pY
 b_need_joined:Binds K t.pY ["names", "givers", "takers"] []
 m_need_joined:mg "need_joined" =some (.ref t.rm)
 F_Net_lane_names:Fun K "lane_names" "Net.lane_names" eY t.lY t.kZ
 rK:Binds K t.kZ ["self"] []
 F_Net_part_names:Fun K "part_names" "Net.part_names" fc t.lZ t.lG
 rP:Binds K t.lG ["self"] []
 F_Net_need_lane_name:Fun K "need_lane_name" "Net.need_lane_name" dw t.jg t.iM
 fO:Binds K t.iM ["self", "name"] []
 F_Net_room_of:Fun K "room_of" "Net.room_of" iK t.qO t.pH
 b_Net_room_of:Binds K t.pH ["self", "name"] []
 F_Net_first_of:Fun K "first_of" "Net.first_of" gA t.pP t.oK
 b_Net_first_of:Binds K t.oK ["self", "name"] []
 F_Net_giver_of:Fun K "giver_of" "Net.giver_of" gm t.pZ t.oM
 b_Net_giver_of:Binds K t.oM ["self", "name"] []
 F_Net_taker_of:Fun K "taker_of" "Net.taker_of" gw t.pO t.oG
 b_Net_taker_of:Binds K t.oG ["self", "name"] []
 F_Net_odd:Fun K "odd" "Net.odd" pB t.zF t.xq
 b_Net_odd:Binds K t.xq ["self"] []
 F_row_of:Fun K "row_of" "row_of" rR t.Bd t.zg
 b_row_of:Binds K t.zg ["part"] []
 m_row_of:mg "row_of" =some (.ref t.Bd)
 F_Net_told:Fun K "told" "Net.told" iW t.xG t.uT
 xN:Binds K t.uT ["self"] []
 F_Net___init__:Fun K "__init__" "Net.__init__" gG t.qb t.oE
 b_Net___init__:Binds K t.oE ["self", "lanes", "parts"] []
 u5:Fun K "arcs_of_lane" "arcs_of_lane" gH t.pJ t.oN
 b_arcs_of_lane:Binds K t.oN ["net", "lane"] []
 m_arcs_of_lane:mg "arcs_of_lane" =some (.ref t.pJ)
 F_arcs_of:Fun K "arcs_of" "arcs_of" mO t.zy t.xT
 b_arcs_of:Binds K t.xT ["net"] []
 m_arcs_of:mg "arcs_of" =some (.ref t.zy)
 yz:Fun K "gone_round" "gone_round" jr t.ut t.qL
 b_gone_round:Binds K t.qL ["start", "leads"] []
 m_gone_round:mg "gone_round" =some (.ref t.ut)
 z9:Fun K "ring_into" "ring_into" iY t.vX t.uh
 b_ring_into:Binds K t.uh ["start", "into"] []
 m_ring_into:mg "ring_into" =some (.ref t.vX)
 yF:Fun K "grow_times" "grow_times" jw t.tO t.rn
 b_grow_times:Binds K t.rn ["times", "into", "arcs", "wish"] []
 m_grow_times:mg "grow_times" =some (.ref t.tO)
 ou:Fun K "times_or_ring" "times_or_ring" fL t.oA t.mq
 uy:Binds K t.mq ["names", "arcs", "wish"] []
 uz:mg "times_or_ring" =some (.ref t.oA)
 zR:Fun K "need_wish" "need_wish" jX t.vL t.um
 b_need_wish:Binds K t.um ["top", "bottom"] []
 m_need_wish:mg "need_wish" =some (.ref t.vL)
 wN:Fun K "enough_room" "enough_room" iH t.rF t.pM
 b_enough_room:Binds K t.pM ["arcs", "times", "wish"] []
 m_enough_room:mg "enough_room" =some (.ref t.rF)
 ux:Fun K "arc_with_room" "arc_with_room" fJ t.oH t.mH
 b_arc_with_room:Binds K t.mH ["arc", "room"] []
 m_arc_with_room:mg "arc_with_room" =some (.ref t.oH)
 jU:Fun K "ring_without_one" "ring_without_one" dj t.jO t.jy
 qe:Binds K t.jy ["names", "arcs", "room", "lane", "wish"] []
 pK:mg "ring_without_one" =some (.ref t.jO)
 wJ:Fun K "spared_room" "spared_room" iG t.qW t.pX
 b_spared_room:Binds K t.pX ["names", "arcs", "room", "wish"] []
 m_spared_room:mg "spared_room" =some (.ref t.qW)
 F_plan:Fun K "plan" "plan" vG t.f_plan t.fd_plan
 b_plan:Binds K t.fd_plan ["net", "top", "bottom"] []
 m_plan:mg "plan" =some (.ref t.f_plan)
 rY:Fun K "_law_kinds" "_law_kinds" jx t.uc t.qN
 yC:Binds K t.qN ["_law_net_one", "_law_top", "_law_bottom"] []
 yH:mg "_law_kinds" =some (.ref t.uc)
 uw:Fun K "_law_odd_name" "_law_odd_name" fH t.oJ t.mK
 b__law_odd_name:Binds K t.mK ["_law_net_one"] []
 m__law_odd_name:mg "_law_odd_name" =some (.ref t.oJ)
 wH:Fun K "_law_spoilt" "_law_spoilt" iD t.qR t.pQ
 b__law_spoilt:Binds K t.pQ ["_law_cell_here", "_law_top", "_law_bottom"] []
 m__law_spoilt:mg "_law_spoilt" =some (.ref t.qR)
 F_law:Fun K "law" "law" Bf t.f_law t.fd_law
 b_law:Binds K t.fd_law ["_law_script"] []
 m_law:mg "law" =some (.ref t.f_law)
 c_Give:Cls K t.dW
 mc_Give:mg "Give" =some (.ref t.dW)
 M_Give:Mk K t.dW t.bV
 me_Give_kind:Meth K t.dW "kind" t.vD
 lH:bu K t.dW "name"
 ie:bu K t.dW "numbers"
 m8:bu K t.dW "ins"
 lz:bu K t.dW "outs"
 c_Take:Cls K t.dU
 mc_Take:mg "Take" =some (.ref t.dU)
 M_Take:Mk K t.dU t.bV
 me_Take_kind:Meth K t.dU "kind" t.uP
 lD:bu K t.dU "name"
 gY:bu K t.dU "numbers"
 mZ:bu K t.dU "ins"
 lA:bu K t.dU "outs"
 c_Pass:Cls K t.dR
 mc_Pass:mg "Pass" =some (.ref t.dR)
 M_Pass:Mk K t.dR t.bV
 me_Pass_kind:Meth K t.dR "kind" t.uI
 lV:bu K t.dR "name"
 gZ:bu K t.dR "numbers"
 oh:bu K t.dR "ins"
 lg:bu K t.dR "outs"
 c_Copy:Cls K t.eE
 mc_Copy:mg "Copy" =some (.ref t.eE)
 M_Copy:Mk K t.eE t.bV
 me_Copy_kind:Meth K t.eE "kind" t.vq
 lL:bu K t.eE "name"
 ig:bu K t.eE "numbers"
 nC:bu K t.eE "ins"
 lJ:bu K t.eE "outs"
 c_Turn:Cls K t.dZ
 mc_Turn:mg "Turn" =some (.ref t.dZ)
 M_Turn:Mk K t.dZ t.bV
 me_Turn_kind:Meth K t.dZ "kind" t.uX
 lM:bu K t.dZ "name"
 ir:bu K t.dZ "numbers"
 nU:bu K t.dZ "ins"
 kW:bu K t.dZ "outs"
 c_Heap:Cls K t.dY
 mc_Heap:mg "Heap" =some (.ref t.dY)
 M_Heap:Mk K t.dY t.bV
 me_Heap_kind:Meth K t.dY "kind" t.uD
 kY:bu K t.dY "name"
 iu:bu K t.dY "numbers"
 m5:bu K t.dY "ins"
 lU:bu K t.dY "outs"
 c_Add:Cls K t.gW
 mc_Add:mg "Add" =some (.ref t.gW)
 M_Add:Mk K t.gW t.bV
 me_Add_kind:Meth K t.gW "kind" t.xM
 nZ:bu K t.gW "name"
 jj:bu K t.gW "numbers"
 pR:bu K t.gW "ins"
 nQ:bu K t.gW "outs"
 c_Less:Cls K t.d8
 mc_Less:mg "Less" =some (.ref t.d8)
 M_Less:Mk K t.d8 t.bV
 me_Less_kind:Meth K t.d8 "kind" t.vM
 lu:bu K t.d8 "name"
 il:bu K t.d8 "numbers"
 m7:bu K t.d8 "ins"
 lC:bu K t.d8 "outs"
 c_Order:Cls K t.dg
 mc_Order:mg "Order" =some (.ref t.dg)
 M_Order:Mk K t.dg t.bV
 me_Order_kind:Meth K t.dg "kind" t.sZ
 jG:bu K t.dg "name"
 gB:bu K t.dg "numbers"
 lN:bu K t.dg "ins"
 jD:bu K t.dg "outs"
 c_Choose:Cls K t.cz
 mc_Choose:mg "Choose" =some (.ref t.cz)
 M_Choose:Mk K t.cz t.bV
 me_Choose_kind:Meth K t.cz "kind" t.rD
 jc:bu K t.cz "name"
 fM:bu K t.cz "numbers"
 jH:bu K t.cz "ins"
 iZ:bu K t.cz "outs"
 c_Split:Cls K t.dh
 mc_Split:mg "Split" =some (.ref t.dh)
 M_Split:Mk K t.dh t.bV
 me_Split_kind:Meth K t.dh "kind" t.sE
 jE:bu K t.dh "name"
 gq:bu K t.dh "numbers"
 lQ:bu K t.dh "ins"
 jF:bu K t.dh "outs"
 cB:Cls K t.bI
 mc_Net:mg "Net" =some (.ref t.bI)
 M_Net:Mk K t.bI t.qb
 qD:Meth K t.bI "lane_names" t.lY
 qJ:Meth K t.bI "part_names" t.lZ
 BP:Meth K t.bI "odd" t.zF
 fB:Meth K t.bI "need_lane_name" t.jg
 me_Net_room_of:Meth K t.bI "room_of" t.qO
 me_Net_first_of:Meth K t.bI "first_of" t.pP
 me_Net_giver_of:Meth K t.bI "giver_of" t.pZ
 me_Net_taker_of:Meth K t.bI "taker_of" t.pO
 vY:Meth K t.bI "told" t.xG
 cG:bu K t.bI "rooms"
 eU:bu K t.bI "firsts"
 cT:bu K t.bI "parts"
 dJ:bu K t.bI "givers"
 dM:bu K t.bI "takers"
 mt_COUNTS:mg "COUNTS" =some (.ref t.mY)
 t_COUNTS:KTab w K t.mY ROWS
 n_all:mg "all" =none
 n_bool:mg "bool" =none
 n_dict:mg "dict" =none
 n_int:mg "int" =none
 jt:mg "isinstance" =none
 iw:mg "len" =none
 Bh:mg "list" =none
 n_max:mg "max" =none
 qw:mg "range" =none
 n_reversed:mg "reversed" =none
 n_str:mg "str" =none
 Ag:mg "tuple" =none
 g_VALUES:∃u,mg "VALUES" =some u∧RelV (.int 1000000000) u
 g_LETTERS:∃u,mg "LETTERS" =some u∧RelV (.str "abcdefghijklmnopqrstuvwxyz") u
 g_LONGEST_NAME:∃u,mg "LONGEST_NAME" =some u∧RelV (.int 8) u
 g_FIGURES:∃u,mg "FIGURES" =some u∧RelV (.str "0123456789") u
 g_MOST_LANES:∃u,mg "MOST_LANES" =some u∧RelV (.int 24) u
 g_MOST_PARTS:∃u,mg "MOST_PARTS" =some u∧RelV (.int 16) u
 g_MOST_ROOM:∃u,mg "MOST_ROOM" =some u∧RelV (.int 199) u
 g_MOST_BOTTOM:∃u,mg "MOST_BOTTOM" =some u∧RelV (.int 1000) u
 oX:mg "LaneError" =some (.ref t.cC)
 Bl:mg "BadWord" =some (.ref t.bR)
 mc_NoSuch:mg "NoSuch" =some (.ref t.dB)
 xn:mg "NotCalm" =some (.ref t.bG)
 Ba:mg "TooFast" =some (.ref t.bO)
 uf:BaseI K t.cC
 ko_BadWord_BadWord:PySem.W.kitOne K (.ref t.bR) (.ref t.bR)=some true
 ko_BadWord_NotCalm:PySem.W.kitOne K (.ref t.bR) (.ref t.bG)=some false
 ko_BadWord_TooFast:PySem.W.kitOne K (.ref t.bR) (.ref t.bO)=some false
 ko_NotCalm_BadWord:PySem.W.kitOne K (.ref t.bG) (.ref t.bR)=some false
 ko_NotCalm_NotCalm:PySem.W.kitOne K (.ref t.bG) (.ref t.bG)=some true
 ko_NotCalm_TooFast:PySem.W.kitOne K (.ref t.bG) (.ref t.bO)=some false
 ko_TooFast_BadWord:PySem.W.kitOne K (.ref t.bO) (.ref t.bR)=some false
 ko_TooFast_NotCalm:PySem.W.kitOne K (.ref t.bO) (.ref t.bG)=some false
 ko_TooFast_TooFast:PySem.W.kitOne K (.ref t.bO) (.ref t.bO)=some true
 up_BadWord_LaneError:PySem.W.subIn K (.ref t.bR) (.ref t.cC)=some true
 up_NotCalm_LaneError:PySem.W.subIn K (.ref t.bG) (.ref t.cC)=some true
 up_TooFast_LaneError:PySem.W.subIn K (.ref t.bO) (.ref t.cC)=some true
 xa_LaneError:ExcAt K t.cC
 xe_BadWord:ExcCls K t.bR
 xa_BadWord:ExcAt K t.bR
 xK:XcK K t.bR
 X_NoSuch:MkX K t.dB t.lB
 xf_NoSuch:XfK K t.dB
 na_NoSuch:bu K t.dB "name"
 xa_NoSuch:ExcAt K t.dB
 X_NotCalm:MkX K t.bG t.jN
 pN:XfK K t.bG
 Bj:bu K t.bG "name"
 xa_NotCalm:ExcAt K t.bG
 X_TooFast:MkX K t.bO t.jQ
 sJ:XfK K t.bO
 na_TooFast:bu K t.bO "ring"
 xa_TooFast:ExcAt K t.bO
section
variable {P:Program} {w:World} {K:PySem.W.Frag} {mg:Str→Option Value} {base:Heap} {t:Adr}
def eO (i:Nat):Str:=match i with
 | 0=> "give"
 | 1=> "take"
 | 2=> "pass"
 | 3=> "copy"
 | 4=> "turn"
 | 5=> "heap"
 | 6=> "add"
 | 7=> "less"
 | 8=> "order"
 | 9=> "choose"
 | _=> "split"
def cN (i:Nat):Nat:=match i with
 | 0=>0
 | 1=>0
 | 2=>0
 | 3=>0
 | 4=>2
 | 5=>1
 | 6=>0
 | 7=>0
 | 8=>0
 | 9=>0
 | _=>0
def cI (i:Nat):Nat:=match i with
 | 0=>0
 | 1=>1
 | 2=>1
 | 3=>1
 | 4=>1
 | 5=>1
 | 6=>2
 | 7=>2
 | 8=>2
 | 9=>3
 | _=>2
def cO (i:Nat):Nat:=match i with
 | 0=>1
 | 1=>0
 | 2=>1
 | 3=>2
 | 4=>1
 | 5=>1
 | 6=>1
 | 7=>1
 | 8=>2
 | 9=>1
 | _=>2
def cls (t:Adr) (i:Nat):Addr:=match i with
 | 0=>t.dW
 | 1=>t.dU
 | 2=>t.dR
 | 3=>t.eE
 | 4=>t.dZ
 | 5=>t.dY
 | 6=>t.gW
 | 7=>t.d8
 | 8=>t.dg
 | 9=>t.cz
 | _=>t.dh
theorem row_of (i:Nat):rowOf ROWS (eO i)=some [((cN i:Nat):Int),((cI i:Nat):Int),((cO i:Nat):Int)]:=match i with
 | 0=>by show rowOf ROWS "give" =some [0,0,1];decide +kernel
 | 1=>by show rowOf ROWS "take" =some [0,1,0];decide +kernel
 | 2=>by show rowOf ROWS "pass" =some [0,1,1];decide +kernel
 | 3=>by show rowOf ROWS "copy" =some [0,1,2];decide +kernel
 | 4=>by show rowOf ROWS "turn" =some [2,1,1];decide +kernel
 | 5=>by show rowOf ROWS "heap" =some [1,1,1];decide +kernel
 | 6=>by show rowOf ROWS "add" =some [0,2,1];decide +kernel
 | 7=>by show rowOf ROWS "less" =some [0,2,1];decide +kernel
 | 8=>by show rowOf ROWS "order" =some [0,2,2];decide +kernel
 | 9=>by show rowOf ROWS "choose" =some [0,3,1];decide +kernel
 | n+10=>by show rowOf ROWS "split" =some [0,2,2];decide +kernel
theorem mF (T:Txt w K mg t) (i:Nat):Cls K (cls t i):=match i with
 | 0=>T.c_Give
 | 1=>T.c_Take
 | 2=>T.c_Pass
 | 3=>T.c_Copy
 | 4=>T.c_Turn
 | 5=>T.c_Heap
 | 6=>T.c_Add
 | 7=>T.c_Less
 | 8=>T.c_Order
 | 9=>T.c_Choose
 | n+10=>T.c_Split
theorem yD (T:Txt w K mg t) (i:Nat):bu K (cls t i) "name" :=match i with
 | 0=>T.lH
 | 1=>T.lD
 | 2=>T.lV
 | 3=>T.lL
 | 4=>T.lM
 | 5=>T.kY
 | 6=>T.nZ
 | 7=>T.lu
 | 8=>T.jG
 | 9=>T.jc
 | n+10=>T.jE
theorem Ar (T:Txt w K mg t) (i:Nat):bu K (cls t i) "numbers" :=match i with
 | 0=>T.ie
 | 1=>T.gY
 | 2=>T.gZ
 | 3=>T.ig
 | 4=>T.ir
 | 5=>T.iu
 | 6=>T.jj
 | 7=>T.il
 | 8=>T.gB
 | 9=>T.fM
 | n+10=>T.gq
theorem na_ins (T:Txt w K mg t) (i:Nat):bu K (cls t i) "ins" :=match i with
 | 0=>T.m8
 | 1=>T.mZ
 | 2=>T.oh
 | 3=>T.nC
 | 4=>T.nU
 | 5=>T.m5
 | 6=>T.pR
 | 7=>T.m7
 | 8=>T.lN
 | 9=>T.jH
 | n+10=>T.lQ
theorem na_outs (T:Txt w K mg t) (i:Nat):bu K (cls t i) "outs" :=match i with
 | 0=>T.lz
 | 1=>T.lA
 | 2=>T.lg
 | 3=>T.lJ
 | 4=>T.kW
 | 5=>T.lU
 | 6=>T.nQ
 | 7=>T.lC
 | 8=>T.jD
 | 9=>T.iZ
 | n+10=>T.jF
theorem cN_le (i:Nat):cN i≤2:=match i with
 | 0=>by show 0≤2;decide
 | 1=>by show 0≤2;decide
 | 2=>by show 0≤2;decide
 | 3=>by show 0≤2;decide
 | 4=>by show 2≤2;decide
 | 5=>by show 1≤2;decide
 | 6=>by show 0≤2;decide
 | 7=>by show 0≤2;decide
 | 8=>by show 0≤2;decide
 | 9=>by show 0≤2;decide
 | n+10=>by show 0≤2;decide
theorem cI_le (i:Nat):cI i≤3:=match i with
 | 0=>by show 0≤3;decide
 | 1=>by show 1≤3;decide
 | 2=>by show 1≤3;decide
 | 3=>by show 1≤3;decide
 | 4=>by show 1≤3;decide
 | 5=>by show 1≤3;decide
 | 6=>by show 2≤3;decide
 | 7=>by show 2≤3;decide
 | 8=>by show 2≤3;decide
 | 9=>by show 3≤3;decide
 | n+10=>by show 2≤3;decide
theorem cO_le (i:Nat):cO i≤2:=match i with
 | 0=>by show 1≤2;decide
 | 1=>by show 0≤2;decide
 | 2=>by show 1≤2;decide
 | 3=>by show 2≤2;decide
 | 4=>by show 1≤2;decide
 | 5=>by show 1≤2;decide
 | 6=>by show 1≤2;decide
 | 7=>by show 1≤2;decide
 | 8=>by show 2≤2;decide
 | 9=>by show 1≤2;decide
 | n+10=>by show 2≤2;decide
theorem wC {f:Str} {y:V} {fs:List (Str×V)} {n:Nat} (h:fs.length≤n):(aY f y fs).length≤n+1:=Nat.le_trans (vo f y fs) (Nat.succ_le_succ h)
def Aq (nm:V) (tn ti to:Addr):List (Str×V):=aY "outs" (.ref to) (aY "ins" (.ref ti) (aY "numbers" (.ref tn) (aY "name" nm [])))
theorem wg (nm:V) (tn ti to:Addr):(Aq nm tn ti to).lookup ("name" :Str)=some nm:=by
 unfold Aq
 rw [aM,if_neg (by decide +kernel),aM,if_neg (by decide +kernel),aM,if_neg (by decide +kernel),aM,if_pos rfl]
theorem flds_numbers (nm:V) (tn ti to:Addr):(Aq nm tn ti to).lookup ("numbers" :Str)=some (.ref tn):=by
 unfold Aq
 rw [aM,if_neg (by decide +kernel),aM,if_neg (by decide +kernel),aM,if_pos rfl]
theorem flds_ins (nm:V) (tn ti to:Addr):(Aq nm tn ti to).lookup ("ins" :Str)=some (.ref ti):=by
 unfold Aq
 rw [aM,if_neg (by decide +kernel),aM,if_pos rfl]
theorem flds_outs (nm:V) (tn ti to:Addr):(Aq nm tn ti to).lookup ("outs" :Str)=some (.ref to):=by
 unfold Aq
 rw [aM,if_pos rfl]
theorem flds_no (nm:V) (tn ti to:Addr) {m:Str} (h1:¬m= "outs") (h2:¬m= "ins") (h3:¬m= "numbers") (h4:¬m= "name"):(Aq nm tn ti to).lookup m=none:=by
 unfold Aq
 rw [aM,if_neg h1,aM,if_neg h2,aM,if_neg h3,aM,if_neg h4]
 all_goals rfl
structure PartAt (K:PySem.W.Frag) (t:Adr) (H:Hp) (p:Addr) (i:Nat) (nm:V) (ns is os:List V):Prop where
 ex:∃dx tn ti to,H p=some (.ins (cls t i) dx (Aq nm tn ti to))∧SqT K H tn ns∧SqT K H ti is∧SqT K H to os
theorem PartAt.same {H H':Hp} {p:Addr} {i:Nat} {nm:V} {ns is os:List V} (h:PartAt K t H p i nm ns is os) (s:aQ H H'):PartAt K t H' p i nm ns is os:=by
 obtain⟨dx,tn,ti,to,h1,h2,h3,h4⟩:=h
 exact⟨dx,tn,ti,to,s _ _ h1,s.seqT h2,s.seqT h3,s.seqT h4⟩
def iR (i:Nat):Sp:=fun vs H Q _=>∃x,vs=[x]∧Q (.str (eO i)) H
def nV (j:Nat):V:=.int (j:Nat)
def Val (v:V):Prop:=∃n:Int,v=.int n∧0≤n∧n <1000000000
inductive Flat:PyData→Prop
 | non:Flat .none
 | int (i:Int):Flat (.int i)
def cH (a b:Int):Int:=((((a % 2147483647 * 48271+7919 * b+11) % 2147483647) * ((a % 2147483647 * 48271+7919 * b+11) % 2147483647) % 2147483629+613 * b) * (((a % 2147483647 * 48271+7919 * b+11) % 2147483647) * ((a % 2147483647 * 48271+7919 * b+11) % 2147483647) % 2147483629)) % 2147483587
theorem uN (a b:Int):0≤cH a b:=Int.emod_nonneg _ (by decide)
def gO (ns:List Int) (j:Nat):Int:=(ns[j]?).getD (41 * (j:Int)+3)
def rU (a b:Int):Int:=if cH a b / 7 % 3=0 then cH a b % 5 else if cH a b / 7 % 3=1 then cH a b % 10 ^ 9 else 10 ^ 9 - 1 - cH a b % 3
theorem wu (a b:Int):0≤rU a b∧rU a b <1000000000:=by
 unfold rU
 have h0:=uN a b
 generalize cH a b=n at h0
 split
 ·omega
 ·split
  ·have h1:=Int.emod_lt_of_pos n (show(0:Int) <10 ^ 9 by decide)
   have h2:=Int.emod_nonneg n (show(10:Int) ^ 9≠0 by decide)
   exact⟨h2,h1⟩
  ·have h1:=Int.emod_lt_of_pos n (show(0:Int) <3 by decide)
   have h2:=Int.emod_nonneg n (show(3:Int)≠0 by decide)
   have e:(10:Int) ^ 9=1000000000:=by decide
   rw [e]
   omega
def low (c:Nat):Bool:=decide (97≤c) && decide (c≤122)
def fig (c:Nat):Bool:=decide (48≤c) && decide (c≤57)
def nameB (x:Str):Bool:=match x.cps.toList with
 | []=>false
 | c:: r=>decide (r.length≤7) && (low c && (c:: r).all fun d=>low d || fig d)
theorem pC (x:Str):x.cps.toList.length=x.length:=by simp [Str.length]
theorem Bc:∀(ws:List Str),(Str.join Str.empty ws).cps.toList=(ws.map fun w=>w.cps.toList).flatten
 | []=>rfl
 | [w]=>by simp [Str.join]
 | w:: v:: r=>by
  have ih:=Bc (v:: r)
  show(w.cps ++ #[] ++ (Str.join Str.empty (v:: r)).cps).toList=_
  rw [Array.toList_append,ih]
  simp
theorem sum_le {n:Nat}:∀(ws:List Str),(∀w∈ws,w.length≤n)→(ws.map (·.length)).sum≤ws.length * n
 | [],_=>by simp
 | w:: r,h=>by
  have h1:=h w (by simp)
  have h2:=sum_le r fun v hv=>h v (by simp [hv])
  simp only [List.map_cons,List.sum_cons,List.length_cons,Nat.add_mul]
  omega
def ltc (n:Int):Nat:=97+(n % 26).toNat
theorem ltc_low (n:Int):low (ltc n)=true:=by
 unfold low ltc
 have h0:=Int.emod_nonneg n (show(26:Int)≠0 by decide)
 have h1:=Int.emod_lt_of_pos n (show(0:Int) <26 by decide)
 simp
 omega
abbrev LT:Str:= "abcdefghijklmnopqrstuvwxyz"
theorem lt_len:LT.length=26:=by decide +kernel
theorem lt_codes:LT.cps.toList=List.range' 97 26:=by decide +kernel
theorem lt_at (n:Int):atI LT.cps.toList (n % 26)=some (ltc n):=by
 have h0:=Int.emod_nonneg n (show(26:Int)≠0 by decide)
 have h1:=Int.emod_lt_of_pos n (show(0:Int) <26 by decide)
 obtain⟨j,hj⟩:∃j:Nat,n % 26=(j:Int):=⟨(n % 26).toNat,by omega⟩
 unfold ltc
 rw [hj,lt_codes]
 exact aN (by rw [List.getElem?_range' (by omega)];simp)
def gP (a:Int):List Nat:=(List.range (cH a 50 % 7).toNat).map fun j=>ltc (cH a (60+(j:Nat)))
def qt (a:Int):Nat:=(cH a 51 % (cH a 50 % 7+1)).toNat
def numC (n:Nat):List Nat:=(toString (Int.ofNat n):Str).cps.toList
def zU (a:Int) (k:Nat):List Nat:=if cH a 52 % 3=0 then ltc (cH a 53):: numC (cH a 54 % 1000+37 * (k:Int)).toNat else(gP a).take (qt a) ++ ltc (cH a 55+k):: (gP a).drop (qt a)
def cU (a:Int) (k:Nat):Str:=⟨(zU a k).toArray⟩
def undig (l:List Nat):Nat:=l.foldl (fun r c=>10 * r+(c - 48)) 0
theorem num_tab:(List.range 2000).all (fun i=>(numC i).all fig && decide ((numC i).length≤4) && decide (undig (numC i)=i))=true:=by decide +kernel
theorem wz {n:Nat} (h:n <2000):(numC n).all fig=true∧(numC n).length≤4∧undig (numC n)=n:=by
 have z:=List.all_eq_true.mp num_tab n (List.mem_range.mpr h)
 simp only [Bool.and_eq_true,decide_eq_true_eq] at z
 exact⟨z.1.1,z.1.2,z.2⟩
theorem Ak (a:Int):(gP a).length≤6∧((gP a).length:Int)=cH a 50 % 7:=by
 unfold gP
 have h0:=Int.emod_nonneg (cH a 50) (show(7:Int)≠0 by decide)
 have h1:=Int.emod_lt_of_pos (cH a 50) (show(0:Int) <7 by decide)
 rw [List.length_map,List.length_range]
 omega
theorem spot_le (a:Int):qt a≤(gP a).length:=by
 have h:=(Ak a).2
 unfold qt
 have h0:=Int.emod_nonneg (cH a 50) (show(7:Int)≠0 by decide)
 have h1:=Int.emod_lt_of_pos (cH a 51) (show(0:Int) <cH a 50 % 7+1 by omega)
 have h2:=Int.emod_nonneg (cH a 51) (show cH a 50 % 7+1≠0 by omega)
 omega
theorem An {x:Str} {c:Nat} {r:List Nat} (e:x.cps.toList=c:: r) (h:r.length≤7) (hc:low c=true) (ha:∀d∈r,low d=true∨fig d=true):nameB x=true:=by
 unfold nameB
 rw [e]
 simp only [Bool.and_eq_true,decide_eq_true_eq,List.all_eq_true,Bool.or_eq_true]
 refine⟨h,hc,fun d hd=>?_⟩
 rcases List.mem_cons.mp hd with rfl | hd
 ·exact .inl hc
 ·exact ha d hd
theorem BV (a:Int) (k:Nat):(cU a k).cps.toList=zU a k:=by simp [cU]
theorem word_ok (a:Int) {k:Nat} (hk:k <26):nameB (cU a k)=true:=by
 have h0:=Int.emod_nonneg (cH a 54) (show(1000:Int)≠0 by decide)
 have h1:=Int.emod_lt_of_pos (cH a 54) (show(0:Int) <1000 by decide)
 have e:=BV a k
 unfold zU at e
 split at e
 ·obtain⟨n1,n2,_⟩:=wz (n:=(cH a 54 % 1000+37 * (k:Int)).toNat) (by omega)
  exact An e (by omega) (ltc_low _) fun c hc=>.inr (List.all_eq_true.mp n1 c hc)
 ·have b1:=(Ak a).1
  have b2:=spot_le a
  have all:∀c∈(gP a).take (qt a) ++ ltc (cH a 55+k):: (gP a).drop (qt a),low c=true:=fun c hc=>by
   have hb:∀c∈gP a,low c=true:=fun c hc=>by
    unfold gP at hc
    obtain⟨j,_,rfl⟩:=List.mem_map.mp hc
    exact ltc_low _
   rcases List.mem_append.mp hc with h | h
   ·exact hb c (List.mem_of_mem_take h)
   ·rcases List.mem_cons.mp h with rfl | h
    ·exact ltc_low _
    ·exact hb c (List.mem_of_mem_drop h)
  have len:((gP a).take (qt a) ++ ltc (cH a 55+k):: (gP a).drop (qt a)).length≤7:=by
   rw [List.length_append,List.length_take,List.length_cons,List.length_drop]
   omega
  have ne:(gP a).take (qt a) ++ ltc (cH a 55+k):: (gP a).drop (qt a)≠[]:=by simp
  generalize (gP a).take (qt a) ++ ltc (cH a 55+k):: (gP a).drop (qt a)=l at all len ne e
  obtain⟨c,r,rfl⟩:=List.exists_cons_of_ne_nil ne
  rw [List.length_cons] at len
  exact An e (by omega) (all c List.mem_cons_self) fun d hd=>.inl (all d (List.mem_cons_of_mem _ hd))
theorem word_inj (a:Int) {j k:Nat} (hj:j <26) (hk:k <26) (h:cU a j=cU a k):j=k:=by
 have e:zU a j=zU a k:=by
  have:=congrArg (fun s:Str=>s.cps.toList) h
  simpa [cU] using this
 unfold zU at e
 split at e
 ·have h0:=Int.emod_nonneg (cH a 54) (show(1000:Int)≠0 by decide)
  have h1:=Int.emod_lt_of_pos (cH a 54) (show(0:Int) <1000 by decide)
  have e2:=congrArg undig (List.cons.inj e).2
  rw [(wz (by omega)).2.2,(wz (by omega)).2.2] at e2
  omega
 ·have e2:=(List.cons.inj (List.append_cancel_left e)).1
  unfold ltc at e2
  omega
namespace Drawn
variable {S:Type}
structure PartD (S:Type) where
 kind:Nat
 name:S
 nums:List Int
 ins:List S
 outs:List S
structure NS (S:Type) where
 lanes:List S
 parts:List (PartD S)
 opens:List S
 back:List S
inductive Conn (ps:List (PartD S)):S→S→Prop
 | refl (x:S):Conn ps x x
 | step {x y z:S} {p:PartD S}:p∈ps→x∈p.ins ++ p.outs→y∈p.ins ++ p.outs→Conn ps y z→Conn ps x z
theorem Conn.trans {ps:List (PartD S)} {x y z:S} (h:Conn ps x y) (k:Conn ps y z):Conn ps x z:=by
 induction h with
 | refl _=>exact k
 | step hp hx hy _ ih=>exact .step hp hx hy (ih k)
theorem Conn.symm {ps:List (PartD S)} {x y:S} (h:Conn ps x y):Conn ps y x:=by
 induction h with
 | refl _=>exact .refl _
 | step hp hx hy _ ih=>exact ih.trans (.step hp hy hx (.refl _))
theorem Conn.mono {ps qs:List (PartD S)} (hs:∀p∈ps,p∈qs) {x y:S} (h:Conn ps x y):Conn qs x y:=by
 induction h with
 | refl _=>exact .refl _
 | step hp hx hy _ ih=>exact .step (hs _ hp) hx hy ih
theorem Conn.part {ps:List (PartD S)} {p:PartD S} (hp:p∈ps) {x y:S} (hx:x∈p.ins ++ p.outs) (hy:y∈p.ins ++ p.outs):Conn ps x y:=.step hp hx hy (.refl _)
structure WF (ns:NS S):Prop where
 nod:ns.lanes.Nodup
 outs:((ns.parts.flatMap (·.outs)) ++ ns.back).Perm ns.lanes
 ins:((ns.parts.flatMap (·.ins)) ++ ns.opens).Perm ns.lanes
 hang:∀p∈ns.parts,∃x∈p.ins ++ p.outs,∃o∈ns.opens,Conn ns.parts x o
 touch:∀p∈ns.parts,p.ins ++ p.outs≠[]
theorem WF.add {ns:NS S} (w:WF ns) {p:PartD S} {newl opens' back':List S} (hn:(ns.lanes ++ newl).Nodup) (ho:(p.outs ++ back').Perm (ns.back ++ newl)) (hi:(p.ins ++ opens').Perm (ns.opens ++ newl))
  (hg:∀o∈ns.opens,∃o'∈opens',Conn (ns.parts ++ [p]) o o') (hp:∃x∈p.ins ++ p.outs,∃o∈opens',Conn (ns.parts ++ [p]) x o):
  WF { lanes:=ns.lanes ++ newl,parts:=ns.parts ++ [p],opens:=opens',back:=back' }:=by
 have mono:∀q∈ns.parts,q∈ns.parts ++ [p]:=fun q hq=>List.mem_append.mpr (.inl hq)
 refine⟨hn,?_,?_,?_,?_⟩
 ·have e:(ns.parts ++ [p]).flatMap (·.outs)=ns.parts.flatMap (·.outs) ++ p.outs:=by simp
  show(((ns.parts ++ [p]).flatMap (·.outs)) ++ back').Perm _
  rw [e,List.append_assoc]
  exact(ho.append_left _).trans (by rw [←List.append_assoc];exact w.outs.append_right _)
 ·have e:(ns.parts ++ [p]).flatMap (·.ins)=ns.parts.flatMap (·.ins) ++ p.ins:=by simp
  show(((ns.parts ++ [p]).flatMap (·.ins)) ++ opens').Perm _
  rw [e,List.append_assoc]
  exact(hi.append_left _).trans (by rw [←List.append_assoc];exact w.ins.append_right _)
 ·intro q hq
  rcases List.mem_append.mp hq with h | h
  ·obtain⟨x,hx,o,hoq,c⟩:=w.hang q h
   obtain⟨o',ho',c'⟩:=hg o hoq
   exact⟨x,hx,o',ho',(c.mono mono).trans c'⟩
  ·rw [List.mem_singleton] at h
   subst h
   exact hp
 ·intro q hq
  rcases List.mem_append.mp hq with h | h
  ·exact w.touch q h
  ·rw [List.mem_singleton] at h
   subst h
   obtain⟨x,hx,_⟩:=hp
   intro z
   rw [z] at hx
   cases hx
theorem WF.start:WF (⟨[],[],[],[]⟩:NS S):=⟨List.nodup_nil,.refl _,.refl _,fun p hp=>(by cases hp),fun p hp=>(by cases hp)⟩
theorem WF.backLane {ns:NS S} (w:WF ns) {b:S} (hn:(ns.lanes ++ [b]).Nodup):WF { ns with lanes:=ns.lanes ++ [b],opens:=ns.opens ++ [b],back:=ns.back ++ [b] }:=by
 refine⟨hn,?_,?_,fun p hp=>?_,w.touch⟩
 ·show(_ ++ (ns.back ++ [b])).Perm _
  rw [←List.append_assoc]
  exact w.outs.append_right _
 ·show(_ ++ (ns.opens ++ [b])).Perm _
  rw [←List.append_assoc]
  exact w.ins.append_right _
 ·obtain⟨x,hx,o,ho,c⟩:=w.hang p hp
  exact⟨x,hx,o,List.mem_append.mpr (.inl ho),c⟩
theorem WF.part {ns:NS S} (w:WF ns) {p:PartD S} {rest:List S} (hi:ns.opens.Perm (p.ins ++ rest)) (hf:(ns.lanes ++ p.outs).Nodup) (ho:p.outs≠[]):
  WF { ns with lanes:=ns.lanes ++ p.outs,parts:=ns.parts ++ [p],opens:=rest ++ p.outs }:=by
 have hp:p∈ns.parts ++ [p]:=by simp
 obtain⟨o1,hoo⟩:∃o1,o1∈p.outs:=List.exists_mem_of_ne_nil _ ho
 have h1:o1∈rest ++ p.outs:=List.mem_append.mpr (.inr hoo)
 refine w.add hf List.perm_append_comm ?_ (fun o h=>?_) ⟨o1,List.mem_append.mpr (.inr hoo),o1,h1,.refl _⟩
 ·rw [←List.append_assoc]
  exact hi.symm.append_right _
 ·rcases List.mem_append.mp (hi.mem_iff.mp h) with h | h
  ·exact⟨o1,h1,Conn.part hp (List.mem_append.mpr (.inl h)) (List.mem_append.mpr (.inr hoo))⟩
  ·exact⟨o,List.mem_append.mpr (.inl h),.refl _⟩
theorem WF.take {ns:NS S} (w:WF ns) {p:PartD S} {rest:List S} {y x:S} (hi:p.ins=[y]) (ho:p.outs=[]) (hr:ns.opens.Perm (y:: rest)) (hx:x∈rest) (c:Conn ns.parts y x):
  WF { ns with parts:=ns.parts ++ [p],opens:=rest }:=by
 have mono:∀q∈ns.parts,q∈ns.parts ++ [p]:=fun q hq=>List.mem_append.mpr (.inl hq)
 have:=w.add (p:=p) (newl:=[]) (opens':=rest) (back':=ns.back) (by rw [List.append_nil];exact w.nod) (by rw [ho,List.append_nil];exact .refl _) (by rw [hi,List.append_nil];exact hr.symm)
  (fun o h=>by
   rcases List.mem_cons.mp (hr.mem_iff.mp h) with rfl | h
   ·exact⟨x,hx,c.mono mono⟩
   ·exact⟨o,h,.refl _⟩) ⟨y,by simp [hi],x,hx,c.mono mono⟩
 rw [List.append_nil] at this
 exact this
theorem WF.loop {ns:NS S} (w:WF ns) {p:PartD S} {rest:List S} {one own fresh:S} (hi:p.ins=[one,own]) (ho:p.outs=[own,fresh]) (hr:ns.opens.Perm (one:: rest)) (hn:(ns.lanes ++ [own,fresh]).Nodup):
  WF { ns with lanes:=ns.lanes ++ [own,fresh],parts:=ns.parts ++ [p],opens:=rest ++ [fresh] }:=by
 have hp:p∈ns.parts ++ [p]:=by simp
 have hf:fresh∈rest ++ [fresh]:=by simp
 refine w.add hn (by rw [ho];exact List.perm_append_comm) ?_ (fun o h=>?_) ⟨fresh,by simp [ho],fresh,hf,.refl _⟩
 ·rw [hi]
  show(one:: own:: (rest ++ [fresh])).Perm (ns.opens ++ [own,fresh])
  refine .trans ?_ (hr.symm.append_right _)
  refine .cons _ ?_
  show(own:: (rest ++ [fresh])).Perm (rest ++ ([own] ++ [fresh]))
  rw [←List.append_assoc]
  exact(List.perm_append_comm (l₁:=[own]) (l₂:=rest)).append_right [fresh]
 ·rcases List.mem_cons.mp (hr.mem_iff.mp h) with rfl | h
  ·exact⟨fresh,hf,Conn.part hp (by simp [hi]) (by simp [ho])⟩
  ·exact⟨o,List.mem_append.mpr (.inl h),.refl _⟩
theorem WF.closeBack {ns:NS S} (w:WF ns) {p:PartD S} {rest:List S} {one b fresh:S} (hi:p.ins=[one]) (ho:p.outs=[b,fresh]) (hb:ns.back.Perm (b:: rest)) (h1:ns.opens=[one]) (hn:(ns.lanes ++ [fresh]).Nodup):
  WF { lanes:=ns.lanes ++ [fresh],parts:=ns.parts ++ [p],opens:=[fresh],back:=rest }:=by
 have hp:p∈ns.parts ++ [p]:=by simp
 refine w.add hn ?_ (by rw [hi,h1]) (fun o h=>?_) ⟨fresh,by simp [ho],fresh,by simp,.refl _⟩
 ·rw [ho]
  show(b:: fresh:: rest).Perm (ns.back ++ [fresh])
  refine .trans ?_ (hb.symm.append_right _)
  exact .cons _ (List.perm_append_comm (l₁:=[fresh]) (l₂:=rest))
 ·rw [h1,List.mem_singleton] at h
  subst h
  exact⟨fresh,by simp,Conn.part hp (by simp [hi]) (by simp [ho])⟩
theorem WF.last {ns:NS S} (w:WF ns) {p:PartD S} {y:S} (hb:ns.back=[]) (h1:ns.opens=[y]) (hi:p.ins=[y]) (ho:p.outs=[]):
  ((ns.parts ++ [p]).flatMap (·.outs)).Perm ns.lanes∧((ns.parts ++ [p]).flatMap (·.ins)).Perm ns.lanes∧∀q∈ns.parts ++ [p],∃x∈q.ins ++ q.outs,Conn (ns.parts ++ [p]) x y:=by
 have mono:∀q∈ns.parts,q∈ns.parts ++ [p]:=fun q hq=>List.mem_append.mpr (.inl hq)
 refine⟨?_,?_,?_⟩
 ·have e:(ns.parts ++ [p]).flatMap (·.outs)=ns.parts.flatMap (·.outs):=by simp [ho]
  rw [e]
  have:=w.outs
  rw [hb,List.append_nil] at this
  exact this
 ·have e:(ns.parts ++ [p]).flatMap (·.ins)=ns.parts.flatMap (·.ins) ++ [y]:=by simp [hi]
  rw [e]
  have:=w.ins
  rw [h1] at this
  exact this
 ·intro q hq
  rcases List.mem_append.mp hq with h | h
  ·obtain⟨x,hx,o,hoq,c⟩:=w.hang q h
   rw [h1,List.mem_singleton] at hoq
   subst hoq
   exact⟨x,hx,c.mono mono⟩
  ·rw [List.mem_singleton] at h
   subst h
   exact⟨y,by simp [hi],.refl _⟩
theorem all_joined {ps:List (PartD S)} {J:PartD S→Prop} (closed:∀(l:S) (p q:PartD S),p∈ps→q∈ps→l∈p.ins ++ p.outs→l∈q.ins ++ q.outs→J p→J q) {y:S} (hang:∀q∈ps,∃x∈q.ins ++ q.outs,Conn ps x y)
  {p0:PartD S} (hp0:p0∈ps) (h0:J p0):∀q∈ps,J q:=by
 have go:∀{x z:S},Conn ps x z→(∃p∈ps,x∈p.ins ++ p.outs∧J p)→∃p∈ps,z∈p.ins ++ p.outs∧J p:=by
  intro x z c
  induction c with
  | refl _=>exact id
  | step hp hx hy _ ih=>
   rintro⟨p',hp',hx',hJ⟩
   exact ih ⟨_,hp,hy,closed _ _ _ hp' hp hx' hx hJ⟩
 obtain⟨x0,hx0,c0⟩:=hang p0 hp0
 have hy:=go c0 ⟨p0,hp0,hx0,h0⟩
 intro q hq
 obtain⟨x,hx,c⟩:=hang q hq
 obtain⟨p',hp',hx',hJ⟩:=go c.symm hy
 exact closed _ _ _ hp' hq hx' hx hJ
theorem one_giver {ps:List (PartD S)} (f:PartD S→List S) (h:(ps.flatMap f).Nodup) {i j:Nat} {p q:PartD S} {l:S} (hi:ps[i]?=some p) (hj:ps[j]?=some q) (hp:l∈f p) (hq:l∈f q):i=j:=by
 induction ps generalizing i j with
 | nil=>cases hi
 | cons r rs ih=>
  rw [List.flatMap_cons,List.nodup_append] at h
  obtain⟨h1,h2,h3⟩:=h
  have far:∀{k:Nat} {s:PartD S},rs[k]?=some s→l∈f s→l∈rs.flatMap f:=fun e hs=>List.mem_flatMap.mpr ⟨_,List.mem_of_getElem? e,hs⟩
  match i,j with
  | 0,0=>rfl
  | 0,j+1=>
   simp only [List.getElem?_cons_zero,Option.some.injEq] at hi
   subst hi
   exact absurd rfl (h3 l hp l (far (by simpa using hj) hq))
  | i+1,0=>
   simp only [List.getElem?_cons_zero,Option.some.injEq] at hj
   subst hj
   exact absurd rfl (h3 l hq l (far (by simpa using hi) hp))
  | i+1,j+1=>exact congrArg (· +1) (ih h2 (by simpa using hi) (by simpa using hj))
end Drawn
structure LaneD where
 name:Str
 room:Int
 first:List Int
def LaneD.ok (l:LaneD):Prop:=1≤l.room∧l.room≤10∧(l.first.length:Int)≤l.room∧∀v∈l.first,0≤v∧v <1000000000
abbrev PD:=Drawn.PartD Str
def PartOk (p:PD):Prop:=p.kind <11∧p.nums.length=cN p.kind∧p.ins.length=cI p.kind∧p.outs.length=cO p.kind∧∀v∈p.nums,0≤v∧v <1000000000
def bK (E:List Addr) (H:Hp):Hp:=fun b=>if b∈E then none else H b
theorem fC {E:List Addr} {H:Hp}:aQ (bK E H) H:=fun b o e=>by
 unfold bK at e
 split at e
 ·cases e
 ·exact e
theorem fY {E:List Addr} {H:Hp} {p:Addr} {o:HO} (h:H p=some o) (n:p∉E):bK E H p=some o:=by
 unfold bK
 rw [if_neg n]
 exact h
theorem dF {E:List Addr} {H:Hp} {a:Addr} {o:HO} (h:a∈E):bK E (upd H a o)=bK E H:=by
 funext b
 unfold bK
 split
 ·rfl
 ·rename_i n
  rw [aH (fun z=>n (by rw [z];exact h))]
theorem Aw {E:List Addr} {H H':Hp} (s:aQ H H') (hE:∀a∈E,∃o,H a=some o):aQ (bK E H) (bK E H'):=fun b o e=>by
 have e':=fC b o e
 unfold bK at e ⊢
 split at e
 ·cases e
 ·rename_i n
  rw [if_neg n]
  exact s _ _ e'
inductive All2 {α β:Type} (R:α→β→Prop):List α→List β→Prop
 | nil:All2 R [] []
 | cons {a:α} {b:β} {l:List α} {m:List β}:R a b→All2 R l m→All2 R (a:: l) (b:: m)
theorem All2.imp {α β:Type} {R R':α→β→Prop} (h:∀a b,R a b→R' a b):∀{l:List α} {m:List β},All2 R l m→All2 R' l m
 | _,_,.nil=>.nil
 | _,_,.cons r t=>.cons (h _ _ r) (t.imp h)
theorem All2.length {α β:Type} {R:α→β→Prop}:∀{l:List α} {m:List β},All2 R l m→l.length=m.length
 | _,_,.nil=>rfl
 | _,_,.cons _ t=>by rw [List.length_cons,List.length_cons,t.length]
theorem All2.app {α β:Type} {R:α→β→Prop}:∀{l l':List α} {m m':List β},All2 R l m→All2 R l' m'→All2 R (l ++ l') (m ++ m')
 | _,_,_,_,.nil,h=>h
 | _,_,_,_,.cons r t,h=>.cons r (t.app h)
theorem All2.get {α β:Type} {R:α→β→Prop}:∀{l:List α} {m:List β},All2 R l m→∀{i:Nat} {a:α},l[i]?=some a→∃b,m[i]?=some b∧R a b
 | _,_,.nil,_,_,h=>by simp at h
 | _,_,.cons r t,0,_,h=>by
  simp only [List.getElem?_cons_zero,Option.some.injEq] at h
  subst h
  exact⟨_,rfl,r⟩
 | _,_,.cons r t,i+1,_,h=>t.get (i:=i) (by simpa using h)
theorem All2.take {α β:Type} {R:α→β→Prop}:∀{l:List α} {m:List β},All2 R l m→∀n:Nat,All2 R (l.take n) (m.take n)
 | _,_,.nil,_=>by simp;exact .nil
 | _,_,.cons r t,0=>by simp;exact .nil
 | _,_,.cons r t,n+1=>by simp;exact .cons r (t.take n)
theorem All2.drop {α β:Type} {R:α→β→Prop}:∀{l:List α} {m:List β},All2 R l m→∀n:Nat,All2 R (l.drop n) (m.drop n)
 | _,_,.nil,_=>by simp;exact .nil
 | _,_,.cons r t,0=>.cons r t
 | _,_,.cons r t,n+1=>by simp;exact t.drop n
def yZ (G:Hp) (v:V) (l:LaneD):Prop:=∃q f,v=.ref q∧G q=some (.tup [.str l.name,.int l.room,.ref f])∧G f=some (.lst (l.first.map V.int))
def RowAt (G:Hp) (v:V) (p:PD):Prop:=∃q a1 a2 a3,v=.ref q∧G q=some (.tup [.str (eO p.kind),.str p.name,.ref a1,.ref a2,.ref a3])∧G a1=some (.lst (p.nums.map V.int))∧G a2=some (.lst (p.ins.map V.str))∧G a3=some (.lst (p.outs.map V.str))
theorem yZ.same {G G':Hp} {v:V} {l:LaneD} (h:yZ G v l) (s:aQ G G'):yZ G' v l:=by
 obtain⟨q,f,e,h1,h2⟩:=h
 exact⟨q,f,e,s _ _ h1,s _ _ h2⟩
theorem RowAt.same {G G':Hp} {v:V} {p:PD} (h:RowAt G v p) (s:aQ G G'):RowAt G' v p:=by
 obtain⟨q,a1,a2,a3,e,h1,h2,h3,h4⟩:=h
 exact⟨q,a1,a2,a3,e,s _ _ h1,s _ _ h2,s _ _ h3,s _ _ h4⟩
structure Dw where
 S:Addr
 L:Addr
 P:Addr
 O:Addr
 c3:Int
 c4:Int
abbrev Dw.E (d:Dw):List Addr:=[d.L,d.P,d.O]
structure DAt (d:Dw) (H:Hp) (ls:List LaneD) (ps:List PD) (os:List Str):Prop where
 top:bK d.E H d.S=some (.lst [.ref d.L,.ref d.P,.ref d.O,.int d.c3,.int d.c4])
 lanes:∃xs,H d.L=some (.lst xs)∧All2 (yZ (bK d.E H)) xs ls
 parts:∃xs,H d.P=some (.lst xs)∧All2 (RowAt (bK d.E H)) xs ps
 opens:H d.O=some (.lst (os.map V.str))
 ne:d.L≠d.P∧d.L≠d.O∧d.P≠d.O
 lok:∀l∈ls,l.ok
 pok:∀p∈ps,PartOk p
 ln:ls.map (·.name)=(List.range ls.length).map (cU d.c3)
 pn:ps.map (·.name)=(List.range ps.length).map (cU d.c4)
theorem DAt.seqS {d:Dw} {H:Hp} {ls:List LaneD} {ps:List PD} {os:List Str} (D:DAt d H ls ps os):SqL K H d.S [.ref d.L,.ref d.P,.ref d.O,.int d.c3,.int d.c4]:=SqL.of (fC _ _ D.top)
theorem DAt.has {d:Dw} {H:Hp} {ls:List LaneD} {ps:List PD} {os:List Str} (D:DAt d H ls ps os) {a:Addr} (h:a∈d.E):∃o,H a=some o:=by
 obtain⟨_,e1,_⟩:=D.lanes
 obtain⟨_,e2,_⟩:=D.parts
 rcases List.mem_cons.mp h with rfl | h
 ·exact⟨_,e1⟩
 ·rcases List.mem_cons.mp h with rfl | h
  ·exact⟨_,e2⟩
  ·rw [List.mem_singleton] at h
   subst h
   exact⟨_,D.opens⟩
theorem DAt.out {d:Dw} {H:Hp} {ls:List LaneD} {ps:List PD} {os:List Str} (D:DAt d H ls ps os) {p:Addr} (h:H p=none):p∉d.E:=fun z=>by
 obtain⟨o,e⟩:=D.has z
 rw [h] at e
 cases e
theorem DAt.keep {d:Dw} {H H':Hp} {ls:List LaneD} {ps:List PD} {os:List Str} (D:DAt d H ls ps os) (s:aQ H H'):DAt d H' ls ps os:=by
 obtain⟨xs,e1,a1⟩:=D.lanes
 obtain⟨ys,e2,a2⟩:=D.parts
 have c:=Aw (E:=d.E) s (fun a h=>D.has h)
 exact⟨c _ _ D.top,⟨xs,s _ _ e1,a1.imp fun _ _ h=>h.same c⟩,⟨ys,s _ _ e2,a2.imp fun _ _ h=>h.same c⟩,s _ _ D.opens,D.ne,D.lok,D.pok,D.ln,D.pn⟩
theorem DAt.cut {d:Dw} {H H':Hp} {ls:List LaneD} {ps:List PD} {os:List Str} (D:DAt d H ls ps os) (s:aQ H H'):aQ (bK d.E H) (bK d.E H'):=Aw s (fun _ h=>D.has h)
theorem name_next {α:Type} {f:α→Str} {w:Nat→Str} {l:List α} {x:α} (h:l.map f=(List.range l.length).map w) (hx:f x=w l.length):(l ++ [x]).map f=(List.range (l ++ [x]).length).map w:=by
 rw [List.map_append,List.length_append,List.length_singleton,List.range_succ,List.map_append,h,List.map_singleton,List.map_singleton,hx]
theorem DAt.lane {d:Dw} {H:Hp} {ls:List LaneD} {ps:List PD} {os:List Str} (D:DAt d H ls ps os) {v:V} {l:LaneD} (h:yZ (bK d.E H) v l) (hl:l.ok) (hn:l.name=cU d.c3 ls.length) {xs:List V} (e:H d.L=some (.lst xs)):
  DAt d (upd H d.L (.lst (xs ++ [v]))) (ls ++ [l]) ps os:=by
 obtain⟨xs',e1,a1⟩:=D.lanes
 obtain⟨ys,e2,a2⟩:=D.parts
 rw [e] at e1
 cases e1
 have c:bK d.E (upd H d.L (.lst (xs ++ [v])))=bK d.E H:=dF (by simp)
 refine⟨by rw [c];exact D.top,⟨_,au,by rw [c];exact a1.app (.cons h .nil)⟩,⟨ys,by rw [aH (Ne.symm D.ne.1)];exact e2,by rw [c];exact a2⟩,by rw [aH (Ne.symm D.ne.2.1)];exact D.opens,D.ne,fun x hx=>?_,D.pok,name_next D.ln hn,D.pn⟩
 rcases List.mem_append.mp hx with hx | hx
 ·exact D.lok x hx
 ·rw [List.mem_singleton] at hx
  subst hx
  exact hl
theorem DAt.part {d:Dw} {H:Hp} {ls:List LaneD} {ps:List PD} {os:List Str} (D:DAt d H ls ps os) {v:V} {p:PD} (h:RowAt (bK d.E H) v p) (hl:PartOk p) (hn:p.name=cU d.c4 ps.length) {xs:List V} (e:H d.P=some (.lst xs)):
  DAt d (upd H d.P (.lst (xs ++ [v]))) ls (ps ++ [p]) os:=by
 obtain⟨xs',e1,a1⟩:=D.lanes
 obtain⟨ys,e2,a2⟩:=D.parts
 rw [e] at e2
 cases e2
 have c:bK d.E (upd H d.P (.lst (xs ++ [v])))=bK d.E H:=dF (by simp)
 refine⟨by rw [c];exact D.top,⟨_,by rw [aH D.ne.1];exact e1,by rw [c];exact a1⟩,⟨_,au,by rw [c];exact a2.app (.cons h .nil)⟩,by rw [aH (Ne.symm D.ne.2.2)];exact D.opens,D.ne,D.lok,fun x hx=>?_,D.ln,name_next D.pn hn⟩
 rcases List.mem_append.mp hx with hx | hx
 ·exact D.pok x hx
 ·rw [List.mem_singleton] at hx
  subst hx
  exact hl
theorem DAt.open {d:Dw} {H:Hp} {ls:List LaneD} {ps:List PD} {os os':List Str} (D:DAt d H ls ps os):DAt d (upd H d.O (.lst (os'.map V.str))) ls ps os':=by
 obtain⟨xs,e1,a1⟩:=D.lanes
 obtain⟨ys,e2,a2⟩:=D.parts
 have c:bK d.E (upd H d.O (.lst (os'.map V.str)))=bK d.E H:=dF (by simp)
 exact⟨by rw [c];exact D.top,⟨xs,by rw [aH D.ne.2.1];exact e1,by rw [c];exact a1⟩,⟨ys,by rw [aH D.ne.2.2];exact e2,by rw [c];exact a2⟩,au,D.ne,D.lok,D.pok,D.ln,D.pn⟩
theorem zW (a:Int) {n:Nat} (h:n≤26):((List.range n).map (cU a)).Nodup:=by
 induction n with
 | zero=>exact List.nodup_nil
 | succ n ih=>
  rw [List.range_succ,List.map_append,List.nodup_append]
  refine⟨ih (by omega),by simp,fun x hx y hy=>?_⟩
  obtain⟨j,hj,rfl⟩:=List.mem_map.mp hx
  rw [List.map_singleton,List.mem_singleton] at hy
  subst hy
  have hj':=List.mem_range.mp hj
  intro z
  have:=word_inj a (by omega) (by omega) z
  omega
abbrev vI (ls:List LaneD) (ps:List PD) (os back:List Str):Drawn.NS Str:=⟨ls.map (·.name),ps,os,back⟩
theorem DAt.nod {d:Dw} {H:Hp} {ls:List LaneD} {ps:List PD} {os:List Str} (D:DAt d H ls ps os) (h:ls.length≤26):(ls.map (·.name)).Nodup:=by
 rw [D.ln]
 exact zW _ h
theorem WFperm {ns:Drawn.NS Str} (w:Drawn.WF ns) {os:List Str} (h:ns.opens.Perm os):Drawn.WF { ns with opens:=os }:=
 ⟨w.nod,w.outs,(h.symm.append_left _).trans w.ins,fun p hp=>by
  obtain⟨x,hx,o,ho,c⟩:=w.hang p hp
  exact⟨x,hx,o,h.mem_iff.mp ho,c⟩,w.touch⟩
theorem rQ {d:Dw} {H:Hp} {ls newl:List LaneD} {ps:List PD} {p:PD} {os ops back:List Str} (w:Drawn.WF (vI ls ps ops back)) (ho:p.outs=newl.map (·.name)) (D:DAt d H (ls ++ newl) (ps ++ [p]) (os ++ newl.map (·.name))) (hi:ops.Perm (p.ins ++ os)) (hne:newl.length≠0) (hl:(ls ++ newl).length≤26):
  Drawn.WF (vI (ls ++ newl) (ps ++ [p]) (os ++ newl.map (·.name)) back):=by
 have nd:=D.nod hl
 rw [List.map_append] at nd
 have:=w.part (p:=p) hi (by rw [ho];exact nd) (by rw [ho];intro z;exact hne (by rw [←List.length_map (f:=fun l:LaneD=>l.name),z];rfl))
 rw [ho] at this
 unfold vI
 rw [List.map_append]
 exact this
structure Nxt (d:Dw) (H H':Hp) (ls:List LaneD) (ps:List PD) (back:List Str) (ls':List LaneD) (ps':List PD) (os':List Str):Prop where
 cut:aQ (bK d.E H) (bK d.E H')
 at':DAt d H' ls' ps' os'
 wf:Drawn.WF (vI ls' ps' os' back)
 o1:1≤os'.length
 o4:os'.length≤4
 l2:ls'.length≤ls.length+2
 p2:ps'.length≤ps.length+2
theorem Bm {c X Y B:Prop} [Decidable c] (k:B) (hx:c→B→X) (hy:B→Y):if c then X else Y:=by
 split
 ·rename_i h;exact hx h k
 ·exact hy k
theorem hide {t u:TS} {D:Ends} {σ:St} {H:Hp} (h:∀v,v=u→zu t v D σ H):zu t u D σ H:=h u rfl
theorem hideG {i:Nat} {x:V} {t u:TS} {D:Ends} {σ:St} {H:Hp} (h:∀E,E=D→∀v,v=u→zu t v E (σ.set i (some x)) H):gName i x σ H fun σ2 H2=>zu t u D σ2 H2:=h D rfl u rfl
theorem hideD {i:Nat} {x:V} {t:TS} {D:Ends} {σ:St} {H:Hp} (h:∀E,E=D→t E (σ.set i (some x)) H):gName i x σ H fun σ2 H2=>t D σ2 H2:=h D rfl
theorem hideW {t u:TS} {D:Ends} {σ:St} {H:Hp} (h:∀E,E=D→∀v,v=u→zu t v E σ H):zu t u D σ H:=h D rfl u rfl
theorem bJ {t u v:TS} {D:Ends} {σ:St} {H:Hp} (hv:v=zu t u) (h:∀w,w=u→zu t w D σ H):v D σ H:=by
 subst hv
 exact h u rfl
theorem DAt.two {d:Dw} {H:Hp} {ls:List LaneD} {ps:List PD} {os:List Str} (D:DAt d H ls ps os) {a1 a2:Addr} {x y:HO} (n1:H a1=none) (n2:upd H a1 x a2=none):
  DAt d (upd (upd H a1 x) a2 y) ls ps os∧bK d.E (upd (upd H a1 x) a2 y) a1=some x∧bK d.E (upd (upd H a1 x) a2 y) a2=some y∧aQ (bK d.E H) (bK d.E (upd (upd H a1 x) a2 y)):=by
 have s1:=aD (o:=x) n1
 have s2:=aD (o:=y) n2
 have s:=s1.trans s2
 exact⟨D.keep s,fY (s2 _ _ au) (D.out n1),fY au (D.out (s1.free n2)),D.cut s⟩
structure Whole (lanes:List Str) (ps:List PD):Prop where
 nod:lanes.Nodup
 outs:(ps.flatMap (·.outs)).Perm lanes
 ins:(ps.flatMap (·.ins)).Perm lanes
 hang:∃y,∀q∈ps,∃x∈q.ins ++ q.outs,Drawn.Conn ps x y
def lenAt (H:Hp) (a:Addr):Nat:=match H a with
 | some (.lst xs)=>xs.length
 | _=>0
theorem yj {H:Hp} {a:Addr} {xs:List V} (h:H a=some (.lst xs)):lenAt H a=xs.length:=by
 unfold lenAt
 rw [h]
theorem modNat (m:Int) {n:Int} {k:Nat} (h0:0 <n) (hk:n=k):∃j:Nat,m % n=(j:Int)∧j <k:=by
 have h1:=Int.emod_nonneg m (Int.ne_of_gt h0)
 have h2:=Int.emod_lt_of_pos m h0
 exact⟨(m % n).toNat,(Int.toNat_of_nonneg h1).symm,by omega⟩
theorem pick3 (m:Int):∃i:Nat,atI [V.str "add",V.str "less",V.str "add"] (m % 3)=some (.str (eO i))∧(i=6∨i=7):=by
 have key:∀j,j <3→atI [V.str "add",V.str "less",V.str "add"] ((j:Nat):Int)=some (.str (eO (([6,7,6]:List Nat).getD j 0)))∧(([6,7,6]:List Nat).getD j 0=6∨([6,7,6]:List Nat).getD j 0=7):=by decide +kernel
 obtain⟨j,e,hj⟩:=modNat m (n:=3) (k:=3) (by decide) rfl
 rw [e]
 exact⟨_,key j hj⟩
structure NetD (c3 c4:Int) (ls:List LaneD) (ps:List PD):Prop where
 lok:∀l∈ls,l.ok
 pok:∀p∈ps,PartOk p
 ln:ls.map (·.name)=(List.range ls.length).map (cU c3)
 pn:((List.range ps.length).map (cU c4)).Perm (ps.map (·.name))
 whole:Whole (ls.map (·.name)) ps
 l1:1≤ls.length
 l17:ls.length≤17
 p1:1≤ps.length
 p16:ps.length≤16
structure NetAt (H:Hp) (L P:Addr) (ls:List LaneD) (ps:List PD):Prop where
 lanes:∃xs,H L=some (.lst xs)∧All2 (yZ H) xs ls
 parts:∃xs,H P=some (.lst xs)∧All2 (RowAt H) xs ps
theorem NetAt.same {H H':Hp} {L P:Addr} {ls:List LaneD} {ps:List PD} (h:NetAt H L P ls ps) (s:aQ H H'):NetAt H' L P ls ps:=by
 obtain⟨⟨xs,e1,a1⟩,⟨ys,e2,a2⟩⟩:=h
 exact⟨⟨xs,s _ _ e1,a1.imp fun _ _ h=>h.same s⟩,⟨ys,s _ _ e2,a2.imp fun _ _ h=>h.same s⟩⟩
theorem Conn_perm {ps qs:List PD} (h:ps.Perm qs) {x y:Str} (c:Drawn.Conn ps x y):Drawn.Conn qs x y:=c.mono fun _ hp=>h.mem_iff.mp hp
theorem Whole.perm {ns:List Str} {ps qs:List PD} (w:Whole ns ps) (h:ps.Perm qs):Whole ns qs:=by
 obtain⟨y,hy⟩:=w.hang
 exact⟨w.nod,(h.symm.flatMap_right _).trans w.outs,(h.symm.flatMap_right _).trans w.ins,y,fun q hq=>by
  obtain⟨x,hx,c⟩:=hy q (h.mem_iff.mpr hq)
  exact⟨x,hx,Conn_perm h c⟩⟩
theorem rot_perm {α:Type} (l:List α) (n:Nat):l.Perm (l.drop n ++ l.take n):=by
 have h:l.Perm (l.take n ++ l.drop n):=by rw [List.take_append_drop]
 exact h.trans List.perm_append_comm
theorem cutV_from (xs:List V) (g:Nat):cutV xs (some (g:Int)) none=xs.drop g:=by
 unfold cutV
 rw [HT.sIx_none,HT.sIx_nat,←List.length_drop,List.take_length]
 rcases Nat.le_total g xs.length with h | h
 ·rw [Nat.min_eq_left h]
 ·rw [Nat.min_eq_right h,List.drop_length,List.drop_eq_nil_of_le h]
theorem cutV_to (xs:List V) (g:Nat):cutV xs none (some (g:Int))=xs.take g:=by
 unfold cutV
 rw [HT.sIx_none,HT.sIx_nat,List.drop_zero,Nat.sub_zero]
 rcases Nat.le_total g xs.length with h | h
 ·rw [Nat.min_eq_left h]
 ·rw [Nat.min_eq_right h,List.take_length,List.take_of_length_le h]
theorem DAt.init {H:Hp} {S L P O:Addr} (c3 c4:Int) (nL:H L=none) (nP:upd H L (.lst []) P=none) (nO:upd (upd H L (.lst [])) P (.lst []) O=none) (nS:upd (upd (upd H L (.lst [])) P (.lst [])) O (.lst []) S=none):
  DAt ⟨S,L,P,O,c3,c4⟩ (upd (upd (upd (upd H L (.lst [])) P (.lst [])) O (.lst [])) S (.lst [.ref L,.ref P,.ref O,.int c3,.int c4])) [] [] []∧aQ H (bK [L,P,O] (upd (upd (upd (upd H L (.lst [])) P (.lst [])) O (.lst [])) S (.lst [.ref L,.ref P,.ref O,.int c3,.int c4])))∧H P=none:=by
 have s1:=aD (o:=.lst []) nL
 have s2:=aD (o:=.lst []) nP
 have s3:=aD (o:=.lst []) nO
 have s4:=aD (o:=.lst [.ref L,.ref P,.ref O,.int c3,.int c4]) nS
 have e1:=s4 _ _ (s3 _ _ (s2 L (.lst []) au))
 have e2:=s4 _ _ (s3 P (.lst []) au)
 have e3:=s4 O (.lst []) au
 have n1:L≠P:=aF (au (H:=H) (o:=.lst [])) nP
 have n2:L≠O:=aF (s2 L (.lst []) au) nO
 have n3:P≠O:=aF (au (H:=upd H L (.lst [])) (o:=.lst [])) nO
 have m1:L≠S:=aF (s3 _ _ (s2 L (.lst []) au)) nS
 have m2:P≠S:=aF (s3 P (.lst []) au) nS
 have m3:O≠S:=aF (au (H:=upd (upd H L (.lst [])) P (.lst [])) (o:=.lst [])) nS
 refine⟨⟨fY au ?_,⟨[],e1,.nil⟩,⟨[],e2,.nil⟩,e3,⟨n1,n2,n3⟩,(fun _ h=>by cases h),(fun _ h=>by cases h),rfl,rfl⟩,fun b o e=>fY (s4 _ _ (s3 _ _ (s2 _ _ (s1 _ _ e)))) ?_,s1.free nP⟩
 ·show S∉[L,P,O]
  simp [m1.symm,m2.symm,m3.symm]
 ·have q1:=aF e nL
  have q2:=aF (s1 _ _ e) nP
  have q3:=aF (s2 _ _ (s1 _ _ e)) nO
  simp [q1,q2,q3]
abbrev LET:Str:= "abcdefghijklmnopqrstuvwxyz"
abbrev FIG:Str:= "0123456789"
theorem let_codes:LET.cps.toList=List.range' 97 26:=by decide +kernel
theorem fig_codes:FIG.cps.toList=List.range' 48 10:=by decide +kernel
theorem in_let (c:Nat):(!(Builtin.Str.occurrences LET ⟨#[c]⟩ 0 LET.length 1).isEmpty)=low c:=by
 rw [StrLaws.found_one,let_codes]
 unfold low
 rw [Bool.eq_iff_iff]
 simp [List.mem_range'_1]
 omega
theorem in_fig (c:Nat):(!(Builtin.Str.occurrences FIG ⟨#[c]⟩ 0 FIG.length 1).isEmpty)=fig c:=by
 rw [StrLaws.found_one,fig_codes]
 unfold fig
 rw [Bool.eq_iff_iff]
 simp [List.mem_range'_1]
 omega
structure Flds (ms:List Str) (want:List (Str×V)) (fs:List (Str×V)):Prop where
 has:∀p∈want,fs.lookup p.1=some p.2
 no:∀m∈ms,fs.lookup m=none
theorem mG {H:Hp} {d:Addr} {kvs:List (Key×V)} {v:HO} (e:H d=some (.dK kvs)) {b:Addr} {u:HO} (h:H b=some u) (hu:∀ks,u≠.dK ks):upd H d v b=some u:=by
 rw [aH]
 ·exact h
 ·rintro rfl
  rw [e] at h
  exact hu _ (Option.some.inj h).symm
theorem fW {H:Hp} {d a:Addr} {kvs:List (Key×V)} {v:HO} {xs:List V} (e:H d=some (.dK kvs)) (h:SqT K H a xs):SqT K (upd H d v) a xs:=by
 rcases h with (h | ⟨o,h⟩) | h
 ·exact .inl (.inl (mG e h (by intro _ z;cases z)))
 ·exact .inl (.inr ⟨o,mG e h (by intro _ z;cases z)⟩)
 ·exact .inr h
theorem PartAt.chill {H:Hp} {d p:Addr} {kvs:List (Key×V)} {v:HO} {i:Nat} {nm:V} {ns is os:List V} (e:H d=some (.dK kvs)) (h:PartAt K t H p i nm ns is os):PartAt K t (upd H d v) p i nm ns is os:=by
 obtain⟨dx,tn,ti,to,h1,h2,h3,h4⟩:=h
 exact⟨dx,tn,ti,to,mG e h1 (by intro _ z;cases z),fW e h2,fW e h3,fW e h4⟩
theorem Bu {H:Hp} {d D:Addr} {v:HO} (hD:(upd H d v) D=none):H D=none:=by
 by_cases h:D=d
 ·subst h;rw [au] at hD;cases hD
 ·rw [aH h] at hD;exact hD
theorem upd_id {H:Hp} {a:Addr} {o:HO} (e:H a=some o):upd H a o=H:=by
 funext b
 unfold upd
 split
 ·rename_i h;rw [h];exact e.symm
 ·rfl
theorem uM {κ:Type} [DecidableEq κ] {kvs:List (κ×V)} {k:κ} (h:k∉kvs.map (·.1)):fG kvs k=none:=by
 induction kvs with
 | nil=>rfl
 | cons p r ih=>
  simp only [List.map_cons,List.mem_cons,not_or] at h
  rw [fQ (Ne.symm h.1)]
  exact ih h.2
theorem vN {κ:Type} [DecidableEq κ] {kvs:List (κ×V)} {k:κ} {v:V} (nd:(kvs.map (·.1)).Nodup) (h:(k,v)∈kvs):fG kvs k=some v:=by
 induction kvs with
 | nil=>cases h
 | cons p r ih=>
  simp only [List.map_cons,List.nodup_cons] at nd
  rcases List.mem_cons.mp h with h | h
  ·subst h
   exact gC rfl
  ·have:¬p.1=k:=fun z=>nd.1 (List.mem_map.mpr ⟨_,h,z.symm⟩)
   rw [fQ this]
   exact ih nd.2 h
def cY (f:PD→List Str) (ps:List PD):List (Key×V):=ps.flatMap fun p=>(f p).map fun l=>((Sum.inr l:Key),V.str p.name)
theorem xm (f:PD→List Str) (ps:List PD):(cY f ps).map (·.1)=(ps.flatMap f).map (fun l=>(Sum.inr l:Key)):=by
 induction ps with
 | nil=>rfl
 | cons p r ih=>
  unfold cY at ih ⊢
  simp only [List.flatMap_cons,List.map_append,ih,List.map_map]
  rfl
theorem rM {l:List Str} (h:l.Nodup):(l.map (fun x=>(Sum.inr x:Key))).Nodup:=by
 induction l with
 | nil=>exact List.nodup_nil
 | cons a r ih=>
  simp only [List.map_cons,List.nodup_cons,List.mem_map] at h ⊢
  refine⟨?_,ih h.2⟩
  rintro⟨b,hb,e⟩
  cases e
  exact h.1 hb
theorem eX {f:PD→List Str} {ps:List PD} (nd:(ps.flatMap f).Nodup) {p:PD} (hp:p∈ps) {l:Str} (hl:l∈f p):fG (cY f ps) (Sum.inr l)=some (.str p.name):=
 vN (by rw [xm];exact rM nd) (List.mem_flatMap.mpr ⟨p,hp,List.mem_map.mpr ⟨l,hl,rfl⟩⟩)
theorem BW {f:PD→List Str} {ps:List PD} {l:Str} (h:l∉ps.flatMap f):fG (cY f ps) (Sum.inr l)=none:=uM (by
 rw [xm]
 intro z
 obtain⟨b,hb,e⟩:=List.mem_map.mp z
 cases e
 exact h hb)
theorem endsK_len (f:PD→List Str) (ps:List PD):(cY f ps).length=(ps.flatMap f).length:=by
 have:=congrArg List.length (xm f ps)
 simpa using this
theorem Bt (f:PD→List Str) (ps:List PD) (p:PD):cY f (ps ++ [p])=cY f ps ++ (f p).map fun l=>((Sum.inr l:Key),V.str p.name):=by
 unfold cY
 rw [List.flatMap_append]
 simp
theorem filt_lt {α:Type} {f g:α→Bool}:∀{l:List α},(∀a∈l,g a=true→f a=true)→(∃a∈l,f a=true∧g a=false)→(l.filter g).length <(l.filter f).length
 | [],_,h=>by obtain⟨a,ha,_⟩:=h;cases ha
 | x:: r,h,h2=>by
  have le:∀r:List α,(∀a∈r,g a=true→f a=true)→(r.filter g).length≤(r.filter f).length:=fun r=>by
   induction r with
   | nil=>intro _;exact Nat.le_refl _
   | cons y t ih=>
    intro q
    have:=ih fun a ha=>q a (List.mem_cons_of_mem _ ha)
    have q0:=q y List.mem_cons_self
    rw [List.filter_cons,List.filter_cons]
    cases hg:g y
    ·simp only [Bool.false_eq_true,if_false]
     split
     ·rw [List.length_cons];omega
     ·exact this
    ·rw [q0 hg]
     simp only [if_true,List.length_cons]
     omega
  obtain⟨a,ha,hf,hg⟩:=h2
  have hr:=fun a ha=>h a (List.mem_cons_of_mem x ha)
  rw [List.filter_cons,List.filter_cons]
  rcases List.mem_cons.mp ha with rfl | ha
  ·rw [hf,hg]
   have:=le r hr
   simp
   omega
  ·have ih:=filt_lt hr ⟨a,ha,hf,hg⟩
   have q0:=h x List.mem_cons_self
   cases hx:g x
   ·simp only [Bool.false_eq_true,if_false]
    split
    ·rw [List.length_cons];omega
    ·exact ih
   ·rw [q0 hx]
    simp only [if_true,List.length_cons]
    omega
def gU (jk:List (Key×V)) (x:Str):Bool:=(fG jk (Sum.inr x)).isSome
def pG (ps:List PD) (jk:List (Key×V)):Nat:=(ps.filter fun p=>!gU jk p.name).length
theorem hasN_put (jk:List (Key×V)) (x y:Str) (v:V):gU (putK jk (Sum.inr x) v) y=(decide (y=x) || gU jk y):=by
 unfold gU
 rw [valV_put]
 by_cases h:y=x
 ·subst h;simp
 ·have:¬(Sum.inr y:Key)=Sum.inr x:=fun z=>h (Sum.inr.inj z)
  rw [if_neg this]
  simp [h]
theorem missN_lt {ps:List PD} {jk jk':List (Key×V)} (h:∀x,gU jk x=true→gU jk' x=true) {p:PD} (hp:p∈ps) (h1:gU jk p.name=false) (h2:gU jk' p.name=true):pG ps jk' <pG ps jk:=by
 refine filt_lt (fun a _ q=>?_) ⟨p,hp,by simp [h1],by simp [h2]⟩
 cases hj:gU jk a.name
 ·rfl
 ·rw [h _ hj] at q;cases q
theorem lane_ends {ps:List PD} (pm:(ps.flatMap (·.outs)).Perm (ps.flatMap (·.ins))) {l:Str} (h:l∈ps.flatMap (·.outs)):∃a∈ps,∃b∈ps,l∈a.outs∧l∈b.ins:=by
 obtain⟨a,ha,hl⟩:=List.mem_flatMap.mp h
 obtain⟨b,hb,hl2⟩:=List.mem_flatMap.mp (pm.mem_iff.mp h)
 exact⟨a,ha,b,hb,hl,hl2⟩
theorem all_in {ps:List PD} (no:(ps.flatMap (·.outs)).Nodup) (ni:(ps.flatMap (·.ins)).Nodup) (pm:(ps.flatMap (·.outs)).Perm (ps.flatMap (·.ins))) {jk:List (Key×V)} (hang:∃y,∀q∈ps,∃x∈q.ins ++ q.outs,Drawn.Conn ps x y)
  (cl:∀a∈ps,∀b∈ps,∀l,l∈a.outs→l∈b.ins→gU jk a.name=gU jk b.name) {p0:PD} (hp0:p0∈ps) (h0:gU jk p0.name=true):∀q∈ps,gU jk q.name=true:=by
 obtain⟨y,hy⟩:=hang
 refine Drawn.all_joined (J:=fun p=>gU jk p.name=true) (fun l p q hp hq hlp hlq hJ=>?_) hy hp0 h0
 have same:∀{f:PD→List Str},(ps.flatMap f).Nodup→∀{a b:PD},a∈ps→b∈ps→l∈f a→l∈f b→a.name=b.name:=fun {f} nd {a b} ha hb h1 h2=>by
  obtain⟨i,hi,ei⟩:=List.mem_iff_getElem.mp ha
  obtain⟨j,hj,ej⟩:=List.mem_iff_getElem.mp hb
  have:=Drawn.one_giver f nd (i:=i) (j:=j) (p:=a) (q:=b) (l:=l) (by rw [List.getElem?_eq_getElem hi,ei]) (by rw [List.getElem?_eq_getElem hj,ej]) h1 h2
  subst this
  rw [←ei,←ej]
 have hl:l∈ps.flatMap (·.outs):=by
  rcases List.mem_append.mp hlp with h | h
  ·exact pm.mem_iff.mpr (List.mem_flatMap.mpr ⟨p,hp,h⟩)
  ·exact List.mem_flatMap.mpr ⟨p,hp,h⟩
 obtain⟨a,ha,b,hb,la,lb⟩:=lane_ends pm hl
 have e:=cl a ha b hb l la lb
 have np:p.name=a.name∨p.name=b.name:=(List.mem_append.mp hlp).elim (fun h=>.inr (same ni hp hb h lb)) fun h=>.inl (same no hp ha h la)
 have nq:q.name=a.name∨q.name=b.name:=(List.mem_append.mp hlq).elim (fun h=>.inr (same ni hq hb h lb)) fun h=>.inl (same no hq ha h la)
 show gU jk q.name=true
 change gU jk p.name=true at hJ
 rcases np with np | np <;> rcases nq with nq | nq <;> rw [np] at hJ <;> rw [nq]
 ·exact hJ
 ·rw [←e];exact hJ
 ·rw [e];exact hJ
 ·exact hJ
theorem nameB_len {z:Str} (h:nameB z=true):z.length≤100:=by
 unfold nameB at h
 rw [←pC]
 split at h
 ·simp_all
 ·rename_i e
  rw [e]
  simp only [Bool.and_eq_true,decide_eq_true_eq] at h
  rw [List.length_cons]
  omega
structure Fit (ls:List LaneD) (ps:List PD):Prop where
 lok:∀l∈ls,1≤l.room∧l.room≤199∧(l.first.length:Int)≤l.room∧∀v∈l.first,0≤v∧v <1000000000
 pok:∀p∈ps,PartOk p
 lnm:∀l∈ls,nameB l.name=true
 pnm:∀p∈ps,nameB p.name=true
 pnd:(ps.map (·.name)).Nodup
 whole:Whole (ls.map (·.name)) ps
 l1:1≤ls.length
 l24:ls.length≤24
 p1:1≤ps.length
 p16:ps.length≤16
theorem word_of {c:Int} {n:Nat} (hn:n≤26) {x:Str} (h:x∈(List.range n).map (cU c)):∃k,k <n∧x=cU c k:=by
 obtain⟨k,hk,rfl⟩:=List.mem_map.mp h
 exact⟨k,List.mem_range.mp hk,rfl⟩
theorem NetD.fit {c3 c4:Int} {ls:List LaneD} {ps:List PD} (h:NetD c3 c4 ls ps):Fit ls ps:=by
 have a:=h.l17
 have b:=h.p16
 refine⟨fun l hl=>?_,h.pok,fun l hl=>?_,fun p hp=>?_,?_,h.whole,h.l1,by omega,h.p1,h.p16⟩
 ·obtain⟨x1,x2,x3,x4⟩:=h.lok l hl
  exact⟨x1,by omega,x3,x4⟩
 ·obtain⟨k,hk,e⟩:=word_of (c:=c3) (n:=ls.length) (by omega) (by rw [←h.ln];exact List.mem_map.mpr ⟨l,hl,rfl⟩)
  rw [e]
  exact word_ok _ (by omega)
 ·obtain⟨k,hk,e⟩:=word_of (c:=c4) (n:=ps.length) (by omega) (h.pn.mem_iff.mpr (List.mem_map.mpr ⟨p,hp,rfl⟩))
  rw [e]
  exact word_ok _ (by omega)
 ·exact h.pn.nodup_iff.mp (zW _ (by omega))
theorem NetD.lane20 {c3 c4:Int} {ls:List LaneD} {ps:List PD} (h:NetD c3 c4 ls ps):cU c3 20∉ls.map (·.name):=fun z=>by
 have a:=h.l17
 rw [h.ln] at z
 obtain⟨k,hk,e⟩:=word_of (by omega) z
 have:=word_inj _ (by omega) (by omega) e
 omega
def dm (ls:List LaneD):List (Key×V):=ls.map fun l=>((Sum.inr l.name:Key),V.int l.room)
def gj (FL:List (LaneD×Addr)):List (Key×V):=FL.map fun q=>((Sum.inr q.1.name:Key),V.ref q.2)
def cP (PL:List (PD×Addr)):List (Key×V):=PL.map fun q=>((Sum.inr q.1.name:Key),V.ref q.2)
theorem vC (ls:List LaneD):(dm ls).map (·.1)=(ls.map (·.name)).map (fun x=>(Sum.inr x:Key)):=by unfold dm;rw [List.map_map,List.map_map];rfl
theorem yu (FL:List (LaneD×Addr)):(gj FL).map (·.1)=((FL.map (·.1)).map (·.name)).map (fun x=>(Sum.inr x:Key)):=by unfold gj;rw [List.map_map,List.map_map,List.map_map];rfl
theorem zO (PL:List (PD×Addr)):(cP PL).map (·.1)=((PL.map (·.1)).map (·.name)).map (fun x=>(Sum.inr x:Key)):=by unfold cP;rw [List.map_map,List.map_map,List.map_map];rfl
structure NetW (K:PySem.W.Frag) (t:Adr) (H:Hp) (n:Addr) (ls:List LaneD) (ps:List PD) (dx:Addr) (fs:List (Str×V)) (R F Pd G Tk:Addr) (FL:List (LaneD×Addr)) (PL:List (PD×Addr)):Prop where
 obj:H n=some (.ins t.bI dx fs)
 fl:Flds ["lane_names", "part_names", "odd", "need_lane_name", "room_of", "first_of", "giver_of", "taker_of", "told", "__init__"] [("rooms",.ref R),("firsts",.ref F),("parts",.ref Pd),("givers",.ref G),("takers",.ref Tk)] fs
 rooms:H R=some (.dK (dm ls))
 firsts:H F=some (.dK (gj FL))
 parts:H Pd=some (.dK (cP PL))
 givers:H G=some (.dK (cY (·.outs) ps))
 takers:H Tk=some (.dK (cY (·.ins) ps))
 fls:FL.map (·.1)=ls
 pls:PL.map (·.1)=ps
 tups:∀q∈FL,SqT K H q.2 (q.1.first.map V.int)
 pats:∀q∈PL,PartAt K t H q.2 q.1.kind (.str q.1.name) (q.1.nums.map V.int) (q.1.ins.map V.str) (q.1.outs.map V.str)
 fit:Fit ls ps
 neRF:R≠F
def qg (K:PySem.W.Frag) (t:Adr) (H:Hp) (n:Addr) (ls:List LaneD) (ps:List PD):Prop:=∃dx fs R F Pd G Tk FL PL,NetW K t H n ls ps dx fs R F Pd G Tk FL PL
section
variable {H H':Hp} {n dx R F Pd G Tk:Addr} {ls:List LaneD} {ps:List PD} {fs:List (Str×V)} {FL:List (LaneD×Addr)} {PL:List (PD×Addr)}
theorem NetW.same (N:NetW K t H n ls ps dx fs R F Pd G Tk FL PL) (s:aQ H H'):NetW K t H' n ls ps dx fs R F Pd G Tk FL PL:=
 ⟨s _ _ N.obj,N.fl,s _ _ N.rooms,s _ _ N.firsts,s _ _ N.parts,s _ _ N.givers,s _ _ N.takers,N.fls,N.pls,fun q hq=>s.seqT (N.tups q hq),fun q hq=>(N.pats q hq).same s,N.fit,N.neRF⟩
theorem qg.same (N:qg K t H n ls ps) (s:aQ H H'):qg K t H' n ls ps:=by
 obtain⟨dx,fs,R,F,Pd,G,Tk,FL,PL,N⟩:=N
 exact⟨dx,fs,R,F,Pd,G,Tk,FL,PL,N.same s⟩
theorem NetW.s (N:NetW K t H n ls ps dx fs R F Pd G Tk FL PL):qg K t H n ls ps:=⟨dx,fs,R,F,Pd,G,Tk,FL,PL,N⟩
theorem NetW.room (N:NetW K t H n ls ps dx fs R F Pd G Tk FL PL) {l:LaneD} (hl:l∈ls):fG (dm ls) (Sum.inr l.name)=some (.int l.room):=
 vN (by rw [vC];exact rM N.fit.whole.nod) (List.mem_map.mpr ⟨l,hl,rfl⟩)
theorem NetW.firstV (N:NetW K t H n ls ps dx fs R F Pd G Tk FL PL) {q:LaneD×Addr} (hq:q∈FL):fG (gj FL) (Sum.inr q.1.name)=some (.ref q.2):=
 vN (by rw [yu,N.fls];exact rM N.fit.whole.nod) (List.mem_map.mpr ⟨q,hq,rfl⟩)
theorem NetW.partV (N:NetW K t H n ls ps dx fs R F Pd G Tk FL PL) {q:PD×Addr} (hq:q∈PL):fG (cP PL) (Sum.inr q.1.name)=some (.ref q.2):=
 vN (by rw [zO,N.pls];exact rM N.fit.pnd) (List.mem_map.mpr ⟨q,hq,rfl⟩)
theorem NetW.ono (N:NetW K t H n ls ps dx fs R F Pd G Tk FL PL):(ps.flatMap (·.outs)).Nodup:=N.fit.whole.outs.nodup_iff.mpr N.fit.whole.nod
theorem NetW.ini (N:NetW K t H n ls ps dx fs R F Pd G Tk FL PL):(ps.flatMap (·.ins)).Nodup:=N.fit.whole.ins.nodup_iff.mpr N.fit.whole.nod
end
theorem in_names {α:Type} {f:α→Str} {xs:List α} {x:Str}:inV (.str x) (xs.map fun p=>V.str (f p))=decide (x∈xs.map f):=by
 rw [Bool.eq_iff_iff]
 unfold inV
 rw [List.any_eq_true,decide_eq_true_eq]
 constructor
 ·rintro⟨v,hv,e⟩
  obtain⟨p,hp,rfl⟩:=List.mem_map.mp hv
  exact List.mem_map.mpr ⟨p,hp,by simpa [eqV] using e⟩
 ·intro h
  obtain⟨p,hp,rfl⟩:=List.mem_map.mp h
  exact⟨.str (f p),List.mem_map.mpr ⟨p,hp,rfl⟩,by simp [eqV]⟩
theorem raised {H:Hp} {x C dx:Addr} {fs:List (Str×V)} (nx:H x=none) (nd:(upd H x (vm x C)) dx=none) (ne:dx≠x):
  aQ H (del (upd (upd (upd H x (vm x C)) x (zL x C dx)) dx (.xd fs)) x)∧(del (upd (upd (upd H x (vm x C)) x (zL x C dx)) dx (.xd fs)) x) dx=some (.xd fs):=by
 constructor
 ·intro b o e
  have b1:b≠x:=aF e nx
  have b2:b≠dx:=aF e (by rw [aH ne] at nd;exact nd)
  rw [wY b1,aH b2,aH b1,aH b1]
  exact e
 ·rw [wY ne];exact au
def ofKd (ps:List PD) (x:Str):List V:=(ps.filter fun p=>decide (eO p.kind=x)).map fun p=>V.str p.name
def ym (p:PD):Bool:=decide (eO p.kind= "choose") || decide (eO p.kind= "split")
def rE (ps:List PD):V:=match ps.find? ym with
 | some p=>.str p.name
 | none=>.non
theorem oddB_in (p:PD):inV (.str (eO p.kind)) [.str "choose",.str "split"]=ym p:=by
 have n1:¬("choose" :Str)= "split" :=by decide +kernel
 by_cases h1:eO p.kind= "choose"
 ·simp [inV,eqV,ym,h1]
 ·by_cases h2:eO p.kind= "split"
  ·simp [inV,eqV,ym,h2]
  ·simp [inV,eqV,ym,h1,h2,Ne.symm h1,Ne.symm h2]
def LaneT (K:PySem.W.Frag) (H:Hp) (v:V) (l:LaneD):Prop:=∃q f,v=.ref q∧H q=some (.tup [.str l.name,.int l.room,.ref f])∧SqT K H f (l.first.map V.int)
def RowT (K:PySem.W.Frag) (H:Hp) (v:V) (p:PD):Prop:=∃q a1 a2 a3,v=.ref q∧H q=some (.tup [.str (eO p.kind),.str p.name,.ref a1,.ref a2,.ref a3])∧SqT K H a1 (p.nums.map V.int)∧SqT K H a2 (p.ins.map V.str)∧SqT K H a3 (p.outs.map V.str)
theorem LaneT.same {H H':Hp} {v:V} {l:LaneD} (h:LaneT K H v l) (s:aQ H H'):LaneT K H' v l:=by
 obtain⟨q,f,e,h1,h2⟩:=h
 exact⟨q,f,e,s _ _ h1,s.seqT h2⟩
theorem RowT.same {H H':Hp} {v:V} {p:PD} (h:RowT K H v p) (s:aQ H H'):RowT K H' v p:=by
 obtain⟨q,a1,a2,a3,e,h1,h2,h3,h4⟩:=h
 exact⟨q,a1,a2,a3,e,s _ _ h1,s.seqT h2,s.seqT h3,s.seqT h4⟩
structure ToldAt (K:PySem.W.Frag) (H:Hp) (T a b:Addr) (ls:List LaneD) (ps:List PD):Prop where
 tup:H T=some (.tup [.ref a,.ref b])
 lanes:∃xs,H a=some (.lst xs)∧All2 (LaneT K H) xs ls
 parts:∃xs,H b=some (.lst xs)∧All2 (RowT K H) xs ps
theorem ToldAt.same {H H':Hp} {T a b:Addr} {ls:List LaneD} {ps:List PD} (h:ToldAt K H T a b ls ps) (s:aQ H H'):ToldAt K H' T a b ls ps:=by
 obtain⟨h1,⟨xs,e1,a1⟩,⟨ys,e2,a2⟩⟩:=h
 exact⟨s _ _ h1,⟨xs,s _ _ e1,a1.imp fun _ _ h=>h.same s⟩,⟨ys,s _ _ e2,a2.imp fun _ _ h=>h.same s⟩⟩
theorem zA {H H':Hp} {d:Addr} {kvs:List (Key×V)} {o:Obj} (e:H d=some (.dK kvs)) (s:aQ (upd H d (.frz o (.dK kvs))) H'):aQ H (upd H' d (.dK kvs)):=fun b u q=>by
 by_cases h:b=d
 ·subst h;rw [au];rw [e] at q;exact q
 ·rw [aH h];exact s b u (by rw [aH h];exact q)
theorem yJ {H H':Hp} {d:Addr} {x:HO} (s:aQ H H'):aQ (upd H d x) (upd H' d x):=fun b u q=>by
 by_cases h:b=d
 ·subst h;rw [au] at q ⊢;exact q
 ·rw [aH h] at q ⊢;exact s b u q
structure Tr (H:Hp) (f:Addr) (L:List (Addr×HO)) (Hk:Hp):Prop where
 but:But f H Hk
 all:∀p∈L,Hk p.1=some p.2
 fre:∀p∈L,p.1=f∨H p.1=none
 nod:(L.map Prod.fst).Nodup
 obj:∃o,(f,o)∈L
theorem Tr.free {H Hk:Hp} {f x:Addr} {L:List (Addr×HO)} (T:Tr H f L Hk) (nx:Hk x=none):H x=none:=by
 cases e:H x with
 | none=>rfl
 | some o=>
  by_cases h:x=f
  ·obtain⟨u,hu⟩:=T.obj
   have:=T.all _ hu
   rw [h] at nx
   rw [nx] at this
   cases this
  ·rw [T.but x o h e] at nx
   cases nx
theorem Tr.new {H Hk:Hp} {f x:Addr} {L:List (Addr×HO)} {o:HO} (T:Tr H f L Hk) (nx:Hk x=none):Tr H f (L ++ [(x,o)]) (upd Hk x o):=by
 have hne:∀p∈L,p.1≠x:=fun p hp z=>by have:=T.all p hp;rw [z,nx] at this;cases this
 have hx:=T.free nx
 refine⟨fun b u n e=>by rw [aH (aF e hx)];exact T.but b u n e,fun p hp=>?_,fun p hp=>?_,?_,?_⟩
 ·rcases List.mem_append.mp hp with h | h
  ·rw [aH (hne p h)];exact T.all p h
  ·rw [List.mem_singleton] at h;subst h;exact au
 ·rcases List.mem_append.mp hp with h | h
  ·exact T.fre p h
  ·rw [List.mem_singleton] at h;subst h;exact .inr hx
 ·rw [List.map_append,List.nodup_append]
  refine⟨T.nod,by simp,fun a ha b hb=>?_⟩
  obtain⟨p,hp,rfl⟩:=List.mem_map.mp ha
  simp at hb
  subst hb
  exact hne p hp
 ·obtain⟨u,hu⟩:=T.obj
  exact⟨u,List.mem_append.mpr (.inl hu)⟩
theorem Tr.same {H Hk Hk':Hp} {f:Addr} {L:List (Addr×HO)} (T:Tr H f L Hk) (s:aQ Hk Hk'):Tr H f L Hk':=
 ⟨fun b u n e=>s _ _ (T.but b u n e),fun p hp=>s _ _ (T.all p hp),T.fre,T.nod,T.obj⟩
theorem Tr.put {H Hk:Hp} {f x:Addr} {o o':HO} {L1 L2:List (Addr×HO)} (T:Tr H f (L1 ++ (x,o):: L2) Hk):Tr H f (L1 ++ (x,o'):: L2) (upd Hk x o'):=by
 have hx:x=f∨H x=none:=T.fre (x,o) (by simp)
 have nd:=T.nod
 rw [List.map_append,List.map_cons,List.nodup_append] at nd
 obtain⟨n1,n2,n3⟩:=nd
 rw [List.nodup_cons] at n2
 refine⟨fun b u n e=>?_,fun p hp=>?_,fun p hp=>?_,?_,?_⟩
 ·have:b≠x:=by
   rcases hx with rfl | hx
   ·exact n
   ·exact aF e hx
  rw [aH this];exact T.but b u n e
 ·rcases List.mem_append.mp hp with h | h
  ·have:p.1≠x:=n3 p.1 (List.mem_map.mpr ⟨p,h,rfl⟩) x (by simp)
   rw [aH this];exact T.all p (by simp [h])
  ·rcases List.mem_cons.mp h with rfl | h
   ·exact au
   ·have:p.1≠x:=fun z=>n2.1 (by rw [←z];exact List.mem_map.mpr ⟨p,h,rfl⟩)
    rw [aH this];exact T.all p (by simp [h])
 ·rcases List.mem_append.mp hp with h | h
  ·exact T.fre p (by simp [h])
  ·rcases List.mem_cons.mp h with rfl | h
   ·exact hx
   ·exact T.fre p (by simp [h])
 ·have:=T.nod
  rw [List.map_append,List.map_cons] at this ⊢
  exact this
 ·obtain⟨u,hu⟩:=T.obj
  rcases List.mem_append.mp hu with h | h
  ·exact⟨u,by simp [h]⟩
  ·rcases List.mem_cons.mp h with h | h
   ·cases h;exact⟨o',by simp⟩
   ·exact⟨u,by simp [h]⟩
theorem Tr.start {H:Hp} {f:Addr} {o:HO} (e:H f=some o):Tr H f [(f,o)] H:=⟨But.refl _,fun p hp=>by rw [List.mem_singleton] at hp;subst hp;exact e,fun p hp=>by rw [List.mem_singleton] at hp;subst hp;exact .inl rfl,by simp,o,by simp⟩
def LaneH (K:PySem.W.Frag) (H:Hp) (v:V) (l:LaneD):Prop:=∃q f,v=.ref q∧H q=some (.tup [.str l.name,.int l.room,.ref f])∧SqA K H f (l.first.map V.int)
def RowH (K:PySem.W.Frag) (H:Hp) (v:V) (p:PD):Prop:=∃q a1 a2 a3,v=.ref q∧H q=some (.tup [.str (eO p.kind),.str p.name,.ref a1,.ref a2,.ref a3])∧SqA K H a1 (p.nums.map V.int)∧SqA K H a2 (p.ins.map V.str)∧SqA K H a3 (p.outs.map V.str)
structure Hand (K:PySem.W.Frag) (H:Hp) (Ll Lp:Addr) (ls:List LaneD) (ps:List PD):Prop where
 ll:∃xs,SqL K H Ll xs∧All2 (LaneH K H) xs ls
 lp:∃xs,SqL K H Lp xs∧All2 (RowH K H) xs ps
theorem yo {α:Type} {f:α→Str} {xs:List α} (nd:(xs.map f).Nodup) {j:Nat} {x:α} (h:xs[j]?=some x):f x∉(xs.take j).map f:=fun hm=>by
 have hj:=(List.getElem?_eq_some_iff.mp h).1
 have e:xs[j]=x:=(List.getElem?_eq_some_iff.mp h).2
 rw [List.map_take] at hm
 obtain⟨i,hi,ei⟩:=List.mem_iff_getElem.mp hm
 rw [List.length_take,List.length_map] at hi
 rw [List.getElem_take] at ei
 have e2:(xs.map f)[j]'(by rw [List.length_map];exact hj)=f x:=by rw [List.getElem_map,e]
 have:=(List.getElem_inj nd).mp (ei.trans e2.symm)
 omega
theorem flat_at {f:PD→List Str} {ps:List PD} (nd:(ps.flatMap f).Nodup) {j:Nat} {p:PD} (h:ps[j]?=some p):(f p).Nodup∧∀z∈f p,z∉(ps.take j).flatMap f:=by
 have hj:=(List.getElem?_eq_some_iff.mp h).1
 have e:ps[j]=p:=(List.getElem?_eq_some_iff.mp h).2
 have e2:ps=ps.take j ++ p:: ps.drop (j+1):=by rw [←e,←List.drop_eq_getElem_cons hj,List.take_append_drop]
 rw [e2,List.flatMap_append,List.flatMap_cons,List.nodup_append] at nd
 obtain⟨n1,n2,n3⟩:=nd
 rw [List.nodup_append] at n2
 exact⟨n2.1,fun z hz hm=>n3 z hm z (List.mem_append.mpr (.inl hz)) rfl⟩
theorem yd {H:Hp} {d:Addr} {kvs:List (Key×V)} (e:H d=some (.dK kvs)) {b:Addr} {u:HO} (h:H b=some u) (hu:∀ks,u≠.dK ks):bK [d] H b=some u:=fY h (by
 rw [List.mem_singleton]
 rintro rfl
 rw [e] at h
 exact hu _ (Option.some.inj h).symm)
theorem yl {H:Hp} {d a:Addr} {kvs:List (Key×V)} {xs:List V} (e:H d=some (.dK kvs)) (h:SqT K H a xs):SqT K (bK [d] H) a xs:=by
 rcases h with (h | ⟨o,h⟩) | h
 ·exact .inl (.inl (yd e h (by intro _ z;cases z)))
 ·exact .inl (.inr ⟨o,yd e h (by intro _ z;cases z)⟩)
 ·exact .inr h
theorem PartAt.off {H:Hp} {d p:Addr} {kvs:List (Key×V)} {i:Nat} {nm:V} {ns is os:List V} (e:H d=some (.dK kvs)) (h:PartAt K t H p i nm ns is os):PartAt K t (bK [d] H) p i nm ns is os:=by
 obtain⟨dx,tn,ti,to,h1,h2,h3,h4⟩:=h
 exact⟨dx,tn,ti,to,yd e h1 (by intro _ z;cases z),yl e h2,yl e h3,yl e h4⟩
theorem NetW.off {H:Hp} {n dx R F Pd G Tk d:Addr} {ls:List LaneD} {ps:List PD} {fs:List (Str×V)} {FL:List (LaneD×Addr)} {PL:List (PD×Addr)} {kvs:List (Key×V)} (N:NetW K t H n ls ps dx fs R F Pd G Tk FL PL) (e:H d=some (.dK kvs)) (ne:d≠R∧d≠F∧d≠Pd∧d≠G∧d≠Tk):NetW K t (bK [d] H) n ls ps dx fs R F Pd G Tk FL PL:=by
 obtain⟨n1,n2,n3,n4,n5⟩:=ne
 have c:∀{x:Addr} {o:HO},d≠x→H x=some o→bK [d] H x=some o:=fun hx h=>fY h (by rw [List.mem_singleton];exact Ne.symm hx)
 exact⟨yd e N.obj (by intro _ z;cases z),N.fl,c n1 N.rooms,c n2 N.firsts,c n3 N.parts,c n4 N.givers,c n5 N.takers,N.fls,N.pls,fun q hq=>yl e (N.tups q hq),fun q hq=>(N.pats q hq).off e,N.fit,N.neRF⟩
theorem NetAt.off {H:Hp} {L P d:Addr} {ls:List LaneD} {ps:List PD} {kvs:List (Key×V)} (e:H d=some (.dK kvs)) (h:NetAt H L P ls ps):NetAt (bK [d] H) L P ls ps:=by
 obtain⟨⟨xs,e1,a1⟩,⟨ys,e2,a2⟩⟩:=h
 have g:∀{b:Addr} {u:HO},H b=some u→(∀ks,u≠.dK ks)→bK [d] H b=some u:=fun h hu=>yd e h hu
 refine⟨⟨xs,g e1 (by intro _ z;cases z),a1.imp fun _ _ h=>?_⟩,⟨ys,g e2 (by intro _ z;cases z),a2.imp fun _ _ h=>?_⟩⟩
 ·obtain⟨q,f,e0,h1,h2⟩:=h
  exact⟨q,f,e0,g h1 (by intro _ z;cases z),g h2 (by intro _ z;cases z)⟩
 ·obtain⟨q,b1,b2,b3,e0,h1,h2,h3,h4⟩:=h
  exact⟨q,b1,b2,b3,e0,g h1 (by intro _ z;cases z),g h2 (by intro _ z;cases z),g h3 (by intro _ z;cases z),g h4 (by intro _ z;cases z)⟩
theorem off_new {H H':Hp} {d:Addr} (s:aQ H H') (n:H d=none):aQ H (bK [d] H'):=fun b o e=>fY (s _ _ e) (by
 rw [List.mem_singleton]
 exact aF e n)
theorem off_same {H H':Hp} {d:Addr} {o:HO} (s:aQ H H') (h:H d=some o):aQ (bK [d] H) (bK [d] H'):=Aw s (fun a ha=>by rw [List.mem_singleton] at ha;subst ha;exact⟨o,h⟩)
def kvG {β:Type} (g:β→V) (m:List (Str×β)):List (Key×V):=m.map fun q=>((Sum.inr q.1:Key),g q.2)
def lkG {β:Type} (m:List (Str×β)) (x:Str):Option β:=(m.find? fun q=>decide (q.1=x)).map (·.2)
def fZ {β:Type} (m:List (Str×β)) (x:Str) (b:β):List (Str×β):=if (m.any fun q=>decide (q.1=x))=true then m.map (fun q=>if q.1=x then(q.1,b) else q) else m ++ [(x,b)]
section
variable {β:Type} {g:β→V}
theorem lO (g:β→V) (m:List (Str×β)):(kvG g m).length=m.length:=by unfold kvG;rw [List.length_map]
theorem kvG_at {m:List (Str×β)} {j:Nat} {k:Key} {v:V} (h:(kvG g m)[j]?=some (k,v)):∃q,m[j]?=some q∧k=Sum.inr q.1∧v=g q.2:=by
 unfold kvG at h
 rw [List.getElem?_map] at h
 obtain⟨q,hq,e⟩:=Option.map_eq_some_iff.mp h
 cases e
 exact⟨q,hq,rfl,rfl⟩
theorem kvG_val (g:β→V) (x:Str):∀m:List (Str×β),fG (kvG g m) (Sum.inr x)=(lkG m x).map g
 | []=>rfl
 | q:: r=>by
  unfold kvG lkG
  rw [List.map_cons]
  by_cases h:q.1=x
  ·rw [gC (by rw [h]),List.find?_cons_of_pos (by simp [h])]
   rfl
  ·rw [fQ (fun z=>h (Sum.inr.inj z)),List.find?_cons_of_neg (by simp [h])]
   exact kvG_val g x r
theorem lK {H:Hp} {d:Addr} {m:List (Str×β)} (h:H d=some (.dK (kvG g m))) (x:Str):ji H d (.str x) ((lkG m x).map g):=by
 rw [←kvG_val]
 exact ji.k (k:=Sum.inr x) h
theorem kvG_getF {H:Hp} {d:Addr} {o:Obj} {m:List (Str×β)} (h:H d=some (.frz o (.dK (kvG g m)))) (x:Str):ji H d (.str x) ((lkG m x).map g):=.inl ⟨_,Sum.inr x,.inr ⟨o,h⟩,rfl,(kvG_val g x m).symm⟩
theorem Ai (m:List (Str×β)) (x:Str):(m.any fun q=>decide (q.1=x))=(lkG m x).isSome:=by
 unfold lkG
 induction m with
 | nil=>rfl
 | cons q r ih=>
  rw [List.any_cons,ih]
  by_cases h:q.1=x
  ·rw [List.find?_cons_of_pos (by simp [h])];simp [h]
  ·rw [List.find?_cons_of_neg (by simp [h])];simp [h]
theorem qy (g:β→V) (m:List (Str×β)) (x:Str) (b:β):putK (kvG g m) (Sum.inr x) (g b)=kvG g (fZ m x b):=by
 have e:(kvG g m).any (fun kv=>decide (kv.1=(Sum.inr x:Key)))=m.any (fun q=>decide (q.1=x)):=by
  unfold kvG
  rw [List.any_map]
  congr 1
  funext q
  simp
 unfold putK fZ
 rw [e]
 split
 ·unfold kvG
  rw [List.map_map,List.map_map]
  refine List.map_congr_left fun q _=>?_
  by_cases hq:q.1=x
  ·simp [hq]
  ·simp [hq]
 ·unfold kvG
  rw [List.map_append]
  rfl
theorem lE (q:Str×β) (r:List (Str×β)) (y:Str):lkG (q:: r) y=if q.1=y then some q.2 else lkG r y:=by
 unfold lkG
 by_cases h:q.1=y
 ·rw [List.find?_cons_of_pos (by simp [h]),if_pos h];rfl
 ·rw [List.find?_cons_of_neg (by simp [h]),if_neg h]
theorem lkG_app (l r:List (Str×β)) (y:Str):lkG (l ++ r) y=(lkG l y).or (lkG r y):=by
 unfold lkG
 rw [List.find?_append]
 cases l.find? (fun q=>decide (q.1=y)) <;> simp
theorem Ae (m:List (Str×β)) (x:Str) (b:β) (y:Str):lkG (fZ m x b) y=if y=x then some b else lkG m y:=by
 have ha:=Ai m x
 unfold fZ
 split
 ·rename_i h
  rw [h] at ha
  clear h
  induction m with
  | nil=>simp [lkG] at ha
  | cons q r ih=>
   rw [List.map_cons,lE,lE]
   by_cases hq:q.1=x
   ·rw [if_pos hq]
    dsimp only
    by_cases hy:y=x
    ·rw [if_pos (hq.trans hy.symm),if_pos hy]
    ·rw [if_neg (fun z=>hy (z.symm.trans hq)),if_neg hy,if_neg (fun z=>hy (z.symm.trans hq))]
     have:∀r:List (Str×β),lkG (r.map fun q=>if q.1=x then(q.1,b) else q) y=lkG r y:=fun r=>by
      induction r with
      | nil=>rfl
      | cons p t ih2=>
       rw [List.map_cons,lE,lE,ih2]
       by_cases hp:p.1=x
       ·rw [if_pos hp]
        dsimp only
        have:¬p.1=y:=fun z=>hy (z.symm.trans hp)
        rw [if_neg this,if_neg this]
       ·rw [if_neg hp]
     exact this r
   ·rw [if_neg hq]
    have ih:=ih (by rw [lE,if_neg hq] at ha;exact ha)
    rw [ih]
    by_cases hy:q.1=y
    ·rw [if_pos hy,if_pos hy,if_neg (fun z=>hq (hy.trans z))]
    ·rw [if_neg hy,if_neg hy]
 ·rename_i h
  rw [lkG_app,lE]
  have hn:lkG m x=none:=by
   cases e:lkG m x with
   | none=>rfl
   | some b=>rw [e] at ha;exact absurd ha h
  by_cases hy:y=x
  ·subst hy
   rw [hn,if_pos rfl,if_pos rfl]
   rfl
  ·rw [if_neg (fun z=>hy z.symm),if_neg hy]
   cases lkG m y <;> rfl
theorem putG_len (m:List (Str×β)) (x:Str) (b:β):(fZ m x b).length≤m.length+1:=by
 unfold fZ
 split
 ·rw [List.length_map];omega
 ·rw [List.length_append,List.length_singleton];exact Nat.le_refl _
theorem yS {m:List (Str×β)} {x:Str} {b:β} (h:lkG m x=some b):(x,b)∈m:=by
 unfold lkG at h
 obtain⟨q,hq,rfl⟩:=Option.map_eq_some_iff.mp h
 have h1:=List.mem_of_find?_eq_some hq
 have h2:=List.find?_some hq
 simp only [decide_eq_true_eq] at h2
 rw [←h2]
 exact h1
theorem lkG_none {m:List (Str×β)} {x:Str} (h:x∉m.map (·.1)):lkG m x=none:=by
 cases e:lkG m x with
 | none=>rfl
 | some b=>exact absurd (List.mem_map.mpr ⟨_,yS e,rfl⟩) h
theorem mW {m:List (Str×β)} {x:Str}:(lkG m x).isSome=true↔x∈m.map (·.1):=by
 constructor
 ·intro h
  obtain⟨b,e⟩:=Option.isSome_iff_exists.mp h
  exact List.mem_map.mpr ⟨_,yS e,rfl⟩
 ·intro h
  rw [←Ai]
  obtain⟨q,hq,rfl⟩:=List.mem_map.mp h
  exact List.any_eq_true.mpr ⟨q,hq,by simp⟩
theorem lkG_nd:∀{m:List (Str×β)} (_:(m.map (·.1)).Nodup) {q:Str×β} (_:q∈m),lkG m q.1=some q.2
 | p:: r,nd,q,hq=>by
  rw [List.map_cons,List.nodup_cons] at nd
  rw [lE]
  rcases List.mem_cons.mp hq with rfl | h
  ·rw [if_pos rfl]
  ·rw [if_neg (fun z=>nd.1 (by rw [z];exact List.mem_map.mpr ⟨q,h,rfl⟩))]
   exact lkG_nd nd.2 h
theorem putG_mem {m:List (Str×β)} {x:Str} {b:β} {q:Str×β} (h:q∈fZ m x b):q∈m∨q=(x,b):=by
 unfold fZ at h
 split at h
 ·obtain⟨p,hp,rfl⟩:=List.mem_map.mp h
  split
  ·rename_i e;exact .inr (by rw [e])
  ·exact .inl hp
 ·rcases List.mem_append.mp h with h | h
  ·exact .inl h
  ·rw [List.mem_singleton] at h;exact .inr h
theorem Bp {m:List (Str×β)} {x:Str} (b:β) (h:x∉m.map (·.1)):fZ m x b=m ++ [(x,b)]:=by
 unfold fZ
 rw [Ai,lkG_none h]
 exact if_neg (by simp)
theorem zr {m:List (Str×β)} {x:Str} {b:β} (h:x∈m.map (·.1)):(fZ m x b).map (·.1)=m.map (·.1):=by
 unfold fZ
 rw [if_pos (by rw [Ai];exact mW.mpr h),List.map_map]
 refine List.map_congr_left fun q _=>?_
 dsimp only [Function.comp]
 split <;> rfl
theorem putG_nd {m:List (Str×β)} {x:Str} {b:β} (nd:(m.map (·.1)).Nodup):((fZ m x b).map (·.1)).Nodup:=by
 by_cases h:x∈m.map (·.1)
 ·rw [zr h];exact nd
 ·rw [Bp b h,List.map_append,List.nodup_append]
  refine⟨nd,by simp,fun a ha c hc e=>h ?_⟩
  rw [List.map_singleton,List.mem_singleton] at hc
  have hc:c=x:=hc
  rw [←hc,←e]
  exact ha
end
theorem f1T {α:Type} {p:α→Bool} {x:α} (h:p x=true):[x].filter p=[x]:=by simp [h]
theorem f1F {α:Type} {p:α→Bool} {x:α} (h:p x=false):[x].filter p=[]:=by simp [h]
theorem in_strs (x:Str) (xs:List Str):inV (.str x) (xs.map V.str)=decide (x∈xs):=by
 have:=in_names (f:=fun y:Str=>y) (xs:=xs) (x:=x)
 simpa using this
theorem zz (xs:List Str):(xs.map V.str).all rJ=true:=by simp [rJ]
structure Arc where
 fr:Str
 to:Str
 tk:Int
 ln:Str
 wy:Str
def arcV (a:Arc):List V:=[.str a.fr,.str a.to,.int a.tk,.str a.ln,.str a.wy]
abbrev AA:=Arc×Addr
structure ArcsR (H:Hp) (L:Addr) (ra:List AA):Prop where
 lst:H L=some (.lst (ra.map fun q=>V.ref q.2))
 at_:∀q∈ra,H q.2=some (.tup (arcV q.1))
theorem ArcsR.same {H H':Hp} {L:Addr} {ra:List AA} (h:ArcsR H L ra) (s:aQ H H'):ArcsR H' L ra:=⟨s _ _ h.lst,fun q hq=>s _ _ (h.at_ q hq)⟩
theorem ArcsR.get {H:Hp} {L:Addr} {ra:List AA} (h:ArcsR H L ra) {j:Nat} {x:V} (hx:(ra.map fun q=>V.ref q.2)[j]?=some x):∃q,ra[j]?=some q∧x=.ref q.2∧H q.2=some (.tup (arcV q.1)):=by
 rw [List.getElem?_map] at hx
 obtain⟨q,hq,e⟩:=Option.map_eq_some_iff.mp hx
 exact⟨q,hq,e.symm,h.at_ q (List.mem_of_getElem? hq)⟩
def endF (f:PD→List Str) (ps:List PD) (x:Str):Str:=match ps.find? (fun p=>decide (x∈f p)) with
 | some p=>p.name
 | none=> ""
theorem Af {f:PD→List Str} {ps:List PD} (nd:(ps.flatMap f).Nodup) {p:PD} (hp:p∈ps) {x:Str} (hx:x∈f p):endF f ps x=p.name:=by
 obtain⟨q,hq⟩:∃q,ps.find? (fun p=>decide (x∈f p))=some q:=Option.isSome_iff_exists.mp (by
  rw [List.find?_isSome]
  exact⟨p,hp,by simpa using hx⟩)
 unfold endF
 rw [hq]
 have h1:=List.mem_of_find?_eq_some hq
 have h2:=List.find?_some hq
 simp only [decide_eq_true_eq] at h2
 have e1:=eX nd h1 h2
 rw [eX nd hp hx] at e1
 simp only [Option.some.injEq,V.str.injEq] at e1
 exact e1.symm
def arcs2 (ps:List PD) (l:LaneD):List Arc:=[⟨endF (·.outs) ps l.name,endF (·.ins) ps l.name,(l.first.length:Nat),l.name, "along"⟩,⟨endF (·.ins) ps l.name,endF (·.outs) ps l.name,l.room - (l.first.length:Nat),l.name, "against"⟩]
def selfA (p:PD):Arc:=⟨p.name,p.name,1, "", "again"⟩
def zK (ls:List LaneD) (ps:List PD):List Arc:=ls.flatMap (arcs2 ps) ++ ps.map selfA
theorem zc (ps:List PD) (ls:List LaneD):(ls.flatMap (arcs2 ps)).length=2 * ls.length:=by
 induction ls with
 | nil=>rfl
 | cons l r ih=>rw [List.flatMap_cons,List.length_append,ih,List.length_cons];show 2+_=_;omega
theorem lst_cut {H:Hp} {A b:Addr} {xs:List V} {o:HO} (e:H A=some (.lst xs)) (h:H b=some o) (hu:∀ys,o≠.lst ys):bK [A] H b=some o:=fY h (by
 rw [List.mem_singleton]
 rintro rfl
 rw [e] at h
 exact hu _ (Option.some.inj h).symm)
namespace Rg
section
variable {α:Type} [DecidableEq α]
theorem xj:∀{l m:List α},l.Nodup→(∀x∈l,x∈m)→l.length≤m.length
 | [],_,_,_=>Nat.zero_le _
 | a:: r,m,nd,h=>by
  rw [List.nodup_cons] at nd
  have ha:=h a List.mem_cons_self
  have:=xj (l:=r) (m:=m.erase a) nd.2 fun x hx=>(List.mem_erase_of_ne (fun z=>nd.1 (by rw [←z];exact hx))).mpr (h x (List.mem_cons_of_mem _ hx))
  rw [List.length_erase_of_mem ha] at this
  have h1:=List.length_pos_of_mem ha
  rw [List.length_cons]
  omega
def Way (f:α→Option α):List α→Prop
 | a:: b:: r=>f a=some b∧Way f (b:: r)
 | _=>True
theorem Way.tail {f:α→Option α} {a:α} {r:List α} (h:Way f (a:: r)):Way f r:=by
 cases r with
 | nil=>exact True.intro
 | cons b r=>exact h.2
theorem Way.drop {f:α→Option α}:∀{l:List α} (n:Nat),Way f l→Way f (l.drop n)
 | _,0,h=>h
 | [],n+1,_=>by simp [Way]
 | _:: _,n+1,h=>by rw [List.drop_succ_cons];exact Way.drop n h.tail
theorem Way.init {f:α→Option α}:∀{l:List α} {x:α},Way f (l ++ [x])→Way f l
 | [],_,_=>True.intro
 | [_],_,_=>True.intro
 | a:: b:: r,x,h=>⟨h.1,Way.init (l:=b:: r) h.2⟩
theorem Way.last {f:α→Option α}:∀{l:List α} {y x:α},Way f (l ++ [y] ++ [x])→f y=some x
 | [],_,_,h=>h.1
 | [_],_,_,h=>h.2.1
 | a:: b:: r,y,x,h=>Way.last (l:=b:: r) h.2
theorem Way.snoc {f:α→Option α}:∀{l:List α} {y x:α},Way f (l ++ [y])→f y=some x→Way f (l ++ [y] ++ [x])
 | [],_,_,_,h=>⟨h,True.intro⟩
 | [a],_,_,w,h=>⟨w.1,h,True.intro⟩
 | a:: b:: r,y,x,w,h=>⟨w.1,Way.snoc (l:=b:: r) w.2 h⟩
theorem Way.congr {f g:α→Option α}:∀{l:List α},(∀x∈l,f x=g x)→Way f l→Way g l
 | [],_,_=>True.intro
 | [_],_,_=>True.intro
 | a:: b:: r,h,w=>⟨by rw [←h a List.mem_cons_self];exact w.1,Way.congr (fun x hx=>h x (List.mem_cons_of_mem _ hx)) w.2⟩
theorem Way.app {f:α→Option α}:∀{l m:List α},Way f l→Way f m→(∀a b,l.getLast?=some a→m.head?=some b→f a=some b)→Way f (l ++ m)
 | [],_,_,w,_=>w
 | [a],[],_,_,_=>True.intro
 | [a],b:: m,_,w,h=>⟨h a b rfl rfl,w⟩
 | a:: b:: r,m,w,w2,h=>⟨w.1,Way.app (l:=b:: r) w.2 w2 fun x y e e2=>h x y (by rw [List.getLast?_cons_cons];exact e) e2⟩
theorem Way.takeL {f:α→Option α}:∀{l m:List α},Way f (l ++ m)→Way f l
 | [],_,_=>True.intro
 | [_],_,_=>True.intro
 | a:: b:: r,m,h=>⟨h.1,Way.takeL (l:=b:: r) h.2⟩
theorem Way.dropL {f:α→Option α}:∀{l m:List α},Way f (l ++ m)→Way f m
 | [],_,h=>h
 | a:: r,m,h=>Way.dropL (l:=r) (Way.tail h)
theorem Way.joint {f:α→Option α}:∀{l m:List α} {a b:α},Way f (l ++ m)→l.getLast?=some a→m.head?=some b→f a=some b
 | [],_,_,_,_,e,_=>by cases e
 | [x],[],_,_,_,_,e=>by cases e
 | [x],y:: m,a,b,w,e,e2=>by
  cases e
  cases e2
  exact w.1
 | x:: y:: r,m,a,b,w,e,e2=>Way.joint (l:=y:: r) w.2 (by rw [List.getLast?_cons_cons] at e;exact e) e2
structure Round (f:α→Option α) (r:List α):Prop where
 way:Way f r
 shut:∀a b,r.getLast?=some a→r.head?=some b→f a=some b
 nd:r.Nodup
theorem Round.rot {f:α→Option α} {l m:List α} (h:Round f (l ++ m)):Round f (m ++ l):=by
 by_cases hl:l=[]
 ·subst hl;simpa using h
 by_cases hm:m=[]
 ·subst hm;simpa using h
 refine⟨h.way.dropL.app h.way.takeL fun a b e e2=>?_,fun a b e e2=>?_,?_⟩
 ·exact h.shut a b (by rw [List.getLast?_append,e];rfl) (by rw [List.head?_append,e2];rfl)
 ·obtain⟨x,hx⟩:∃x,l.getLast?=some x:=⟨l.getLast hl,List.getLast?_eq_some_getLast hl⟩
  obtain⟨y,hy⟩:∃y,m.head?=some y:=⟨m.head hm,List.head?_eq_some_head hm⟩
  rw [List.getLast?_append,hx] at e
  rw [List.head?_append,hy] at e2
  cases e
  cases e2
  exact h.way.joint hx hy
 ·have:=h.nd
  rw [List.nodup_append] at this ⊢
  exact⟨this.2.1,this.1,fun a ha b hb e=>this.2.2 b hb a ha e.symm⟩
structure Good (T:α→Int) (f:α→Option α) (w:α→Int):Prop where
 slack:∀x y,f x=some y→T x≤T y+w x
 pos:∀r,r≠[]→Round f r→0 <(r.map w).sum
theorem tele {T:α→Int} {f:α→Option α} {w:α→Int}:∀{l:List α} {a e:α},Way f (a:: l ++ [e])→(∀x∈a:: l,∀y,f x=some y→T x≤T y+w x)→T a≤T e+((a:: l).map w).sum
 | [],a,e,h,s=>by
  have:=s a List.mem_cons_self e h.1
  simpa using this
 | b:: r,a,e,h,s=>by
  have h1:=s a List.mem_cons_self b h.1
  have h2:=tele (l:=r) (a:=b) (e:=e) h.2 fun x hx=>s x (List.mem_cons_of_mem _ hx)
  rw [List.map_cons,List.sum_cons]
  omega
theorem Good.grow {T:α→Int} {f:α→Option α} {w:α→Int} (g:Good T f w) {u v:α} {c:Int} (h:T v <T u+c):
  Good (fun x=>if x=v then T u+c else T x) (fun x=>if x=v then some u else f x) (fun x=>if x=v then c else w x):=by
 have up:∀x,T x≤if x=v then T u+c else T x:=fun x=>by
  split
  ·rename_i e;subst e;omega
  ·exact Int.le_refl _
 refine⟨fun x y e=>?_,fun r hr R=>?_⟩
 ·by_cases hx:x=v
  ·subst hx
   rw [if_pos rfl] at e
   cases e
   rw [if_pos rfl,if_pos rfl]
   split
   ·rename_i e;subst e;omega
   ·exact Int.le_refl _
  ·rw [if_neg hx] at e
   rw [if_neg hx,if_neg hx]
   have:=g.slack x y e
   have:=up y
   omega
 ·by_cases hv:v∈r
  ·obtain⟨l,m,rfl⟩:=List.append_of_mem hv
   have R2:=R.rot
   have es:((l ++ v:: m).map fun x=>if x=v then c else w x).sum=(((v:: m) ++ l).map fun x=>if x=v then c else w x).sum:=by
    rw [List.map_append,List.map_append,List.sum_append,List.sum_append]
    omega
   rw [es]
   have nd:=R2.nd
   rw [List.cons_append,List.nodup_cons] at nd
   rw [List.cons_append,List.map_cons,List.sum_cons,if_pos rfl]
   have ew:((m ++ l).map fun x=>if x=v then c else w x)=(m ++ l).map w:=List.map_congr_left fun x hx=>if_neg fun z=>nd.1 (by rw [←z];exact hx)
   rw [ew]
   have way:=R2.way
   have shut:=R2.shut
   rw [List.cons_append] at way shut
   generalize m ++ l=q at nd way shut
   cases q with
   | nil=>
    have:=shut v v rfl rfl
    rw [if_pos rfl] at this
    cases this
    simp
    omega
   | cons b t=>
    have e1:(if v=v then some u else f v)=some b:=way.1
    rw [if_pos rfl] at e1
    cases e1
    have eq:∀x∈u:: t,(if x=v then some u else f x)=f x:=fun x hx=>if_neg fun z=>nd.1 (by rw [←z];exact hx)
    have w2:Way f (u:: t):=(Way.tail way).congr eq
    have w3:Way f ((u:: t) ++ [v]):=w2.app True.intro fun a b ea eb=>by
     have hb:b=v:=by simpa using eb.symm
     subst hb
     have:=shut a b (by rw [List.getLast?_cons_cons];exact ea) rfl
     rw [eq a (List.mem_of_getLast? ea)] at this
     exact this
    have:=tele (T:=T) (w:=w) (l:=t) (a:=u) (e:=v) w3 fun x _ y e=>g.slack x y e
    omega
  ·have eq:∀x∈r,(if x=v then some u else f x)=f x:=fun x hx=>if_neg fun z=>hv (by rw [←z];exact hx)
   have ew:(r.map fun x=>if x=v then c else w x)=r.map w:=List.map_congr_left fun x hx=>if_neg fun z=>hv (by rw [←z];exact hx)
   rw [ew]
   refine g.pos r hr ⟨R.way.congr eq,fun a b ea eb=>?_,R.nd⟩
   rw [←eq a (List.mem_of_getLast? ea)]
   exact R.shut a b ea eb
theorem Good.start (T:α→Int) (w:α→Int):Good T (fun _=>none) w:=by
 refine⟨fun _ _ e=>(by cases e),fun r hr R=>?_⟩
 cases r with
 | nil=>exact absurd rfl hr
 | cons a r=>
  obtain⟨b,hb⟩:∃b,(a:: r).getLast?=some b:=⟨(a:: r).getLast (by simp),List.getLast?_eq_some_getLast (by simp)⟩
  have:=R.shut b a hb rfl
  cases this
structure Rnd {A:Type} (fr to:A→α) (c:A→Int) (arcs:List A) (N:List α) (k j:Nat) (T:α→Int) (f:α→Option α) (w:α→Int) (R:α→Nat):Prop where
 good:Good T f w
 dom:∀v u,f v=some u→v∈N∧u∈N
 src:∀v,1≤R v→∃u,f v=some u∧R v≤R u+1
 le:∀v,R v≤k
 sat1:∀i a,i <j→arcs[i]?=some a→R (fr a) <k→T (fr a)+c a≤T (to a)
 sat2:2≤k→∀i a,j≤i→arcs[i]?=some a→R (fr a)+1 <k→T (fr a)+c a≤T (to a)
section
variable {A:Type} {fr to:A→α} {c:A→Int} {arcs:List A} {N:List α} {k j:Nat} {T:α→Int} {f:α→Option α} {w:α→Int} {R:α→Nat}
theorem Rnd.stay (r:Rnd fr to c arcs N k j T f w R) {a:A} (ha:arcs[j]?=some a) (h:T (fr a)+c a≤T (to a)):Rnd fr to c arcs N k (j+1) T f w R:=by
 refine⟨r.good,r.dom,r.src,r.le,fun i b hi hb hr=>?_,fun hk i b hi hb hr=>r.sat2 hk i b (by omega) hb hr⟩
 by_cases e:i=j
 ·subst e
  rw [ha] at hb
  cases hb
  exact h
 ·exact r.sat1 i b (by omega) hb hr
theorem Rnd.grow (r:Rnd fr to c arcs N k j T f w R) (hk:1≤k) {a:A} (ha:arcs[j]?=some a) (h:T (to a) <T (fr a)+c a) (h1:fr a∈N) (h2:to a∈N):
  Rnd fr to c arcs N k (j+1) (fun x=>if x=to a then T (fr a)+c a else T x) (fun x=>if x=to a then some (fr a) else f x) (fun x=>if x=to a then c a else w x) (fun x=>if x=to a then k else R x):=by
 have up:∀x,T x≤if x=to a then T (fr a)+c a else T x:=fun x=>by
  split
  ·rename_i e;rw [e];omega
  ·exact Int.le_refl _
 have rup:∀x,R x≤if x=to a then k else R x:=fun x=>by
  split
  ·exact r.le x
  ·exact Nat.le_refl _
 refine⟨r.good.grow h,fun v u e=>?_,fun v hv=>?_,fun v=>?_,fun i b hi hb hr=>?_,fun k2 i b hi hb hr=>?_⟩
 ·by_cases hx:v=to a
  ·subst hx
   rw [if_pos rfl] at e
   cases e
   exact⟨h2,h1⟩
  ·rw [if_neg hx] at e
   exact r.dom v u e
 ·by_cases hx:v=to a
  ·subst hx
   refine⟨fr a,if_pos rfl,?_⟩
   rw [if_pos rfl]
   split
   ·omega
   ·rcases Nat.lt_or_ge (R (fr a)+1) k with z | z
    ·have:=r.sat2 (by omega) j a (Nat.le_refl _) ha z
     omega
    ·exact z
  ·rw [if_neg hx] at hv
   obtain⟨u,e,hu⟩:=r.src v hv
   refine⟨u,by rw [if_neg hx];exact e,?_⟩
   rw [if_neg hx]
   have:=rup u
   omega
 ·split
  ·exact Nat.le_refl _
  ·exact r.le v
 ·have hne:fr b≠to a:=fun z=>by rw [if_pos z] at hr;omega
  rw [if_neg hne] at hr ⊢
  by_cases e:i=j
  ·subst e
   rw [ha] at hb
   cases hb
   rw [if_pos rfl]
   exact Int.le_refl _
  ·have:=r.sat1 i b (by omega) hb hr
   have:=up (to b)
   omega
 ·have hne:fr b≠to a:=fun z=>by rw [if_pos z] at hr;omega
  rw [if_neg hne] at hr ⊢
  have:=r.sat2 k2 i b (by omega) hb hr
  have:=up (to b)
  omega
theorem Rnd.next (r:Rnd fr to c arcs N k arcs.length T f w R):Rnd fr to c arcs N (k+1) 0 T f w R:=
 ⟨r.good,r.dom,r.src,fun v=>Nat.le_succ_of_le (r.le v),fun i a hi=>absurd hi (Nat.not_lt_zero _),fun _ i a _ ha hr=>r.sat1 i a (List.getElem?_eq_some_iff.mp ha).1 ha (by omega)⟩
theorem Rnd.start:Rnd fr to c arcs N 1 0 (fun _=>0) (fun _=>none) (fun _=>0) (fun _=>0):=
 ⟨.start _ _,fun _ _ e=>(by cases e),fun _ h=>absurd h (by omega),fun _=>Nat.zero_le _,fun i a hi=>absurd hi (Nat.not_lt_zero _),fun h=>absurd h (by omega)⟩
end
structure Gone (f:α→Option α) (x:α) (seen:List α) (a:α):Prop where
 way:Way f (seen ++ [a])
 nd:seen.Nodup
 hd:(seen ++ [a]).head?=some x
theorem Gone.start (f:α→Option α) (x:α):Gone f x [] x:=⟨True.intro,List.nodup_nil,rfl⟩
theorem Gone.step {f:α→Option α} {x a b:α} {seen:List α} (g:Gone f x seen a) (e:f a=some b) (h:a∉seen):Gone f x (seen ++ [a]) b:=by
 refine⟨g.way.snoc e,?_,?_⟩
 ·rw [List.nodup_append]
  exact⟨g.nd,by simp,fun y hy z hz q=>h (by rw [List.mem_singleton] at hz;rw [←hz,←q];exact hy)⟩
 ·have:=g.hd
  cases seen <;> simpa using this
theorem Gone.mem {f:α→Option α} {x a:α} {seen:List α} (g:Gone f x seen a):∀y∈seen,∃z,f y=some z:=fun y hy=>by
 obtain⟨l,m,rfl⟩:=List.append_of_mem hy
 have w:=g.way
 rw [List.append_assoc] at w
 have w:=w.dropL
 cases m with
 | nil=>exact⟨_,w.1⟩
 | cons b m=>exact⟨_,w.1⟩
theorem Gone.round {f:α→Option α} {x a:α} {seen:List α} (g:Gone f x seen a) {j:Nat} (h:seen[j]?=some a):Round f (seen.drop j)∧seen.drop j≠[]:=by
 have hj:=(List.getElem?_eq_some_iff.mp h).1
 have hne:seen.drop j≠[]:=fun z=>by have:=congrArg List.length z;rw [List.length_drop,List.length_nil] at this;omega
 have w:=g.way.drop j
 rw [List.drop_append_of_le_length (by omega)] at w
 refine⟨⟨w.init,fun y b ey eb=>?_,g.nd.sublist (List.drop_sublist _ _)⟩,hne⟩
 have hb:b=a:=by
  rw [List.head?_drop,h] at eb
  exact(Option.some.inj eb).symm
 subst hb
 exact w.joint ey rfl
theorem Gone.deep {f:α→Option α} {x a:α} {seen N:List α} {R:α→Nat} (g:Gone f x seen a) (src:∀v,1≤R v→∃u,f v=some u∧R v≤R u+1) (dom:∀v u,f v=some u→v∈N∧u∈N) (hx:x∈N) (hR:N.length≤R x) (stop:a∈seen∨f a=none):a∈seen:=by
 rcases stop with h | h
 ·exact h
 refine Classical.byContradiction fun hn=>?_
 have ra:R a=0:=by
  cases e:R a with
  | zero=>rfl
  | succ n=>
   obtain⟨u,eu,_⟩:=src a (by omega)
   rw [h] at eu
   cases eu
 have key:∀(l:List α) (y:α),Way f (l ++ [a])→(l ++ [a]).head?=some y→R y≤R a+l.length:=by
  intro l
  induction l with
  | nil=>
   intro y _ e
   have:a=y:=by simpa using e
   subst this
   exact Nat.le_refl _
  | cons b r ih=>
   intro y w e
   have:b=y:=by simpa using e
   subst this
   rcases Nat.eq_zero_or_pos (R b) with z | z
   ·omega
   ·obtain⟨u,eu,hu⟩:=src b z
    have w2:Way f (r ++ [a]):=Way.tail w
    have:(r ++ [a]).head?=some u:=by
     cases r with
     | nil=>have:=w.1;rw [eu] at this;simpa using this.symm
     | cons d r=>have:=w.1;rw [eu] at this;simpa using this.symm
    have:=ih u w2 this
    rw [List.length_cons]
    omega
 have h1:=key seen x g.way g.hd
 have hin:∀y∈seen ++ [a],y∈N:=fun y hy=>by
  rcases List.mem_append.mp hy with hs | hs
  ·obtain⟨z,ez⟩:=g.mem y hs
   exact(dom y z ez).1
  ·rw [List.mem_singleton] at hs
   subst hs
   cases hq:seen.getLast? with
   | none=>
    have:seen=[]:=by simpa using hq
    subst this
    have:=g.hd
    have:y=x:=by simpa using this
    subst this
    exact hx
   | some l=>exact(dom _ _ (g.way.joint hq rfl)).2
 have nd:(seen ++ [a]).Nodup:=by
  rw [List.nodup_append]
  exact⟨g.nd,by simp,fun y hy z hz q=>hn (by rw [List.mem_singleton] at hz;rw [←hz,←q];exact hy)⟩
 have:=xj nd hin
 rw [List.length_append,List.length_singleton] at this
 omega
end
end Rg
theorem arcsOf_len (ls:List LaneD) (ps:List PD) (hl:ls.length≤24) (hp:ps.length≤16):(zK ls ps).length≤64:=by
 unfold zK
 rw [List.length_append,zc,List.length_map]
 omega
structure Gd (n:Nat) (d:PyData):Prop where
 eq:PyData.eqv d d=true
 lay:PyData.canLay0 d=true
 dep:PyData.depth d≤n
theorem Gd.all {n:Nat}:∀{ds:List PyData},(∀d∈ds,Gd n d)→PyData.eqvAll ds ds=true∧PyData.canLayAll0 ds=true∧PyData.depthAll ds≤n
 | [],_=>⟨by simp [PyData.eqvAll],by simp [PyData.canLayAll0],by simp [PyData.depthAll]⟩
 | d:: r,h=>by
  obtain⟨h1,h2,h3⟩:=Gd.all (ds:=r) fun x hx=>h x (List.mem_cons_of_mem _ hx)
  have g:=h d List.mem_cons_self
  have g3:=g.dep
  refine⟨by simp [PyData.eqvAll,g.eq,h1],by simp [PyData.canLayAll0,g.lay,h2],?_⟩
  simp only [PyData.depthAll]
  omega
theorem Gd.list {n:Nat} {ds:List PyData} (h:∀d∈ds,Gd n d):Gd (n+1) (.list ds):=by
 obtain⟨h1,h2,h3⟩:=Gd.all h
 exact⟨by simp [PyData.eqv,h1],by simp [PyData.canLay0,h2],by simp only [PyData.depth];omega⟩
theorem Gd.tuple {n:Nat} {ds:List PyData} (h:∀d∈ds,Gd n d):Gd (n+1) (.tuple ds):=by
 obtain⟨h1,h2,h3⟩:=Gd.all h
 exact⟨by simp [PyData.eqv,h1],by simp [PyData.canLay0,h2],by simp only [PyData.depth];omega⟩
theorem Gd.int (n:Nat) (i:Int):Gd n (.int i):=⟨by simp [PyData.eqv],by simp [PyData.canLay0],by simp [PyData.depth]⟩
theorem Gd.str (n:Nat) {x:Str} (h:PyData.strOk x=true):Gd n (.str x):=⟨by simp [PyData.eqv],by simp [PyData.canLay0,h],by simp [PyData.depth]⟩
theorem Gd.ints (n:Nat) (ws:List Int):∀d∈ws.map PyData.int,Gd n d:=fun d hd=>by
 obtain⟨i,_,rfl⟩:=List.mem_map.mp hd
 exact .int n i
theorem Gd.strs (n:Nat) {xs:List Str} (h:∀x∈xs,PyData.strOk x=true):∀d∈xs.map PyData.str,Gd n d:=fun d hd=>by
 obtain⟨x,hx,rfl⟩:=List.mem_map.mp hd
 exact .str n (h x hx)
theorem Gd.shaped {n:Nat} {d:PyData} (h:Gd n d) (hn:n≤64):SeqAt.shaped d=true:=by
 have:=h.dep
 unfold SeqAt.shaped
 rw [h.lay,decide_eq_true (show d.depth≤64 by omega)]
 rfl
theorem Ad {z:Str} (h:nameB z=true):PyData.strOk z=true:=by
 have e:∀c∈z.cps.toList,c <0x110000:=fun c hc=>by
  unfold nameB at h
  split at h
  ·cases h
  ·rename_i c0 r e
   rw [e] at hc
   simp only [Bool.and_eq_true,List.all_eq_true,Bool.or_eq_true] at h
   have:=h.2.2 c hc
   unfold low fig at this
   simp only [Bool.and_eq_true,decide_eq_true_eq] at this
   omega
 unfold PyData.strOk
 rw [Array.all_eq_true']
 intro c hc
 exact decide_eq_true (e c (by simpa using hc))
theorem kname_ok:∀i,i <11→PyData.strOk (eO i)=true:=by decide +kernel
theorem dts_int {H:Hp}:∀ws:List Int,Dts K H (ws.map V.int) (ws.map PyData.int)
 | []=>.nil
 | i:: r=>.cons (.int i) (dts_int r)
theorem Ah {H:Hp}:∀xs:List Str,Dts K H (xs.map V.str) (xs.map PyData.str)
 | []=>.nil
 | x:: r=>.cons (.str x) (Ah r)
def laneP (l:LaneD):PyData:=.tuple [.str l.name,.int l.room,.tuple (l.first.map PyData.int)]
def rowP (p:PD):PyData:=.tuple [.str (eO p.kind),.str p.name,.tuple (p.nums.map PyData.int),.tuple (p.ins.map PyData.str),.tuple (p.outs.map PyData.str)]
def toldP (ls:List LaneD) (ps:List PD):PyData:=.tuple [.list (ls.map laneP),.list (ps.map rowP)]
theorem Fit.inN {ls:List LaneD} {ps:List PD} (h:Fit ls ps) {p:PD} (hp:p∈ps):(∀x∈p.ins,PyData.strOk x=true)∧∀x∈p.outs,PyData.strOk x=true:=by
 have nm:∀x∈ls.map (·.name),PyData.strOk x=true:=fun x hx=>by
  obtain⟨l,hl,rfl⟩:=List.mem_map.mp hx
  exact Ad (h.lnm l hl)
 exact⟨fun x hx=>nm x (h.whole.ins.mem_iff.mp (List.mem_flatMap.mpr ⟨p,hp,hx⟩)),fun x hx=>nm x (h.whole.outs.mem_iff.mp (List.mem_flatMap.mpr ⟨p,hp,hx⟩))⟩
theorem Fit.told {ls:List LaneD} {ps:List PD} (h:Fit ls ps):Gd 5 (toldP ls ps):=by
 unfold toldP
 refine .tuple fun d hd=>?_
 simp only [List.mem_cons,List.not_mem_nil,or_false] at hd
 rcases hd with rfl | rfl
 ·refine .list fun d hd=>?_
  obtain⟨l,hl,rfl⟩:=List.mem_map.mp hd
  unfold laneP
  refine .tuple fun d hd=>?_
  simp only [List.mem_cons,List.not_mem_nil,or_false] at hd
  rcases hd with rfl | rfl | rfl
  ·exact .str _ (Ad (h.lnm l hl))
  ·exact .int _ _
  ·exact .tuple (.ints _ _)
 ·refine .list fun d hd=>?_
  obtain⟨p,hp,rfl⟩:=List.mem_map.mp hd
  unfold rowP
  refine .tuple fun d hd=>?_
  simp only [List.mem_cons,List.not_mem_nil,or_false] at hd
  rcases hd with rfl | rfl | rfl | rfl | rfl
  ·exact .str _ (kname_ok _ (h.pok p hp).1)
  ·exact .str _ (Ad (h.pnm p hp))
  ·exact .tuple (.ints _ _)
  ·exact .tuple (.strs _ (h.inN hp).1)
  ·exact .tuple (.strs _ (h.inN hp).2)
theorem dts_of {α:Type} {H:Hp} {R:V→α→Prop} {f:α→PyData} (h:∀v a,R v a→Dt K H v (f a)):∀{xs:List V} {ys:List α},All2 R xs ys→Dts K H xs (ys.map f)
 | _,_,.nil=>.nil
 | _,_,.cons r t=>.cons (h _ _ r) (dts_of h t)
theorem ToldAt.dt {H:Hp} {T a b:Addr} {ls:List LaneD} {ps:List PD} (h:ToldAt K H T a b ls ps):Dt K H (.ref T) (toldP ls ps):=by
 obtain⟨h1,⟨xs,e1,a1⟩,⟨ys,e2,a2⟩⟩:=h
 refine .tuple (SqT.of h1) (.cons (.list (SqL.of e1) (dts_of (fun v l h=>?_) a1)) (.cons (.list (SqL.of e2) (dts_of (fun v p h=>?_) a2)) .nil))
 ·obtain⟨q,f,rfl,h2,h3⟩:=h
  exact .tuple (SqT.of h2) (.cons (.str _) (.cons (.int _) (.cons (.tuple h3 (dts_int _)) .nil)))
 ·obtain⟨q,b1,b2,b3,rfl,h2,h3,h4,h5⟩:=h
  exact .tuple (SqT.of h2) (.cons (.str _) (.cons (.str _) (.cons (.tuple h3 (dts_int _)) (.cons (.tuple h4 (Ah _)) (.cons (.tuple h5 (Ah _)) .nil)))))
def kdNames (ps:List PD) (x:Str):List Str:=(ps.filter fun p=>decide (eO p.kind=x)).map (·.name)
def fj (ps:List PD):List Str:=(ps.filter ym).map (·.name)
theorem oddNames_snoc (ps:List PD) (p:PD):fj (ps ++ [p])=if ym p=true then fj ps ++ [p.name] else fj ps:=by
 unfold fj
 rw [List.filter_append,List.map_append]
 cases h:ym p <;> simp [h]
theorem oddN_head (ps:List PD):(fj ps=[]∧rE ps=.non)∨∃x r,fj ps=x:: r∧rE ps=.str x:=by
 unfold fj rE
 induction ps with
 | nil=>exact .inl ⟨rfl,rfl⟩
 | cons p r ih=>
  cases h:ym p
  ·rw [List.filter_cons_of_neg (by simp [h]),List.find?_cons_of_neg (by simp [h])]
   exact ih
  ·rw [List.filter_cons_of_pos h,List.find?_cons_of_pos h]
   exact .inr ⟨p.name,_,rfl,rfl⟩
def LaneM (H1 H:Hp) (v:V) (l:LaneD):Prop:=∃q f,v=.ref q∧H q=some (.lst [.str l.name,.int l.room,.ref f])∧H f=some (.lst (l.first.map V.int))∧H1 f=none
def RowM (H1 H:Hp) (v:V) (p:PD):Prop:=∃q a1 a2 a3,v=.ref q∧H q=some (.lst [.str (eO p.kind),.str p.name,.ref a1,.ref a2,.ref a3])∧H a1=some (.lst (p.nums.map V.int))∧H a2=some (.lst (p.ins.map V.str))∧H a3=some (.lst (p.outs.map V.str))∧H1 a1=none∧H1 a2=none∧H1 a3=none
theorem LaneM.same {H1 H H':Hp} {v:V} {l:LaneD} (h:LaneM H1 H v l) (s:aQ H H'):LaneM H1 H' v l:=by
 obtain⟨q,f,e,h1,h2,h3⟩:=h
 exact⟨q,f,e,s _ _ h1,s _ _ h2,h3⟩
theorem RowM.same {H1 H H':Hp} {v:V} {p:PD} (h:RowM H1 H v p) (s:aQ H H'):RowM H1 H' v p:=by
 obtain⟨q,a1,a2,a3,e,h1,h2,h3,h4,h5⟩:=h
 exact⟨q,a1,a2,a3,e,s _ _ h1,s _ _ h2,s _ _ h3,s _ _ h4,h5⟩
theorem LaneH.same {H H':Hp} {v:V} {l:LaneD} (h:LaneH K H v l) (s:aQ H H'):LaneH K H' v l:=by
 obtain⟨q,f,e,h1,h2⟩:=h
 exact⟨q,f,e,s _ _ h1,s.seqA h2⟩
theorem RowH.same {H H':Hp} {v:V} {p:PD} (h:RowH K H v p) (s:aQ H H'):RowH K H' v p:=by
 obtain⟨q,a1,a2,a3,e,h1,h2,h3,h4⟩:=h
 exact⟨q,a1,a2,a3,e,s _ _ h1,s.seqA h2,s.seqA h3,s.seqA h4⟩
def leafy (ws:List V):Prop:=(∀x∈ws,∃i,x=.int i)∨∀x∈ws,∃z,x=.str z
theorem not_leafy {ws:List V} {a:Addr} (h:V.ref a∈ws):¬leafy ws:=by
 rintro(z | z)
 ·obtain⟨_,e⟩:=z _ h;cases e
 ·obtain⟨_,e⟩:=z _ h;cases e
structure Leaf (H1 H3 H:Hp) (Hd Kn:Addr) (zs ks:List V) (m:Nat):Prop where
 hd:H Hd=some (.lst zs)
 kn:H Kn=some (.lst ks)
 r1:∀v∈zs,∃q x y f,v=.ref q∧H q=some (.lst [x,y,.ref f])∧H3 q=some (.lst [x,y,.ref f])∧H1 f=none∧(∃ws,H3 f=some (.lst ws)∧leafy ws)
 r2:∀v∈ks,∃q x y a b c,v=.ref q∧H q=some (.lst [x,y,.ref a,.ref b,.ref c])∧H3 q=some (.lst [x,y,.ref a,.ref b,.ref c])∧∀f∈[a,b,c],H1 f=none∧(∃ws,H3 f=some (.lst ws)∧leafy ws∧ws.length≤3)
 lf:∀f ws,H3 f=some (.lst ws)→leafy ws→∃ws',H f=some (.lst ws')∧ws'.length≤ws.length+m
 hd3:H3 Hd=some (.lst zs)
 kn3:H3 Kn=some (.lst ks)
theorem Leaf.poke {H1 H3 H:Hp} {Hd Kn S:Addr} {zs ks xs:List V} {m m':Nat} (h:Leaf H1 H3 H Hd Kn zs ks m) (hm:m≤m') (hS:∀ws,H3 S=some (.lst ws)→leafy ws∧xs.length≤ws.length+m') (z1:∃a,V.ref a∈zs) (z2:∃a,V.ref a∈ks):Leaf H1 H3 (upd H S (.lst xs)) Hd Kn zs ks m':=by
 have ne:∀{b:Addr} {ws:List V} {a:Addr},H3 b=some (.lst ws)→V.ref a∈ws→b≠S:=fun e hm z=>by
  rw [z] at e
  exact not_leafy hm (hS _ e).1
 obtain⟨a1,z1⟩:=z1
 obtain⟨a2,z2⟩:=z2
 refine⟨by rw [aH (ne h.hd3 z1)];exact h.hd,by rw [aH (ne h.kn3 z2)];exact h.kn,fun v hv=>?_,fun v hv=>?_,fun f ws e hw=>?_,h.hd3,h.kn3⟩
 ·obtain⟨q,x,y,f,e,g1,g2,g3⟩:=h.r1 v hv
  exact⟨q,x,y,f,e,by rw [aH (ne g2 (a:=f) (by simp))];exact g1,g2,g3⟩
 ·obtain⟨q,x,y,a,b,c,e,g1,g2,g3⟩:=h.r2 v hv
  exact⟨q,x,y,a,b,c,e,by rw [aH (ne g2 (a:=a) (by simp))];exact g1,g2,g3⟩
 ·by_cases hf:f=S
  ·subst hf;exact⟨_,au,(hS ws e).2⟩
  ·obtain⟨ws',e',l'⟩:=h.lf f ws e hw
   exact⟨ws',by rw [aH hf];exact e',by omega⟩
theorem Leaf.same {H1 H3 H H':Hp} {Hd Kn:Addr} {zs ks:List V} {m:Nat} (h:Leaf H1 H3 H Hd Kn zs ks m) (s:aQ H H'):Leaf H1 H3 H' Hd Kn zs ks m:=by
 refine⟨s _ _ h.hd,s _ _ h.kn,fun v hv=>?_,fun v hv=>?_,fun f ws e hw=>?_,h.hd3,h.kn3⟩
 ·obtain⟨q,x,y,f,e,g1,g2,g3⟩:=h.r1 v hv
  exact⟨q,x,y,f,e,s _ _ g1,g2,g3⟩
 ·obtain⟨q,x,y,a,b,c,e,g1,g2,g3⟩:=h.r2 v hv
  exact⟨q,x,y,a,b,c,e,s _ _ g1,g2,g3⟩
 ·obtain⟨ws',e',l'⟩:=h.lf f ws e hw
  exact⟨ws',s _ _ e',l'⟩
theorem ph {H:Hp} {S b:Addr} {xs ys:List V} {u:HO} (e:H S=some (.lst xs)) (h:H b=some u) (hu:∀ks,u≠.lst ks):upd H S (.lst ys) b=some u:=by
 rw [aH (uA h e (by intro z;exact hu _ z))]
 exact h
theorem yL {H:Hp} {S a:Addr} {xs ys zs:List V} (e:H S=some (.lst xs)) (h:SqT K H a zs):SqT K (upd H S (.lst ys)) a zs:=by
 rcases h with (h | ⟨o,h⟩) | h
 ·exact .inl (.inl (ph e h (by intro _ z;cases z)))
 ·exact .inl (.inr ⟨o,ph e h (by intro _ z;cases z)⟩)
 ·exact .inr h
theorem qg.poke {H:Hp} {n S:Addr} {ls:List LaneD} {ps:List PD} {xs ys:List V} (N:qg K t H n ls ps) (e:H S=some (.lst xs)):qg K t (upd H S (.lst ys)) n ls ps:=by
 obtain⟨dx,fs,R,F,Pd,G,Tk,FL,PL,N⟩:=N
 refine⟨dx,fs,R,F,Pd,G,Tk,FL,PL,ph e N.obj (by intro _ z;cases z),N.fl,ph e N.rooms (by intro _ z;cases z),ph e N.firsts (by intro _ z;cases z),ph e N.parts (by intro _ z;cases z),ph e N.givers (by intro _ z;cases z),ph e N.takers (by intro _ z;cases z),N.fls,N.pls,fun q hq=>yL e (N.tups q hq),fun q hq=>?_,N.fit,N.neRF⟩
 obtain⟨dx',tn,ti,to,h1,h2,h3,h4⟩:=N.pats q hq
 exact⟨dx',tn,ti,to,ph e h1 (by intro _ z;cases z),yL e h2,yL e h3,yL e h4⟩
theorem Gd.bl (n:Nat) (b:Bool):Gd n (.bool b):=⟨by simp [PyData.eqv],by simp [PyData.canLay0],by simp [PyData.depth]⟩
theorem xr {H:Hp}:∀bs:List Bool,Dts K H (bs.map V.bl) (bs.map PyData.bool)
 | []=>.nil
 | b:: r=>.cons (.bl b) (xr r)
theorem Gd.bls (bs:List Bool):Gd 1 (.list (bs.map PyData.bool)):=Gd.list (n:=0) fun d hd=>by
 obtain⟨b,_,rfl⟩:=List.mem_map.mp hd
 exact .bl _ _
def sp_NoSuch___init__ (C:Addr):Sp:=fun vs H Q _=>∃(a:Addr) (v:V),vs=[.ref a,v]∧H a=some (vm a C)∧∀dx,H dx=none→dx≠a→Q .non (upd (upd H a (zL a C dx)) dx (.xd [("name",v)]))
theorem sc_NoSuch___init__:FnScope ["self", "name"] ["self", "name"] (aA dO):=⟨rfl,rfl,rfl,by decide +kernel,rfl,by decide +kernel,by decide +kernel⟩
theorem ok_NoSuch___init__ (T:Txt w K mg t):FnOk P w K mg base CX0 1 t.lB t.jP ["self", "name"] (sp_NoSuch___init__ t.dB):=by
 have sc:=sc_NoSuch___init__
 refine T.F_NoSuch___init__.ok sc (fun vs H Q E h=>?_) (fun cdv A outer s H vs Q E hr h=>?_)
 ·obtain⟨a,v,rfl,_⟩:=h
  rfl
 ·obtain⟨a,v,rfl,ea,k⟩:=h
  refine⟨_,(aB (bF (pe_base (by rfl) T.oX T.uf (aj (pv 0) (aj (pv 1) aq ak) ak)))
   (aC (ps_fldX (pv 0) (pv 1) rfl))),?_⟩
  refine⟨_,rfl,_,rfl,a,_,_,[v],rfl,ea,T.X_NoSuch.ini,by show 1≤1000;decide,?_⟩
  exact⟨_,rfl,_,rfl,a,_,rfl,ea,T.xf_NoSuch,T.na_NoSuch,k⟩
def sp_NotCalm___init__ (C:Addr):Sp:=fun vs H Q _=>∃(a:Addr) (v:V),vs=[.ref a,v]∧H a=some (vm a C)∧∀dx,H dx=none→dx≠a→Q .non (upd (upd H a (zL a C dx)) dx (.xd [("name",v)]))
theorem sc_NotCalm___init__:FnScope ["self", "name"] ["self", "name"] (aA dI):=⟨rfl,rfl,rfl,by decide +kernel,rfl,by decide +kernel,by decide +kernel⟩
theorem ok_NotCalm___init__ (T:Txt w K mg t):FnOk P w K mg base CX0 1 t.jN t.jB ["self", "name"] (sp_NotCalm___init__ t.bG):=by
 have sc:=sc_NotCalm___init__
 refine T.F_NotCalm___init__.ok sc (fun vs H Q E h=>?_) (fun cdv A outer s H vs Q E hr h=>?_)
 ·obtain⟨a,v,rfl,_⟩:=h
  rfl
 ·obtain⟨a,v,rfl,ea,k⟩:=h
  refine⟨_,(aB (bF (pe_base (by rfl) T.oX T.uf (aj (pv 0) (aj (pv 1) aq ak) ak)))
   (aC (ps_fldX (pv 0) (pv 1) rfl))),?_⟩
  refine⟨_,rfl,_,rfl,a,_,_,[v],rfl,ea,T.X_NotCalm.ini,by show 1≤1000;decide,?_⟩
  exact⟨_,rfl,_,rfl,a,_,rfl,ea,T.pN,T.Bj,k⟩
def sp_TooFast___init__ (K:PySem.W.Frag) (C:Addr):Sp:=fun vs H Q _=>∃(a L:Addr) (as:List AA),vs=[.ref a,.ref L]∧H a=some (vm a C)∧ArcsR H L as∧as.length≤1000∧∀H1 dx L2,aQ H H1→H1 dx=none→dx≠a→ArcsR H1 L2 as→L2≠a→Q .non (upd (upd H1 a (zL a C dx)) dx (.xd [("ring",.ref L2)]))
theorem sc_TooFast___init__:FnScope ["self", "ring"] ["self", "ring"] (aA dH):=⟨rfl,rfl,rfl,by decide +kernel,rfl,by decide +kernel,by decide +kernel⟩
theorem ok_TooFast___init__ (T:Txt w K mg t):FnOk P w K mg base CX0 1 t.jQ t.jA ["self", "ring"] (sp_TooFast___init__ K t.bO):=by
 have sc:=sc_TooFast___init__
 refine T.F_TooFast___init__.ok sc (fun vs H Q E h=>?_) (fun cdv A outer s H vs Q E hr h=>?_)
 ·obtain⟨a,L,as,rfl,_⟩:=h
  rfl
 ·obtain⟨a,L,as,rfl,ea,A,la,k⟩:=h
  refine⟨_,(aB (bF (pe_base (by rfl) T.oX T.uf (aj (pv 0) (aj bH aq ao) ak)))
   (aC (ps_fldX (pv 0) (eZ yP (by rfl) T.Bh yp (aj (pv 1) aq ak)) rfl))),?_⟩
  have hz:sizeLine=16777216:=sizeLine_eq
  refine⟨_,rfl,a,_,_,_,rfl,ea,T.X_TooFast.ini,by show 1≤1000;decide,?_⟩
  refine⟨_,rfl,L,_,rfl,.inl (SqL.of A.lst),fun L2 nL2=>?_⟩
  have t2:=aD (o:=.lst (as.map fun q=>V.ref q.2)) nL2
  refine⟨_,rfl,a,_,rfl,t2 _ _ ea,T.sJ,T.na_TooFast,fun dx nd ne=>?_⟩
  exact k _ dx L2 t2 nd ne ⟨au,fun q hq=>t2 _ _ (A.at_ q hq)⟩ (aF ea nL2).symm
def sp_is_whole (K:PySem.W.Frag):Sp:=fun vs H Q _=>∃x Tx b,vs=[x]∧tyN K H x Tx∧Tx∈fD∧decide (Tx= "int")=b∧Q (.bl b) H
theorem sc_is_whole:FnScope ["thing"] ["thing"] (aA mQ):=⟨rfl,rfl,rfl,by decide +kernel,rfl,by decide +kernel,by decide +kernel⟩
theorem qi (T:Txt w K mg t):FnOk P w K mg base CX0 1 t.wX t.vf ["thing"] (sp_is_whole K):=by
 have sc:=sc_is_whole
 refine T.p8.ok sc (fun vs H Q E h=>?_) (fun cdv A outer s H vs Q E hr h=>?_)
 ·obtain⟨x,Tx,b,rfl,_⟩:=h
  rfl
 ·obtain⟨x,Tx,b,rfl,ty,hm,rfl,k⟩:=h
  refine⟨_,(aC (aZ (zf (bL Bw (by rfl) T.jt iz (aj (pv 0) (aj (pe_bltT (by rfl) T.n_int bt_int) aq ak) ak)) (yX (pe_not (bL Bw (by rfl) T.jt iz (aj (pv 0) (aj (pe_bltT (by rfl) T.n_bool bt_bool) aq ak) ak))))))),?_⟩
  have hm':Tx= "int" ∨Tx= "bool" ∨(subT Tx "int" =false∧Tx≠ "int"):=by
   simp only [fD,List.mem_cons,List.not_mem_nil,or_false] at hm
   rcases hm with rfl | rfl | rfl | rfl | rfl | rfl | rfl
   ·exact .inr (.inr (by decide))
   ·exact .inr (.inl rfl)
   ·exact .inl rfl
   ·exact .inr (.inr (by decide))
   ·exact .inr (.inr (by decide))
   ·exact .inr (.inr (by decide))
   ·exact .inr (.inr (by decide))
  rcases hm' with rfl | rfl | ⟨h1,h2⟩
  ·exact⟨_,rfl,x, "int", "int",true,rfl,ty,by decide,by decide,true,rfl,lX ⟨_,rfl,x, "int", "bool",false,rfl,ty,by decide,by decide,_,rfl,k⟩⟩
  ·exact⟨_,rfl,x, "bool", "int",true,rfl,ty,by decide,by decide,true,rfl,lX ⟨_,rfl,x, "bool", "bool",true,rfl,ty,by decide,by decide,_,rfl,k⟩⟩
  ·rw [decide_eq_false h2] at k
   exact⟨_,rfl,x,Tx, "int",false,rfl,ty,by decide,h1,false,rfl,fX k⟩
def sp_is_value (K:PySem.W.Frag):Sp:=fun vs H Q _=>∃x,vs=[x]∧((∃i:Int,x=.int i∧Q (.bl (decide (0≤i) && decide (i <1000000000))) H)∨∃Tx,tyN K H x Tx∧Tx∈fD∧Tx≠ "int" ∧Q (.bl false) H)
theorem sc_is_value:FnScope ["thing"] ["thing"] (aA mJ):=⟨rfl,rfl,rfl,by decide +kernel,rfl,by decide +kernel,by decide +kernel⟩
theorem zZ (T:Txt w K mg t):FnOk P w K mg base CX0 2 t.xO t.uJ ["thing"] (sp_is_value K):=by
 have sc:=sc_is_value
 refine T.xg.ok sc (fun vs H Q E h=>?_) (fun cdv A outer s H vs Q E hr h=>?_)
 ·obtain⟨x,rfl,_⟩:=h
  rfl
 ·obtain⟨x,rfl,h⟩:=h
  refine⟨_,(aC (aZ (zf (aJ (qi T) (hr.mono (by decide)) (by rfl) T.tQ T.p8.kp T.tE .nil aO (aj (pv 0) aq ak)) (yX (pe_chain uG wQ az (pv 0) (lW (by rfl) T.g_VALUES)))))),?_⟩
  rcases h with ⟨i,rfl,k⟩ | ⟨Tx,ty,hm,hne,k⟩
  ·refine⟨_,rfl,.int i, "int",true,rfl,rfl,by decide,by decide,true,rfl,lX ⟨_,rfl,_,_,rfl,rfl,_,rfl,jM (fun h=>?_) (fun h=>?_)⟩⟩
   ·have h':0≤i:=of_decide_eq_true h
    rw [decide_eq_true h',Bool.true_and] at k
    exact⟨_,_,rfl,rfl,k⟩
   ·have h':¬0≤i:=fun z=>h (decide_eq_true z)
    rw [decide_eq_false h',Bool.false_and] at k
    exact k
  ·exact⟨_,rfl,x,Tx,false,rfl,ty,hm,decide_eq_false hne,false,rfl,fX k⟩
def sp_Part___init__ (K:PySem.W.Frag) (t:Adr):Sp:=fun vs H Q _=>∃(i:Nat) (p dx a1 a2 a3:Addr) (nm:V) (ns is os:List V),vs=[.ref p,nm,.ref a1,.ref a2,.ref a3]∧H p=some (.ins (cls t i) dx [])∧SqA K H a1 ns∧SqA K H a2 is∧SqA K H a3 os∧
 ∀H',But p H H'→PartAt K t H' p i nm ns is os→Q .non H'
theorem sc_Part___init__:FnScope ["self", "name", "numbers", "ins", "outs"] ["self", "name", "numbers", "ins", "outs"] (aA fK):=⟨rfl,rfl,rfl,by decide +kernel,rfl,by decide +kernel,by decide +kernel⟩
theorem bZ (T:Txt w K mg t):FnOk P w K mg base CX0 1 t.bV t.mU ["self", "name", "numbers", "ins", "outs"] (sp_Part___init__ K t):=by
 have sc:=sc_Part___init__
 refine T.F_Part___init__.ok sc (fun vs H Q E h=>?_) (fun cdv A outer s H vs Q E hr h=>?_)
 ·obtain⟨i,p,dx,a1,a2,a3,nm,ns,is,os,rfl,_⟩:=h
  rfl
 ·obtain⟨i,p,dx,a1,a2,a3,nm,ns,is,os,rfl,hp,q1,q2,q3,k⟩:=h
  refine⟨_,(aB (uq (pv 0) (pv 1) rfl)
   (aB (uq (pv 0) (eZ wj (by rfl) T.Ag yG (aj (pv 2) aq ak)) rfl)
   (aB (uq (pv 0) (eZ wj (by rfl) T.Ag yG (aj (pv 3) aq ak)) rfl)
   (aC (uq (pv 0) (eZ wj (by rfl) T.Ag yG (aj (pv 4) aq ak)) rfl))))),?_⟩
  refine⟨_,rfl,_,rfl,p,cls t i,dx,[],rfl,hp,mF T i,yD T i,by show 0 <1000;decide,?_⟩
  have b1:But p H (upd H p (.ins (cls t i) dx (aY "name" nm []))):=But.write
  have e1:(upd H p (.ins (cls t i) dx (aY "name" nm []))) p=some (.ins (cls t i) dx (aY "name" nm [])):=au
  generalize upd H p (.ins (cls t i) dx (aY "name" nm []))=H1 at b1 e1 ⊢
  have r2:=b1.seqA hp q2
  have r3:=b1.seqA hp q3
  refine⟨_,rfl,a1,ns,rfl,b1.seqA hp q1,fun H2 u2 s2 t2=>⟨_,rfl,p,cls t i,dx,_,rfl,s2 _ _ e1,mF T i,Ar T i,Nat.lt_of_le_of_lt (wC (Nat.zero_le 0)) (by decide),?_⟩⟩
  have e2:=s2 _ _ e1
  have b2:But p H2 (upd H2 p (.ins (cls t i) dx (aY "numbers" (.ref u2) (aY "name" nm [])))):=But.write
  have e3:(upd H2 p (.ins (cls t i) dx (aY "numbers" (.ref u2) (aY "name" nm [])))) p=some (.ins (cls t i) dx (aY "numbers" (.ref u2) (aY "name" nm []))):=au
  generalize upd H2 p (.ins (cls t i) dx (aY "numbers" (.ref u2) (aY "name" nm [])))=H3 at b2 e3 ⊢
  have r2':=b2.seqA e2 (s2.seqA r2)
  have r3':=b2.seqA e2 (s2.seqA r3)
  have t2':=b2.seqT e2 t2
  refine⟨_,rfl,a2,is,rfl,r2',fun H4 u4 s4 t4=>⟨_,rfl,p,cls t i,dx,_,rfl,s4 _ _ e3,mF T i,na_ins T i,Nat.lt_of_le_of_lt (wC (wC (Nat.zero_le 0))) (by decide),?_⟩⟩
  have e4:=s4 _ _ e3
  have b4:But p H4 (upd H4 p (.ins (cls t i) dx (aY "ins" (.ref u4) (aY "numbers" (.ref u2) (aY "name" nm []))))):=But.write
  have e5:(upd H4 p (.ins (cls t i) dx (aY "ins" (.ref u4) (aY "numbers" (.ref u2) (aY "name" nm []))))) p=some (.ins (cls t i) dx (aY "ins" (.ref u4) (aY "numbers" (.ref u2) (aY "name" nm [])))):=au
  generalize upd H4 p (.ins (cls t i) dx (aY "ins" (.ref u4) (aY "numbers" (.ref u2) (aY "name" nm []))))=H5 at b4 e5 ⊢
  have r3'':=b4.seqA e4 (s4.seqA r3')
  have t2'':=b4.seqT e4 (s4.seqT t2')
  have t4':=b4.seqT e4 t4
  refine⟨_,rfl,a3,os,rfl,r3'',fun H6 u6 s6 t6=>⟨_,rfl,p,cls t i,dx,_,rfl,s6 _ _ e5,mF T i,na_outs T i,Nat.lt_of_le_of_lt (wC (wC (wC (Nat.zero_le 0)))) (by decide),?_⟩⟩
  have e6:=s6 _ _ e5
  refine k _ (b1.trans ((But.of_same s2).trans (b2.trans ((But.of_same s4).trans (b4.trans ((But.of_same s6).trans But.write)))))) ⟨dx,u2,u4,u6,au,?_,?_,?_⟩
  ·exact But.write.seqT e6 (s6.seqT t2'')
  ·exact But.write.seqT e6 (s6.seqT t4')
  ·exact But.write.seqT e6 t6
theorem sc_Give_kind:FnScope ["self"] ["self"] (aA jY):=⟨rfl,rfl,rfl,by decide +kernel,rfl,by decide +kernel,by decide +kernel⟩
theorem ok_Give_kind (T:Txt w K mg t):FnOk P w K mg base CX0 1 t.vD t.sI ["self"] (iR 0):=by
 have sc:=sc_Give_kind
 refine T.F_Give_kind.ok sc (fun vs H Q E h=>?_) (fun cdv A outer s H vs Q E hr h=>?_)
 ·obtain⟨x,rfl,_⟩:=h
  rfl
 ·obtain⟨x,rfl,k⟩:=h
  refine⟨_,(aC (aZ bH)),?_⟩
  exact k
theorem sc_Take_kind:FnScope ["self"] ["self"] (aA j4):=⟨rfl,rfl,rfl,by decide +kernel,rfl,by decide +kernel,by decide +kernel⟩
theorem ok_Take_kind (T:Txt w K mg t):FnOk P w K mg base CX0 1 t.uP t.rZ ["self"] (iR 1):=by
 have sc:=sc_Take_kind
 refine T.F_Take_kind.ok sc (fun vs H Q E h=>?_) (fun cdv A outer s H vs Q E hr h=>?_)
 ·obtain⟨x,rfl,_⟩:=h
  rfl
 ·obtain⟨x,rfl,k⟩:=h
  refine⟨_,(aC (aZ bH)),?_⟩
  exact k
theorem sc_Pass_kind:FnScope ["self"] ["self"] (aA kJ):=⟨rfl,rfl,rfl,by decide +kernel,rfl,by decide +kernel,by decide +kernel⟩
theorem ok_Pass_kind (T:Txt w K mg t):FnOk P w K mg base CX0 1 t.uI t.sy ["self"] (iR 2):=by
 have sc:=sc_Pass_kind
 refine T.F_Pass_kind.ok sc (fun vs H Q E h=>?_) (fun cdv A outer s H vs Q E hr h=>?_)
 ·obtain⟨x,rfl,_⟩:=h
  rfl
 ·obtain⟨x,rfl,k⟩:=h
  refine⟨_,(aC (aZ bH)),?_⟩
  exact k
theorem sc_Copy_kind:FnScope ["self"] ["self"] (aA km):=⟨rfl,rfl,rfl,by decide +kernel,rfl,by decide +kernel,by decide +kernel⟩
theorem ok_Copy_kind (T:Txt w K mg t):FnOk P w K mg base CX0 1 t.vq t.tR ["self"] (iR 3):=by
 have sc:=sc_Copy_kind
 refine T.F_Copy_kind.ok sc (fun vs H Q E h=>?_) (fun cdv A outer s H vs Q E hr h=>?_)
 ·obtain⟨x,rfl,_⟩:=h
  rfl
 ·obtain⟨x,rfl,k⟩:=h
  refine⟨_,(aC (aZ bH)),?_⟩
  exact k
theorem sc_Turn_kind:FnScope ["self"] ["self"] (aA j6):=⟨rfl,rfl,rfl,by decide +kernel,rfl,by decide +kernel,by decide +kernel⟩
theorem ok_Turn_kind (T:Txt w K mg t):FnOk P w K mg base CX0 1 t.uX t.sV ["self"] (iR 4):=by
 have sc:=sc_Turn_kind
 refine T.F_Turn_kind.ok sc (fun vs H Q E h=>?_) (fun cdv A outer s H vs Q E hr h=>?_)
 ·obtain⟨x,rfl,_⟩:=h
  rfl
 ·obtain⟨x,rfl,k⟩:=h
  refine⟨_,(aC (aZ bH)),?_⟩
  exact k
theorem sc_Heap_kind:FnScope ["self"] ["self"] (aA j7):=⟨rfl,rfl,rfl,by decide +kernel,rfl,by decide +kernel,by decide +kernel⟩
theorem ok_Heap_kind (T:Txt w K mg t):FnOk P w K mg base CX0 1 t.uD t.sY ["self"] (iR 5):=by
 have sc:=sc_Heap_kind
 refine T.F_Heap_kind.ok sc (fun vs H Q E h=>?_) (fun cdv A outer s H vs Q E hr h=>?_)
 ·obtain⟨x,rfl,_⟩:=h
  rfl
 ·obtain⟨x,rfl,k⟩:=h
  refine⟨_,(aC (aZ bH)),?_⟩
  exact k
theorem sc_Add_kind:FnScope ["self"] ["self"] (aA mz):=⟨rfl,rfl,rfl,by decide +kernel,rfl,by decide +kernel,by decide +kernel⟩
theorem ok_Add_kind (T:Txt w K mg t):FnOk P w K mg base CX0 1 t.xM t.vz ["self"] (iR 6):=by
 have sc:=sc_Add_kind
 refine T.F_Add_kind.ok sc (fun vs H Q E h=>?_) (fun cdv A outer s H vs Q E hr h=>?_)
 ·obtain⟨x,rfl,_⟩:=h
  rfl
 ·obtain⟨x,rfl,k⟩:=h
  refine⟨_,(aC (aZ bH)),?_⟩
  exact k
theorem sc_Less_kind:FnScope ["self"] ["self"] (aA kj):=⟨rfl,rfl,rfl,by decide +kernel,rfl,by decide +kernel,by decide +kernel⟩
theorem ok_Less_kind (T:Txt w K mg t):FnOk P w K mg base CX0 1 t.vM t.sr ["self"] (iR 7):=by
 have sc:=sc_Less_kind
 refine T.F_Less_kind.ok sc (fun vs H Q E h=>?_) (fun cdv A outer s H vs Q E hr h=>?_)
 ·obtain⟨x,rfl,_⟩:=h
  rfl
 ·obtain⟨x,rfl,k⟩:=h
  refine⟨_,(aC (aZ bH)),?_⟩
  exact k
theorem sc_Order_kind:FnScope ["self"] ["self"] (aA jl):=⟨rfl,rfl,rfl,by decide +kernel,rfl,by decide +kernel,by decide +kernel⟩
theorem ok_Order_kind (T:Txt w K mg t):FnOk P w K mg base CX0 1 t.sZ t.rB ["self"] (iR 8):=by
 have sc:=sc_Order_kind
 refine T.F_Order_kind.ok sc (fun vs H Q E h=>?_) (fun cdv A outer s H vs Q E hr h=>?_)
 ·obtain⟨x,rfl,_⟩:=h
  rfl
 ·obtain⟨x,rfl,k⟩:=h
  refine⟨_,(aC (aZ bH)),?_⟩
  exact k
theorem sc_Choose_kind:FnScope ["self"] ["self"] (aA iI):=⟨rfl,rfl,rfl,by decide +kernel,rfl,by decide +kernel,by decide +kernel⟩
theorem ok_Choose_kind (T:Txt w K mg t):FnOk P w K mg base CX0 1 t.rD t.pI ["self"] (iR 9):=by
 have sc:=sc_Choose_kind
 refine T.F_Choose_kind.ok sc (fun vs H Q E h=>?_) (fun cdv A outer s H vs Q E hr h=>?_)
 ·obtain⟨x,rfl,_⟩:=h
  rfl
 ·obtain⟨x,rfl,k⟩:=h
  refine⟨_,(aC (aZ bH)),?_⟩
  exact k
theorem sc_Split_kind:FnScope ["self"] ["self"] (aA jq):=⟨rfl,rfl,rfl,by decide +kernel,rfl,by decide +kernel,by decide +kernel⟩
theorem ok_Split_kind (T:Txt w K mg t):FnOk P w K mg base CX0 1 t.sE t.qP ["self"] (iR 10):=by
 have sc:=sc_Split_kind
 refine T.F_Split_kind.ok sc (fun vs H Q E h=>?_) (fun cdv A outer s H vs Q E hr h=>?_)
 ·obtain⟨x,rfl,_⟩:=h
  rfl
 ·obtain⟨x,rfl,k⟩:=h
  refine⟨_,(aC (aZ bH)),?_⟩
  exact k
def sp_is_kind:Sp:=fun vs H Q _=>∃z:Str,vs=[.str z]∧Q (.bl (rowOf ROWS z).isSome) H
theorem sc_is_kind:FnScope ["word"] ["word"] (aA pF):=⟨rfl,rfl,rfl,by decide +kernel,rfl,by decide +kernel,by decide +kernel⟩
theorem BX (T:Txt w K mg t):FnOk P w K mg base CX0 1 t.yW t.xJ ["word"] (sp_is_kind):=by
 have sc:=sc_is_kind
 refine T.zH.ok sc (fun vs H Q E h=>?_) (fun cdv A outer s H vs Q E hr h=>?_)
 ·obtain⟨z,rfl,_⟩:=h
  rfl
 ·obtain⟨z,rfl,k⟩:=h
  refine⟨_,(aC (aZ (pe_cmp (pc_inK (pv 0) (wB (v:=.ref _) (by rfl) T.mt_COUNTS rfl)) (by with_unfolding_all rfl)))),?_⟩
  exact⟨_,rfl,t.mY,ROWS,z,rfl,T.t_COUNTS,rfl,k⟩
def sp_need_fit (K:PySem.W.Frag):Sp:=fun vs H Q _=>∃(i:Nat) (nm:V) (a1 a2 a3:Addr) (ns is os:List V),vs=[.str (eO i),nm,.ref a1,.ref a2,.ref a3]∧SqA K H a1 ns∧SqA K H a2 is∧SqA K H a3 os∧
 ns.length=cN i∧is.length=cI i∧os.length=cO i∧(∀v∈ns,Val v)∧∀H',aQ H H'→Q .non H'
theorem sc_need_fit:FnScope ["kind", "name", "numbers", "ins", "outs", "counts"] ["kind", "name", "numbers", "ins", "outs"] (aA jT):=⟨rfl,rfl,rfl,by decide +kernel,rfl,by decide +kernel,by decide +kernel⟩
theorem ok_need_fit (T:Txt w K mg t):FnOk P w K mg base CX0 3 t.xR t.vp ["kind", "name", "numbers", "ins", "outs"] (sp_need_fit K):=by
 have sc:=sc_need_fit
 refine T.By.ok sc (fun vs H Q E h=>?_) (fun cdv A outer s H vs Q E hr h=>?_)
 ·obtain⟨i,nm,a1,a2,a3,ns,is,os,rfl,_⟩:=h
  rfl
 ·obtain⟨i,nm,a1,a2,a3,ns,is,os,rfl,h1,h2,h3,l1,l2,l3,hv,k⟩:=h
  refine⟨_,(aB (cg (lR (mj (aJ (BX T) (hr.mono (by decide)) (by rfl) T.m_is_kind T.zH.kp T.b_is_kind .nil aO (aj (pv 0) aq ak))))
    (aC gJ)
    bQ)
   (aB (aX (i:=5) sc.nd rfl (Or.inl rfl) (pe_getK (wB (v:=.ref _) (by rfl) T.mt_COUNTS rfl) (pv 0) (fun _ _=>rfl)))
   (aB (cg (PW.pt (zV (bz op_ne (bL cj (by rfl) T.iw dX (aj (pv 2) aq ak)) (aW bT (pv 5) az (fun _ _=>rfl)) (bU _)) (xX (lR (mj (bL (Az rfl) (by rfl) T.n_all bt_all (aj (oY [] ["kind", "name", "numbers", "ins", "outs", "counts"] (aA jT) rfl (pi_or (iQ (pv 2)) (pi_tup (pv 2))) (fun _ _ _ _ _=>mL) (fun _ _ _ _ _=>(aJ (zZ T) (hr.mono (by decide)) (by rfl) T.BL T.xg.kp T.Am .nil aO (aj (pv 0) aq ak)))) aq fV)))))))
    (aC gJ)
    bQ)
   (aC (cg (PW.pt (zV (bz op_ne (bL cj (by rfl) T.iw dX (aj (pv 3) aq ak)) (aW bT (pv 5) az (fun _ _=>rfl)) (bU _)) (xX (bz op_ne (bL cj (by rfl) T.iw dX (aj (pv 4) aq ak)) (aW bT (pv 5) az (fun _ _=>rfl)) (bU _)))))
    (aC gJ)
    bQ))))),?_⟩
  have hl:sizeLine=16777216:=sizeLine_eq
  have hN:=cN_le i
  have hI:=cI_le i
  have hO:=cO_le i
  refine⟨_,rfl,eO i,rfl,true,by rw [row_of];rfl,fX ?_⟩
  refine⟨_,rfl,t.mY,ROWS,eO i,_,rfl,T.t_COUNTS,rfl,row_of i,fun ad had=>?_⟩
  refine⟨_,rfl,.ref a1,ns.length,rfl,h1.len,_,rfl,ad,_,0,_,rfl,rfl,had,aN (j:=0) rfl,rfl,_,rfl,?_⟩
  rw [show(!decide (V.int ((ns.length:Nat):Int)=V.int ((cN i:Nat):Int)))=false by rw [l1];simp]
  refine fX ?_
  refine comp_A (a:=a1) (xs:=ns) ?_ h1 (fun j ys=>ys=(List.replicate j true).map V.bl) (by omega) rfl (fun j ys e=>by rw [e];simp) (fun j x ys hx e=>?_) (fun ys e D hD=>?_)
  ·exact fun R r=>⟨_,rfl,r⟩
  ·subst e
   obtain⟨n,rfl,n0,n1⟩:=hv x (List.mem_of_getElem? hx)
   refine yes ⟨_,rfl,.int n,rfl,.inl ⟨n,rfl,rfl,?_⟩⟩
   rw [decide_eq_true n0,decide_eq_true n1,List.replicate_succ']
   simp
  ·subst e
   refine⟨D,_,rfl,SqL.of au,_,rfl,?_⟩
   rw [show((List.replicate ns.length true).all id)=true by simp]
   refine fX ?_
   have s1:aQ H (upd H D (.lst ((List.replicate ns.length true).map V.bl))):=aD hD
   refine⟨_,rfl,.ref a2,is.length,rfl,(s1.seqA h2).len,_,rfl,ad,_,1,_,rfl,rfl,s1.seqT had,aN (j:=1) rfl,rfl,_,rfl,?_⟩
   rw [show(!decide (V.int ((is.length:Nat):Int)=V.int ((cI i:Nat):Int)))=false by rw [l2];simp]
   refine fX ?_
   refine⟨_,rfl,.ref a3,os.length,rfl,(s1.seqA h3).len,_,rfl,ad,_,2,_,rfl,rfl,s1.seqT had,aN (j:=2) rfl,rfl,_,rfl,?_⟩
   rw [show(!decide (V.int ((os.length:Nat):Int)=V.int ((cO i:Nat):Int)))=false by rw [l3];simp]
   exact fX (k _ s1)
def sp_made_of (K:PySem.W.Frag) (t:Adr):Sp:=fun vs H Q _=>∃(i:Nat) (nm:V) (a1 a2 a3:Addr) (ns is os:List V),vs=[.str (eO i),nm,.ref a1,.ref a2,.ref a3]∧i≤10∧SqA K H a1 ns∧SqA K H a2 is∧SqA K H a3 os∧
 ∀H' p,aQ H H'→H p=none→PartAt K t H' p i nm ns is os→Q (.ref p) H'
theorem sc_made_of:FnScope ["kind", "name", "numbers", "ins", "outs"] ["kind", "name", "numbers", "ins", "outs"] (aA pA):=⟨rfl,rfl,rfl,by decide +kernel,rfl,by decide +kernel,by decide +kernel⟩
theorem ok_made_of (T:Txt w K mg t):FnOk P w K mg base CX0 3 t.yV t.wZ ["kind", "name", "numbers", "ins", "outs"] (sp_made_of K t):=by
 have sc:=sc_made_of
 refine T.F_made_of.ok sc (fun vs H Q E h=>?_) (fun cdv A outer s H vs Q E hr h=>?_)
 ·obtain⟨i,nm,a1,a2,a3,ns,is,os,rfl,_⟩:=h
  rfl
 ·obtain⟨i,nm,a1,a2,a3,ns,is,os,rfl,hi,h1,h2,h3,k⟩:=h
  refine⟨_,(aB (cg (bz jd (pv 0) bH (bU _))
    (aC (aZ (jK T.M_Give (bZ T) (hr.mono (by decide)) (by rfl) T.mc_Give T.cu .nil aO (aj (pv 1) (aj (pv 2) (aj (pv 3) (aj (pv 4) aq ak) ak) ak) ak))))
    bQ)
   (aB (cg (bz jd (pv 0) bH (bU _))
    (aC (aZ (jK T.M_Take (bZ T) (hr.mono (by decide)) (by rfl) T.mc_Take T.cu .nil aO (aj (pv 1) (aj (pv 2) (aj (pv 3) (aj (pv 4) aq ak) ak) ak) ak))))
    bQ)
   (aB (cg (bz jd (pv 0) bH (bU _))
    (aC (aZ (jK T.M_Pass (bZ T) (hr.mono (by decide)) (by rfl) T.mc_Pass T.cu .nil aO (aj (pv 1) (aj (pv 2) (aj (pv 3) (aj (pv 4) aq ak) ak) ak) ak))))
    bQ)
   (aB (cg (bz jd (pv 0) bH (bU _))
    (aC (aZ (jK T.M_Copy (bZ T) (hr.mono (by decide)) (by rfl) T.mc_Copy T.cu .nil aO (aj (pv 1) (aj (pv 2) (aj (pv 3) (aj (pv 4) aq ak) ak) ak) ak))))
    bQ)
   (aB (cg (bz jd (pv 0) bH (bU _))
    (aC (aZ (jK T.M_Turn (bZ T) (hr.mono (by decide)) (by rfl) T.mc_Turn T.cu .nil aO (aj (pv 1) (aj (pv 2) (aj (pv 3) (aj (pv 4) aq ak) ak) ak) ak))))
    bQ)
   (aB (cg (bz jd (pv 0) bH (bU _))
    (aC (aZ (jK T.M_Heap (bZ T) (hr.mono (by decide)) (by rfl) T.mc_Heap T.cu .nil aO (aj (pv 1) (aj (pv 2) (aj (pv 3) (aj (pv 4) aq ak) ak) ak) ak))))
    bQ)
   (aB (cg (bz jd (pv 0) bH (bU _))
    (aC (aZ (jK T.M_Add (bZ T) (hr.mono (by decide)) (by rfl) T.mc_Add T.cu .nil aO (aj (pv 1) (aj (pv 2) (aj (pv 3) (aj (pv 4) aq ak) ak) ak) ak))))
    bQ)
   (aB (cg (bz jd (pv 0) bH (bU _))
    (aC (aZ (jK T.M_Less (bZ T) (hr.mono (by decide)) (by rfl) T.mc_Less T.cu .nil aO (aj (pv 1) (aj (pv 2) (aj (pv 3) (aj (pv 4) aq ak) ak) ak) ak))))
    bQ)
   (aB (cg (bz jd (pv 0) bH (bU _))
    (aC (aZ (jK T.M_Order (bZ T) (hr.mono (by decide)) (by rfl) T.mc_Order T.cu .nil aO (aj (pv 1) (aj (pv 2) (aj (pv 3) (aj (pv 4) aq ak) ak) ak) ak))))
    bQ)
   (aB (cg (bz jd (pv 0) bH (bU _))
    (aC (aZ (jK T.M_Choose (bZ T) (hr.mono (by decide)) (by rfl) T.mc_Choose T.cu .nil aO (aj (pv 1) (aj (pv 2) (aj (pv 3) (aj (pv 4) aq ak) ak) ak) ak))))
    bQ)
   (aC (aZ (jK T.M_Split (bZ T) (hr.mono (by decide)) (by rfl) T.mc_Split T.cu .nil aO (aj (pv 1) (aj (pv 2) (aj (pv 3) (aj (pv 4) aq ak) ak) ak) ak)))))))))))))),?_⟩
  match i,hi with
  | 0,_=>
   refine⟨_,rfl,rfl,_,rfl,xH rfl ?_⟩
   refine⟨_,rfl,_,rfl,_,rfl,_,rfl,fun x dx nx ndx nex=>?_⟩
   have s0:aQ H (upd (upd H dx (.own x)) x (.ins t.dW dx [])):=fun b o e=>by rw [aH (aF e nx),aH (aF e ndx)];exact e
   exact⟨0,x,dx,a1,a2,a3,nm,ns,is,os,rfl,au,s0.seqA h1,s0.seqA h2,s0.seqA h3,fun H' b P=>⟨rfl,k H' x (fun c o e=>b c o (aF e nx) (s0 c o e)) nx P⟩⟩
  | 1,_=>
   refine⟨_,rfl,rfl,_,rfl,dG (by decide +kernel) ?_⟩
   refine⟨_,rfl,rfl,_,rfl,xH rfl ?_⟩
   refine⟨_,rfl,_,rfl,_,rfl,_,rfl,fun x dx nx ndx nex=>?_⟩
   have s0:aQ H (upd (upd H dx (.own x)) x (.ins t.dU dx [])):=fun b o e=>by rw [aH (aF e nx),aH (aF e ndx)];exact e
   exact⟨1,x,dx,a1,a2,a3,nm,ns,is,os,rfl,au,s0.seqA h1,s0.seqA h2,s0.seqA h3,fun H' b P=>⟨rfl,k H' x (fun c o e=>b c o (aF e nx) (s0 c o e)) nx P⟩⟩
  | 2,_=>
   refine⟨_,rfl,rfl,_,rfl,dG (by decide +kernel) ?_⟩
   refine⟨_,rfl,rfl,_,rfl,dG (by decide +kernel) ?_⟩
   refine⟨_,rfl,rfl,_,rfl,xH rfl ?_⟩
   refine⟨_,rfl,_,rfl,_,rfl,_,rfl,fun x dx nx ndx nex=>?_⟩
   have s0:aQ H (upd (upd H dx (.own x)) x (.ins t.dR dx [])):=fun b o e=>by rw [aH (aF e nx),aH (aF e ndx)];exact e
   exact⟨2,x,dx,a1,a2,a3,nm,ns,is,os,rfl,au,s0.seqA h1,s0.seqA h2,s0.seqA h3,fun H' b P=>⟨rfl,k H' x (fun c o e=>b c o (aF e nx) (s0 c o e)) nx P⟩⟩
  | 3,_=>
   refine⟨_,rfl,rfl,_,rfl,dG (by decide +kernel) ?_⟩
   refine⟨_,rfl,rfl,_,rfl,dG (by decide +kernel) ?_⟩
   refine⟨_,rfl,rfl,_,rfl,dG (by decide +kernel) ?_⟩
   refine⟨_,rfl,rfl,_,rfl,xH rfl ?_⟩
   refine⟨_,rfl,_,rfl,_,rfl,_,rfl,fun x dx nx ndx nex=>?_⟩
   have s0:aQ H (upd (upd H dx (.own x)) x (.ins t.eE dx [])):=fun b o e=>by rw [aH (aF e nx),aH (aF e ndx)];exact e
   exact⟨3,x,dx,a1,a2,a3,nm,ns,is,os,rfl,au,s0.seqA h1,s0.seqA h2,s0.seqA h3,fun H' b P=>⟨rfl,k H' x (fun c o e=>b c o (aF e nx) (s0 c o e)) nx P⟩⟩
  | 4,_=>
   refine⟨_,rfl,rfl,_,rfl,dG (by decide +kernel) ?_⟩
   refine⟨_,rfl,rfl,_,rfl,dG (by decide +kernel) ?_⟩
   refine⟨_,rfl,rfl,_,rfl,dG (by decide +kernel) ?_⟩
   refine⟨_,rfl,rfl,_,rfl,dG (by decide +kernel) ?_⟩
   refine⟨_,rfl,rfl,_,rfl,xH rfl ?_⟩
   refine⟨_,rfl,_,rfl,_,rfl,_,rfl,fun x dx nx ndx nex=>?_⟩
   have s0:aQ H (upd (upd H dx (.own x)) x (.ins t.dZ dx [])):=fun b o e=>by rw [aH (aF e nx),aH (aF e ndx)];exact e
   exact⟨4,x,dx,a1,a2,a3,nm,ns,is,os,rfl,au,s0.seqA h1,s0.seqA h2,s0.seqA h3,fun H' b P=>⟨rfl,k H' x (fun c o e=>b c o (aF e nx) (s0 c o e)) nx P⟩⟩
  | 5,_=>
   refine⟨_,rfl,rfl,_,rfl,dG (by decide +kernel) ?_⟩
   refine⟨_,rfl,rfl,_,rfl,dG (by decide +kernel) ?_⟩
   refine⟨_,rfl,rfl,_,rfl,dG (by decide +kernel) ?_⟩
   refine⟨_,rfl,rfl,_,rfl,dG (by decide +kernel) ?_⟩
   refine⟨_,rfl,rfl,_,rfl,dG (by decide +kernel) ?_⟩
   refine⟨_,rfl,rfl,_,rfl,xH rfl ?_⟩
   refine⟨_,rfl,_,rfl,_,rfl,_,rfl,fun x dx nx ndx nex=>?_⟩
   have s0:aQ H (upd (upd H dx (.own x)) x (.ins t.dY dx [])):=fun b o e=>by rw [aH (aF e nx),aH (aF e ndx)];exact e
   exact⟨5,x,dx,a1,a2,a3,nm,ns,is,os,rfl,au,s0.seqA h1,s0.seqA h2,s0.seqA h3,fun H' b P=>⟨rfl,k H' x (fun c o e=>b c o (aF e nx) (s0 c o e)) nx P⟩⟩
  | 6,_=>
   refine⟨_,rfl,rfl,_,rfl,dG (by decide +kernel) ?_⟩
   refine⟨_,rfl,rfl,_,rfl,dG (by decide +kernel) ?_⟩
   refine⟨_,rfl,rfl,_,rfl,dG (by decide +kernel) ?_⟩
   refine⟨_,rfl,rfl,_,rfl,dG (by decide +kernel) ?_⟩
   refine⟨_,rfl,rfl,_,rfl,dG (by decide +kernel) ?_⟩
   refine⟨_,rfl,rfl,_,rfl,dG (by decide +kernel) ?_⟩
   refine⟨_,rfl,rfl,_,rfl,xH rfl ?_⟩
   refine⟨_,rfl,_,rfl,_,rfl,_,rfl,fun x dx nx ndx nex=>?_⟩
   have s0:aQ H (upd (upd H dx (.own x)) x (.ins t.gW dx [])):=fun b o e=>by rw [aH (aF e nx),aH (aF e ndx)];exact e
   exact⟨6,x,dx,a1,a2,a3,nm,ns,is,os,rfl,au,s0.seqA h1,s0.seqA h2,s0.seqA h3,fun H' b P=>⟨rfl,k H' x (fun c o e=>b c o (aF e nx) (s0 c o e)) nx P⟩⟩
  | 7,_=>
   refine⟨_,rfl,rfl,_,rfl,dG (by decide +kernel) ?_⟩
   refine⟨_,rfl,rfl,_,rfl,dG (by decide +kernel) ?_⟩
   refine⟨_,rfl,rfl,_,rfl,dG (by decide +kernel) ?_⟩
   refine⟨_,rfl,rfl,_,rfl,dG (by decide +kernel) ?_⟩
   refine⟨_,rfl,rfl,_,rfl,dG (by decide +kernel) ?_⟩
   refine⟨_,rfl,rfl,_,rfl,dG (by decide +kernel) ?_⟩
   refine⟨_,rfl,rfl,_,rfl,dG (by decide +kernel) ?_⟩
   refine⟨_,rfl,rfl,_,rfl,xH rfl ?_⟩
   refine⟨_,rfl,_,rfl,_,rfl,_,rfl,fun x dx nx ndx nex=>?_⟩
   have s0:aQ H (upd (upd H dx (.own x)) x (.ins t.d8 dx [])):=fun b o e=>by rw [aH (aF e nx),aH (aF e ndx)];exact e
   exact⟨7,x,dx,a1,a2,a3,nm,ns,is,os,rfl,au,s0.seqA h1,s0.seqA h2,s0.seqA h3,fun H' b P=>⟨rfl,k H' x (fun c o e=>b c o (aF e nx) (s0 c o e)) nx P⟩⟩
  | 8,_=>
   refine⟨_,rfl,rfl,_,rfl,dG (by decide +kernel) ?_⟩
   refine⟨_,rfl,rfl,_,rfl,dG (by decide +kernel) ?_⟩
   refine⟨_,rfl,rfl,_,rfl,dG (by decide +kernel) ?_⟩
   refine⟨_,rfl,rfl,_,rfl,dG (by decide +kernel) ?_⟩
   refine⟨_,rfl,rfl,_,rfl,dG (by decide +kernel) ?_⟩
   refine⟨_,rfl,rfl,_,rfl,dG (by decide +kernel) ?_⟩
   refine⟨_,rfl,rfl,_,rfl,dG (by decide +kernel) ?_⟩
   refine⟨_,rfl,rfl,_,rfl,dG (by decide +kernel) ?_⟩
   refine⟨_,rfl,rfl,_,rfl,xH rfl ?_⟩
   refine⟨_,rfl,_,rfl,_,rfl,_,rfl,fun x dx nx ndx nex=>?_⟩
   have s0:aQ H (upd (upd H dx (.own x)) x (.ins t.dg dx [])):=fun b o e=>by rw [aH (aF e nx),aH (aF e ndx)];exact e
   exact⟨8,x,dx,a1,a2,a3,nm,ns,is,os,rfl,au,s0.seqA h1,s0.seqA h2,s0.seqA h3,fun H' b P=>⟨rfl,k H' x (fun c o e=>b c o (aF e nx) (s0 c o e)) nx P⟩⟩
  | 9,_=>
   refine⟨_,rfl,rfl,_,rfl,dG (by decide +kernel) ?_⟩
   refine⟨_,rfl,rfl,_,rfl,dG (by decide +kernel) ?_⟩
   refine⟨_,rfl,rfl,_,rfl,dG (by decide +kernel) ?_⟩
   refine⟨_,rfl,rfl,_,rfl,dG (by decide +kernel) ?_⟩
   refine⟨_,rfl,rfl,_,rfl,dG (by decide +kernel) ?_⟩
   refine⟨_,rfl,rfl,_,rfl,dG (by decide +kernel) ?_⟩
   refine⟨_,rfl,rfl,_,rfl,dG (by decide +kernel) ?_⟩
   refine⟨_,rfl,rfl,_,rfl,dG (by decide +kernel) ?_⟩
   refine⟨_,rfl,rfl,_,rfl,dG (by decide +kernel) ?_⟩
   refine⟨_,rfl,rfl,_,rfl,xH rfl ?_⟩
   refine⟨_,rfl,_,rfl,_,rfl,_,rfl,fun x dx nx ndx nex=>?_⟩
   have s0:aQ H (upd (upd H dx (.own x)) x (.ins t.cz dx [])):=fun b o e=>by rw [aH (aF e nx),aH (aF e ndx)];exact e
   exact⟨9,x,dx,a1,a2,a3,nm,ns,is,os,rfl,au,s0.seqA h1,s0.seqA h2,s0.seqA h3,fun H' b P=>⟨rfl,k H' x (fun c o e=>b c o (aF e nx) (s0 c o e)) nx P⟩⟩
  | 10,_=>
   refine⟨_,rfl,rfl,_,rfl,dG (by decide +kernel) ?_⟩
   refine⟨_,rfl,rfl,_,rfl,dG (by decide +kernel) ?_⟩
   refine⟨_,rfl,rfl,_,rfl,dG (by decide +kernel) ?_⟩
   refine⟨_,rfl,rfl,_,rfl,dG (by decide +kernel) ?_⟩
   refine⟨_,rfl,rfl,_,rfl,dG (by decide +kernel) ?_⟩
   refine⟨_,rfl,rfl,_,rfl,dG (by decide +kernel) ?_⟩
   refine⟨_,rfl,rfl,_,rfl,dG (by decide +kernel) ?_⟩
   refine⟨_,rfl,rfl,_,rfl,dG (by decide +kernel) ?_⟩
   refine⟨_,rfl,rfl,_,rfl,dG (by decide +kernel) ?_⟩
   refine⟨_,rfl,rfl,_,rfl,dG (by decide +kernel) ?_⟩
   refine⟨_,rfl,_,rfl,_,rfl,_,rfl,fun x dx nx ndx nex=>?_⟩
   have s0:aQ H (upd (upd H dx (.own x)) x (.ins t.dh dx [])):=fun b o e=>by rw [aH (aF e nx),aH (aF e ndx)];exact e
   exact⟨10,x,dx,a1,a2,a3,nm,ns,is,os,rfl,au,s0.seqA h1,s0.seqA h2,s0.seqA h3,fun H' b P=>⟨rfl,k H' x (fun c o e=>b c o (aF e nx) (s0 c o e)) nx P⟩⟩
  | (n+11),h=>exact absurd h (by omega)
def sp_part_made (K:PySem.W.Frag) (t:Adr):Sp:=fun vs H Q _=>∃(i:Nat) (nm:V) (a1 a2 a3:Addr) (ns is os:List V),vs=[.str (eO i),nm,.ref a1,.ref a2,.ref a3]∧i≤10∧SqA K H a1 ns∧SqA K H a2 is∧SqA K H a3 os∧
 ns.length=cN i∧is.length=cI i∧os.length=cO i∧(∀v∈ns,Val v)∧∀H' p,aQ H H'→H p=none→PartAt K t H' p i nm ns is os→Q (.ref p) H'
theorem sc_part_made:FnScope ["kind", "name", "numbers", "ins", "outs"] ["kind", "name", "numbers", "ins", "outs"] (aA kh):=⟨rfl,rfl,rfl,by decide +kernel,rfl,by decide +kernel,by decide +kernel⟩
theorem ok_part_made (T:Txt w K mg t):FnOk P w K mg base CX0 4 t.vH t.tY ["kind", "name", "numbers", "ins", "outs"] (sp_part_made K t):=by
 have sc:=sc_part_made
 refine T.zN.ok sc (fun vs H Q E h=>?_) (fun cdv A outer s H vs Q E hr h=>?_)
 ·obtain⟨i,nm,a1,a2,a3,ns,is,os,rfl,_⟩:=h
  rfl
 ·obtain⟨i,nm,a1,a2,a3,ns,is,os,rfl,hi,h1,h2,h3,l1,l2,l3,hv,k⟩:=h
  refine⟨_,(aB (bF (aJ (ok_need_fit T) (hr.mono (by decide)) (by rfl) T.m_need_fit T.By.kp T.b_need_fit .nil aO (aj (pv 0) (aj (pv 1) (aj (pv 2) (aj (pv 3) (aj (pv 4) aq ak) ak) ak) ak) ak)))
   (aC (aZ (aJ (ok_made_of T) (hr.mono (by decide)) (by rfl) T.m_made_of T.F_made_of.kp T.b_made_of .nil aO (aj (pv 0) (aj (pv 1) (aj (pv 2) (aj (pv 3) (aj (pv 4) aq ak) ak) ak) ak) ak))))),?_⟩
  refine⟨_,rfl,_,rfl,_,rfl,_,rfl,_,rfl,i,nm,a1,a2,a3,ns,is,os,rfl,h1,h2,h3,l1,l2,l3,hv,fun H1 s1=>?_⟩
  exact⟨_,rfl,_,rfl,_,rfl,_,rfl,_,rfl,i,nm,a1,a2,a3,ns,is,os,rfl,hi,s1.seqA h1,s1.seqA h2,s1.seqA h3,fun H2 p s2 np P=>k H2 p (s1.trans s2) (s1.free np) P⟩
def sp__law_mix:Sp:=fun vs H Q _=>∃a b:Int,vs=[.int a,.int b]∧Q (.int (cH a b)) H
theorem sc__law_mix:FnScope ["_law_cell_here", "_law_k", "_law_number"] ["_law_cell_here", "_law_k"] (aA mC):=⟨rfl,rfl,rfl,by decide +kernel,rfl,by decide +kernel,by decide +kernel⟩
theorem bj (T:Txt w K mg t):FnOk P w K mg base CX0 1 t.xF t.uL ["_law_cell_here", "_law_k"] (sp__law_mix):=by
 have sc:=sc__law_mix
 refine T.bx.ok sc (fun vs H Q E h=>?_) (fun cdv A outer s H vs Q E hr h=>?_)
 ·obtain⟨a,b,rfl,_⟩:=h
  rfl
 ·obtain⟨a,b,rfl,k⟩:=h
  refine⟨_,(aB (aX (i:=2) sc.nd rfl (Or.inl rfl) (bh cQ (bh dN (bh dN (bh qu (bh cQ (pv 0) az) az) (bh qu az (pv 1))) az) az))
   (aB (aX (i:=2) sc.nd rfl (Or.inl rfl) (bh cQ (bh qu (pv 2) (pv 2)) az))
   (aC (aZ (bh cQ (bh qu (bh dN (pv 2) (bh qu az (pv 1))) (pv 2)) az))))),?_⟩
  refine⟨_,rfl,_,_,rfl,rfl,by show(0:Int) <2147483647;decide,_,_,rfl,rfl,mulOk_smallR,_,rfl,_,_,rfl,rfl,qp,_,_,rfl,rfl,_,_,rfl,rfl,_,_,rfl,rfl,by show(0:Int) <2147483647;decide,?_⟩
  unfold cH at k
  have y0:0≤(a % 2147483647 * 48271+7919 * b+11) % 2147483647:=Int.emod_nonneg _ (by decide)
  have y1:(a % 2147483647 * 48271+7919 * b+11) % 2147483647 <2147483647:=Int.emod_lt_of_pos _ (by decide)
  refine⟨_,rfl,_,rfl,_,_,rfl,rfl,.of_right (intBits_le_64 (Int.lt_of_lt_of_le (show -(2 ^ 64) <(0:Int) by decide) y0) (Int.lt_trans y1 (by decide))),_,_,rfl,rfl,by show(0:Int) <2147483629;decide,?_⟩
  have z0:0≤((a % 2147483647 * 48271+7919 * b+11) % 2147483647) * ((a % 2147483647 * 48271+7919 * b+11) % 2147483647) % 2147483629:=Int.emod_nonneg _ (by decide)
  have z1:((a % 2147483647 * 48271+7919 * b+11) % 2147483647) * ((a % 2147483647 * 48271+7919 * b+11) % 2147483647) % 2147483629 <2147483629:=Int.emod_lt_of_pos _ (by decide)
  exact⟨_,rfl,_,rfl,_,_,rfl,rfl,qp,_,_,rfl,rfl,_,rfl,_,_,rfl,rfl,.of_right (intBits_le_64 (Int.lt_of_lt_of_le (show -(2 ^ 64) <(0:Int) by decide) z0) (Int.lt_trans z1 (by decide))),_,_,rfl,rfl,by show(0:Int) <2147483587;decide,k⟩
def sp__law_cell (K:PySem.W.Frag):Sp:=fun vs H Q _=>∃(a:Addr) (ns:List Int) (j:Nat),vs=[.ref a,.int (j:Nat)]∧SqL K H a (ns.map V.int)∧Q (.int (gO ns j)) H
theorem sc__law_cell:FnScope ["_law_script", "_law_k"] ["_law_script", "_law_k"] (aA jW):=⟨rfl,rfl,rfl,by decide +kernel,rfl,by decide +kernel,by decide +kernel⟩
theorem fU (T:Txt w K mg t):FnOk P w K mg base CX0 1 t.uU t.ud ["_law_script", "_law_k"] (sp__law_cell K):=by
 have sc:=sc__law_cell
 refine T.fP.ok sc (fun vs H Q E h=>?_) (fun cdv A outer s H vs Q E hr h=>?_)
 ·obtain⟨a,ns,j,rfl,_⟩:=h
  rfl
 ·obtain⟨a,ns,j,rfl,hS,k⟩:=h
  refine⟨_,(aB (cg (bz wQ (pv 1) (bL cj (by rfl) T.iw dX (aj (pv 0) aq ak)) (bU _))
    (aC (aZ (aW bN (pv 0) (pv 1) (fun _ _=>rfl))))
    bQ)
   (aC (aZ (bh dN (bh qu az (pv 1)) az)))),?_⟩
  unfold gO at k
  refine⟨_,rfl,_,rfl,.ref a,ns.length,rfl,.inl ⟨_,hS,by simp⟩,_,_,rfl,rfl,_,rfl,jM (fun h=>?_) (fun h=>?_)⟩
  ·have h':j <ns.length:=by have:=of_decide_eq_true h;omega
   rw [List.getElem?_eq_getElem h'] at k
   exact⟨_,rfl,_,rfl,a,_,j,_,rfl,rfl,hS,aN (by rw [List.getElem?_map,List.getElem?_eq_getElem h'];rfl),k⟩
  ·have h':¬j <ns.length:=fun z=>h (decide_eq_true (by omega))
   rw [List.getElem?_eq_none (by omega)] at k
   exact⟨_,rfl,_,_,rfl,rfl,qp,_,_,rfl,rfl,k⟩
def sp__law_value:Sp:=fun vs H Q _=>∃a b:Int,vs=[.int a,.int b]∧Q (.int (rU a b)) H
theorem sc__law_value:FnScope ["_law_cell_here", "_law_k", "_law_number", "_law_way"] ["_law_cell_here", "_law_k"] (aA jn):=⟨rfl,rfl,rfl,by decide +kernel,rfl,by decide +kernel,by decide +kernel⟩
theorem mV (T:Txt w K mg t):FnOk P w K mg base CX0 2 t.tZ t.qZ ["_law_cell_here", "_law_k"] (sp__law_value):=by
 have sc:=sc__law_value
 refine T.lq.ok sc (fun vs H Q E h=>?_) (fun cdv A outer s H vs Q E hr h=>?_)
 ·obtain⟨a,b,rfl,_⟩:=h
  rfl
 ·obtain⟨a,b,rfl,k⟩:=h
  refine⟨_,(aB (aX (i:=2) sc.nd rfl (Or.inl rfl) (aJ (bj T) (hr.mono (by decide)) (by rfl) T.bC T.bx.kp T.bD .nil aO (aj (pv 0) (aj (pv 1) aq ak) ak)))
   (aB (aX (i:=3) sc.nd rfl (Or.inl rfl) (bh cQ (bh yq (pv 2) az) az))
   (aB (cg (bz jd (pv 3) az (bU _))
    (aC (aZ (bh cQ (pv 2) az)))
    bQ)
   (aB (cg (bz jd (pv 3) az (bU _))
    (aC (aZ (bh cQ (pv 2) (bh op_pow az az))))
    bQ)
   (aC (aZ (bh tV (bh tV (bh op_pow az az) az) (bh cQ (pv 2) az)))))))),?_⟩
  refine⟨_,rfl,_,rfl,a,b,rfl,?_⟩
  unfold rU at k
  have n0:=uN a b
  generalize cH a b=n at n0 k ⊢
  refine⟨_,rfl,_,_,rfl,rfl,divOk (by decide) (by decide),_,_,rfl,rfl,by show(0:Int) <3;decide,?_⟩
  refine⟨_,rfl,rfl,_,rfl,jM (fun h=>?_) (fun h=>?_)⟩
  ·have h':n / 7 % 3=0:=by simpa using of_decide_eq_true h
   rw [if_pos h'] at k
   exact⟨_,rfl,_,_,rfl,rfl,by show(0:Int) <5;decide,k⟩
  have h':¬n / 7 % 3=0:=fun z=>h (decide_eq_true (by show V.int (n / 7 % 3)=V.int 0;rw [z]))
  rw [if_neg h'] at k
  refine⟨_,rfl,rfl,_,rfl,jM (fun h2=>?_) (fun h2=>?_)⟩
  ·have h2':n / 7 % 3=1:=by simpa using of_decide_eq_true h2
   rw [if_pos h2'] at k
   exact⟨_,rfl,_,_,rfl,rfl,⟨by decide,by decide,by decide⟩,_,_,rfl,rfl,by show(0:Int) <10 ^ 9;decide,k⟩
  have h2':¬n / 7 % 3=1:=fun z=>h2 (decide_eq_true (by show V.int (n / 7 % 3)=V.int 1;rw [z]))
  rw [if_neg h2'] at k
  exact⟨_,_,rfl,rfl,⟨by decide,by decide,by decide⟩,_,_,rfl,rfl,_,rfl,_,_,rfl,rfl,by show(0:Int) <3;decide,_,_,rfl,rfl,k⟩
theorem str_ext {x y:Str} (h:x.cps.toList=y.cps.toList):x=y:=PyProof.Rows.ext_toList h
theorem log_small {n:Int} (h0:0≤n) (h1:n <2000):n.natAbs.log2 <1920:=by
 by_cases z:n.natAbs=0
 ·rw [z]
  decide
 ·have:n.natAbs.log2 <11:=(Nat.log2_lt z).mpr (by omega)
  omega
theorem join_ones (cs:List Nat):(Txt.join Str.empty (cs.map fun c=>(⟨#[c]⟩:Str))).cps.toList=cs:=by
 unfold Txt.join
 rw [StrLaws.glued_eq_join,Bc]
 induction cs with
 | nil=>rfl
 | cons c r ih=>simpa using ih
theorem cut_to {x:Str} {n:Nat} (h:n≤x.length):(Txt.slice x none (some (n:Int))).cps.toList=x.cps.toList.take n:=by
 have e:=beq_iff_eq.mp (PyProof.Rows.slice_closes_toL (x:=x) (j:=(n:Int)) (by omega) (by omega))
 rw [e]
 simp
theorem cut_from {x:Str} {n:Nat} (h:n≤x.length):(Txt.slice x (some (n:Int)) none).cps.toList=x.cps.toList.drop n:=by
 have e:=PyProof.Rows.slice_from_eq (x:=x) (i:=(n:Int)) (b:=(x.length:Int)) (by omega) (by omega) rfl
 rw [e]
 show List.take ((x.length:Int) - n).toNat (List.drop ((n:Int)).toNat x.cps.toList)=_
 rw [Int.toNat_natCast,List.take_of_length_le (by rw [List.length_drop,pC];omega)]
def sp__law_word:Sp:=fun vs H Q _=>∃(a:Int) (b:Nat),vs=[.int a,.int (b:Nat)]∧b≤25∧∀H':Hp,aQ H H'→Q (.str (cU a b)) H'
theorem sc__law_word:FnScope ["_law_cell_here", "_law_k", "_law_letters", "_law_many", "_law_base", "_law_at"] ["_law_cell_here", "_law_k"] (aA jf):=⟨rfl,rfl,rfl,by decide +kernel,rfl,by decide +kernel,by decide +kernel⟩
theorem o8 (T:Txt w K mg t):FnOk P w K mg base CX0 2 t.uK t.sW ["_law_cell_here", "_law_k"] (sp__law_word):=by
 have sc:=sc__law_word
 refine T.m9.ok sc (fun vs H Q E h=>?_) (fun cdv A outer s H vs Q E hr h=>?_)
 ·obtain⟨a,b,rfl,_⟩:=h
  rfl
 ·obtain⟨a,b,rfl,b1,k⟩:=h
  refine⟨_,(aB (aX (i:=2) sc.nd rfl (Or.inr rfl) bH)
   (aB (cg (bz jd (bh cQ (aJ (bj T) (hr.mono (by decide)) (by rfl) T.bC T.bx.kp T.bD .nil aO (aj (pv 0) (aj az aq ao) ak)) az) az (bU _))
    (aC (aZ (bh w5 (aW ix_str (pv 2) (bh cQ (aJ (bj T) (hr.mono (by decide)) (by rfl) T.bC T.bx.kp T.bD .nil aO (aj (pv 0) (aj az aq ao) ak)) az) (fun _ _=>rfl)) (eZ xY (by rfl) T.n_str bt_str (aj (bh dN (bh cQ (aJ (bj T) (hr.mono (by decide)) (by rfl) T.bC T.bx.kp T.bD .nil aO (aj (pv 0) (aj az aq ao) ak)) az) (bh qu az (pv 1))) aq bY)))))
    bQ)
   (aB (aX (i:=3) sc.nd rfl (Or.inl rfl) (bh cQ (aJ (bj T) (hr.mono (by decide)) (by rfl) T.bC T.bx.kp T.bD .nil aO (aj (pv 0) (aj az aq ao) ak)) az))
   (aB (aX (i:=4) sc.nd rfl (Or.inl rfl) (oU PySem.F.plainAttrs_str PySem.F.slot_str_join PySem.F.type_str_join mt_join bH (aj (oY [0,2] ["_law_cell_here", "_law_k", "_law_letters", "_law_many", "_law_base", "_law_at"] (aA jf) rfl (kO rfl T.qw (aj (pv 3) aq ak)) (fun _ _ _ _ _=>mL) (fun _ _ _ _ _=>(aW ix_str (pv 2) (bh cQ (aJ (bj T) (hr.mono (by decide)) (by rfl) T.bC T.bx.kp T.bD .nil aO (aj (pv 1) (aj (bh dN az (pv 0)) aq bY) ak)) az) (fun _ _=>rfl)))) aq fV)))
   (aB (aX (i:=5) sc.nd rfl (Or.inl rfl) (bh cQ (aJ (bj T) (hr.mono (by decide)) (by rfl) T.bC T.bx.kp T.bD .nil aO (aj (pv 0) (aj az aq ao) ak)) (bh dN (pv 3) az)))
   (aC (aZ (bh w5 (bh w5 (uW sl_str (pv 4) yQ (yR (pv 5))) (aW ix_str (pv 2) (bh cQ (bh dN (aJ (bj T) (hr.mono (by decide)) (by rfl) T.bC T.bx.kp T.bD .nil aO (aj (pv 0) (aj az aq ao) ak)) (pv 1)) az) (fun _ _=>rfl))) (uW sl_str (pv 4) (yR (pv 5)) yQ))))))))),?_⟩
  have hl:sizeLine=16777216:=sizeLine_eq
  have hF:(cU a b).cps.toList=zU a b:=BV a b
  unfold zU at hF
  refine⟨_,rfl,_,_,rfl,⟨_,_,rfl,rfl,by show(0:Int) <3;decide,rfl,_,rfl,jM (fun hw=>?_) (fun hw=>?_)⟩⟩
  ·have hw':cH a 52 % 3=0:=by simpa using of_decide_eq_true hw
   rw [if_pos hw'] at hF
   refine⟨_,rfl,_,rfl,_,_,rfl,?_⟩
   refine⟨_,_,rfl,rfl,by show(0:Int) <26;decide,LT,_,_,rfl,rfl,by rw [lt_len];omega,lt_at _,?_⟩
   refine⟨_,rfl,_,_,rfl,⟨_,_,rfl,rfl,by show(0:Int) <1000;decide,_,rfl,_,_,rfl,rfl,qp,_,_,rfl,rfl,?_⟩⟩
   have q0:=Int.emod_nonneg (cH a 54) (show(1000:Int)≠0 by decide)
   have q1:=Int.emod_lt_of_pos (cH a 54) (show(0:Int) <1000 by decide)
   obtain⟨m,hm⟩:∃m:Nat,cH a 54 % 1000+37 * (b:Int)=(m:Int):=⟨(cH a 54 % 1000+37 * (b:Int)).toNat,by omega⟩
   obtain⟨_,g2,_⟩:=wz (n:=m) (by omega)
   have g3:(toString (m:Int):Str).length≤4:=by rw [←pC];exact g2
   have e:(⟨#[ltc (cH a 53)]⟩:Str) ++ (toString (m:Int):Str)=cU a b:=str_ext (by
    rw [hF,Str.cps_append,hm,Int.toNat_natCast]
    simp only [Array.toList_append]
    rfl)
   have k':=k H (aQ.refl _)
   rw [←e] at k'
   dsimp only
   rw [hm]
   exact⟨_,rfl,log_small (by omega) (by omega),_,_,rfl,rfl,by show 1+_≤sizeLine;omega,k'⟩
  have hw':¬cH a 52 % 3=0:=fun z=>hw (decide_eq_true (by show V.int (cH a 52 % 3)=V.int 0;rw [z]))
  rw [if_neg hw'] at hF
  refine⟨_,rfl,_,_,rfl,⟨_,_,rfl,rfl,by show(0:Int) <7;decide,?_⟩⟩
  have z0:=Int.emod_nonneg (cH a 50) (show(7:Int)≠0 by decide)
  have z1:=Int.emod_lt_of_pos (cH a 50) (show(0:Int) <7 by decide)
  refine⟨rfl,_,rfl,cH a 50 % 7,rfl,by omega,by omega,?_⟩
  refine sU (fun i ys H'=>H'=H∧ys=((List.range i).map fun j=>ltc (cH a (60+(j:Nat)))).map fun c=>V.str ⟨#[c]⟩) (by omega) ⟨rfl,rfl⟩ (fun i ys H' ⟨_,e⟩=>by rw [e,List.length_map,List.length_map,List.length_range];omega) ?_ ?_
  ·rintro i ys H' hi ⟨rfl,rfl⟩
   refine yes ?_
   refine⟨_,rfl,_,rfl,_,rfl,_,_,rfl,rfl,_,_,rfl,?_⟩
   refine⟨_,_,rfl,rfl,by show(0:Int) <26;decide,LT,_,_,rfl,rfl,by rw [lt_len];omega,lt_at _,rfl,?_⟩
   rw [List.range_succ,List.map_append,List.map_append]
   simp
  rintro ys H' ⟨rfl,rfl⟩ D hD
  have eb:((List.range (cH a 50 % 7).toNat).map fun j=>ltc (cH a (60+(j:Nat))))=gP a:=rfl
  rw [eb]
  have s1:aQ H' (upd H' D (.lst ((gP a).map fun c=>V.str ⟨#[c]⟩))):=aD hD
  have bl:=(Ak a).1
  have es:((gP a).map fun c=>V.str ⟨#[c]⟩)=((gP a).map fun c=>(⟨#[c]⟩:Str)).map V.str:=by rw [List.map_map];rfl
  refine⟨Str.empty,D,(gP a).map fun c=>(⟨#[c]⟩:Str),rfl,rfl,SqL.of (by rw [←es];exact au),?_,?_⟩
  ·have:=sum_le (n:=1) ((gP a).map fun c=>(⟨#[c]⟩:Str)) fun w h=>by
    obtain⟨c,_,rfl⟩:=List.mem_map.mp h
    exact Nat.le_refl 1
   have he:Str.empty.length=0:=rfl
   rw [he]
   rw [List.length_map] at this
   omega
  have ej:=join_ones (gP a)
  generalize upd H' D (.lst ((gP a).map fun c=>V.str ⟨#[c]⟩))=H1 at s1 ⊢
  generalize Txt.join Str.empty ((gP a).map fun c=>(⟨#[c]⟩:Str))=x0 at ej ⊢
  have hx0:x0.length=(gP a).length:=by rw [←pC,ej]
  refine⟨_,rfl,_,_,rfl,⟨_,rfl,_,_,rfl,rfl,_,_,rfl,rfl,by show(0:Int) <cH a 50 % 7+1;omega,?_⟩⟩
  have hsp:=spot_le a
  obtain⟨n,hn,hn2⟩:∃n:Nat,cH a 51 % (cH a 50 % 7+1)=(n:Int)∧n=qt a:=⟨qt a,(Int.toNat_of_nonneg (Int.emod_nonneg _ (by omega))).symm,rfl⟩
  rw [←hn2] at hsp hF
  dsimp only
  rw [hn]
  have s0:=Txt.slice_le x0 none (some (n:Int))
  have s2:=Txt.slice_le x0 (some (n:Int)) none
  refine⟨_,rfl,_,rfl,_,rfl,x0,rfl,by omega,_,rfl,_,rfl,_,_,rfl,⟨_,rfl,_,_,rfl,rfl,?_⟩⟩
  have h1:(⟨#[ltc (cH a 55+(b:Int))]⟩:Str).length=1:=rfl
  refine⟨_,_,rfl,rfl,by show(0:Int) <26;decide,LT,_,_,rfl,rfl,by rw [lt_len];omega,lt_at _,_,_,rfl,rfl,by rw [h1];omega,?_⟩
  refine⟨_,rfl,_,rfl,_,rfl,x0,rfl,by omega,_,_,rfl,rfl,by rw [Str.length_append,h1];omega,?_⟩
  have e:Txt.slice x0 none (some (n:Int)) ++ (⟨#[ltc (cH a 55+(b:Int))]⟩:Str) ++ Txt.slice x0 (some (n:Int)) none=cU a b:=str_ext (by
   rw [hF,Str.cps_append,Str.cps_append]
   simp only [Array.toList_append]
   rw [cut_to (by omega),cut_from (by omega),ej]
   simp)
  rw [e]
  exact k H1 s1
theorem pick5 (m:Int):∃c:Nat,atI [V.int 0,.int 0,.int 0,.int 1,.int 2] (m % 5)=some (.int (c:Nat))∧c≤2:=by
 have key:∀j,j <5→atI [V.int 0,.int 0,.int 0,.int 1,.int 2] ((j:Nat):Int)=some (.int (([0,0,0,1,2]:List Nat).getD j 0:Nat))∧([0,0,0,1,2]:List Nat).getD j 0≤2:=by decide +kernel
 obtain⟨j,e,hj⟩:=modNat m (n:=5) (k:=5) (by decide) rfl
 rw [e]
 exact⟨_,key j hj⟩
theorem pick6 (m:Int):∃c:Nat,atI [V.int 0,.int 0,.int 1,.int 1,.int 2,.int 7] (m % 6)=some (.int (c:Nat))∧c≤7:=by
 have key:∀j,j <6→atI [V.int 0,.int 0,.int 1,.int 1,.int 2,.int 7] ((j:Nat):Int)=some (.int (([0,0,1,1,2,7]:List Nat).getD j 0:Nat))∧([0,0,1,1,2,7]:List Nat).getD j 0≤7:=by decide +kernel
 obtain⟨j,e,hj⟩:=modNat m (n:=6) (k:=6) (by decide) rfl
 rw [e]
 exact⟨_,key j hj⟩
def sp__law_lane:Sp:=fun vs H Q _=>∃(d:Dw) (ls:List LaneD) (ps:List PD) (os:List Str) (c:Int) (b:Bool),vs=[.ref d.S,.int c,.bl b]∧DAt d H ls ps os∧ls.length≤24∧∀(l:LaneD) (H':Hp),l.name=cU d.c3 ls.length→aQ (bK d.E H) (bK d.E H')→DAt d H' (ls ++ [l]) ps os→Q (.str l.name) H'
theorem sc__law_lane:FnScope ["_law_state", "_law_cell_here", "_law_back", "_law_many", "_law_first", "_law_room", "_law_name"] ["_law_state", "_law_cell_here", "_law_back"] (aA iU):=⟨rfl,rfl,rfl,by decide +kernel,rfl,by decide +kernel,by decide +kernel⟩
theorem lF (T:Txt w K mg t):FnOk P w K mg base CX0 3 t.vg t.tH ["_law_state", "_law_cell_here", "_law_back"] (sp__law_lane):=by
 have sc:=sc__law_lane
 refine T.jZ.ok sc (fun vs H Q E h=>?_) (fun cdv A outer s H vs Q E hr h=>?_)
 ·obtain⟨d,ls,ps,os,c,b,rfl,_⟩:=h
  rfl
 ·obtain⟨d,ls,ps,os,c,b,rfl,D,hn,k⟩:=h
  refine⟨_,(aB (aX (i:=3) sc.nd rfl (Or.inl rfl) (aW bN (bA (aj az (aj az (aj az (aj az (aj az aq ao) ao) ao) ao) ao)) (bh cQ (aJ (bj T) (hr.mono (by decide)) (by rfl) T.bC T.bx.kp T.bD .nil aO (aj (pv 1) (aj az aq ao) ak)) az) (fun _ _=>rfl)))
   (aB (gf (cg (mj (pv 2))
    (aC (aX (i:=3) sc.nd rfl (Or.inl rfl) (bh cQ (aJ (bj T) (hr.mono (by decide)) (by rfl) T.bC T.bx.kp T.bD .nil aO (aj (pv 1) (aj az aq ao) ak)) az)))
    bQ))
   (aB (wk (i:=4) [1] ["_law_state", "_law_cell_here", "_law_back", "_law_many", "_law_first", "_law_room", "_law_name"] (aA iU) rfl sc.nd rfl (kO rfl T.qw (aj (pv 3) aq ak)) (fun _ _ _ _ _=>mL) (fun _ _ _ _ _=>(aJ (mV T) (hr.mono (by decide)) (by rfl) T.oZ T.lq.kp T.o9 .nil aO (aj (pv 1) (aj (bh dN az (pv 0)) aq bY) ak))))
   (aB (aX (i:=5) sc.nd rfl (Or.inl rfl) (bh dN (bL (zb rfl) (by rfl) T.n_max bt_max (aj az (aj (pv 3) aq ak) ao)) (aW bN (bA (aj az (aj az (aj az (aj az (aj az (aj az aq ao) ao) ao) ao) ao) ao)) (bh cQ (aJ (bj T) (hr.mono (by decide)) (by rfl) T.bC T.bx.kp T.bD .nil aO (aj (pv 1) (aj az aq ao) ak)) az) (fun _ _=>rfl))))
   (aB (aX (i:=6) sc.nd rfl (Or.inl rfl) (aJ (o8 T) (hr.mono (by decide)) (by rfl) T.qH T.m9.kp T.qC .nil aO (aj (aW bN (pv 0) az (fun _ _=>rfl)) (aj (bL cj (by rfl) T.iw dX (aj (aW bN (pv 0) az (fun _ _=>rfl)) aq aK)) aq aV) aK)))
   (aB (bF (oU PySem.F.plainAttrs_list PySem.F.slot_list_append PySem.F.type_list_append j0 (aW bN (pv 0) az (fun _ _=>rfl)) (aj (cV (aj (pv 6) (aj (pv 5) (aj (pv 4) aq ak) ak) ak)) aq bW)))
   (aC (aZ (pv 6))))))))),?_⟩
  have hl:sizeLine=16777216:=sizeLine_eq
  refine⟨by show 5≤sizeLine;exact szl,fun l0 n0=>?_⟩
  have s0:=aD (o:=.lst [.int 0,.int 0,.int 0,.int 1,.int 2]) n0
  obtain⟨c0,e0,h0⟩:=pick5 (cH c 1)
  refine⟨_,rfl,_,_,rfl,_,_,rfl,rfl,by show(0:Int) <5;decide,l0,_,_,_,rfl,rfl,SqL.of au,e0,?_⟩
  generalize upd H l0 (.lst [.int 0,.int 0,.int 0,.int 1,.int 2])=H0 at s0 ⊢
  refine⟨fun σ H1=>∃m:Nat,m≤3∧H1=H0∧σ=[some (.ref d.S),some (.int c),some (.bl b),some (.int (m:Nat)),none,none,none],?_,?_⟩
  ·cases b
   ·exact⟨_,rfl,false,rfl,fX ⟨c0,by omega,rfl,rfl⟩⟩
   ·refine⟨_,rfl,true,rfl,lX ⟨_,rfl,_,_,rfl,_,_,rfl,rfl,by show(0:Int) <4;decide,?_⟩⟩
    have h1:=Int.emod_nonneg (cH c 1) (show(4:Int)≠0 by decide)
    have h2:=Int.emod_lt_of_pos (cH c 1) (show(0:Int) <4 by decide)
    refine⟨(cH c 1 % 4).toNat,by omega,rfl,?_⟩
    rw [Int.toNat_of_nonneg h1]
    rfl
  rintro σ H1 ⟨m,hm,rfl,rfl⟩
  refine⟨_,rfl,(m:Int),rfl,by omega,by omega,?_⟩
  rw [Int.toNat_natCast]
  refine sU (fun i ys H'=>H'=H1∧∃ws:List Int,ys=ws.map V.int∧ws.length=i∧∀v∈ws,0≤v∧v <1000000000) (by omega) ⟨rfl,[],rfl,rfl,by simp⟩ (fun i ys H' ⟨_,ws,e,e2,_⟩=>by rw [e,List.length_map];omega) ?_ ?_
  ·rintro i ys H' hi ⟨rfl,ws,rfl,hw,hB⟩
   refine yes ⟨_,rfl,_,rfl,_,_,rfl,rfl,c,10+(0+(i:Int)),rfl,rfl,ws ++ [rU c (10+(0+(i:Int)))],by simp,by simp [hw],fun v hv=>?_⟩
   rcases List.mem_append.mp hv with hv | hv
   ·exact hB v hv
   ·rw [List.mem_singleton] at hv
    subst hv
    exact wu _ _
  rintro ys H' ⟨rfl,ws,rfl,hw,hB⟩ F nF
  have t1:=aD (o:=.lst (ws.map V.int)) nF
  have sF:=s0.trans t1
  have eF:upd H' F (.lst (ws.map V.int)) F=some (.lst (ws.map V.int)):=au
  have oF:F∉d.E:=D.out (s0.free nF)
  generalize upd H' F (.lst (ws.map V.int))=H2 at t1 sF eF ⊢
  refine⟨_,rfl,_,_,rfl,by show 6≤sizeLine;exact szl,fun l1 n1=>?_⟩
  have t2:=aD (o:=.lst [.int 0,.int 0,.int 1,.int 1,.int 2,.int 7]) n1
  obtain⟨c1,e1,h1⟩:=pick6 (cH c 2)
  refine⟨_,rfl,_,_,rfl,_,_,rfl,rfl,by show(0:Int) <6;decide,l1,_,_,_,rfl,rfl,SqL.of au,e1,_,_,rfl,rfl,?_⟩
  have s2:=sF.trans t2
  have eF2:=t2 _ _ eF
  generalize upd H2 l1 (.lst [.int 0,.int 0,.int 1,.int 1,.int 2,.int 7])=H3 at t2 s2 eF2 ⊢
  have D3:=D.keep s2
  obtain⟨xs,eL,aL⟩:=D3.lanes
  have xl:=aL.length
  refine⟨_,rfl,d.S,_,3,_,rfl,rfl,D3.seqS,aN (j:=3) rfl,?_⟩
  refine⟨_,rfl,d.S,_,0,_,rfl,rfl,D3.seqS,aN (j:=0) rfl,.ref d.L,ls.length,rfl,.inl ⟨_,SqL.of eL,xl.symm⟩,?_⟩
  refine⟨d.c3,ls.length,rfl,by omega,fun H4 s4=>?_⟩
  have D4:=D3.keep s4
  have eL4:=s4 _ _ eL
  have eF4:=s4 _ _ eF2
  have s04:=s2.trans s4
  refine⟨_,rfl,d.S,_,0,_,rfl,rfl,D4.seqS,aN (j:=0) rfl,?_⟩
  refine⟨.inl ⟨rfl,_,SqL.of eL4⟩,_,rfl,_,rfl,_,rfl,by show 3≤sizeLine;exact szl,fun q nq=>?_⟩
  have t5:=aD (o:=.tup [.str (cU d.c3 ls.length),.int ((if (m:Int) >1 then(m:Int) else 1)+(c1:Int)),.ref F]) nq
  have s5:=s04.trans t5
  have D5:=D4.keep t5
  have oq:q∉d.E:=D4.out nq
  have eq:upd H4 q (.tup [.str (cU d.c3 ls.length),.int ((if (m:Int) >1 then(m:Int) else 1)+(c1:Int)),.ref F]) q=some (.tup [.str (cU d.c3 ls.length),.int ((if (m:Int) >1 then(m:Int) else 1)+(c1:Int)),.ref F]):=au
  have eL5:=t5 _ _ eL4
  have eF5:=t5 _ _ eF4
  refine⟨d.L,xs,_,rfl,rfl,eL5,by omega,_,rfl,?_⟩
  refine k ⟨cU d.c3 ls.length,(if (m:Int) >1 then(m:Int) else 1)+(c1:Int),ws⟩ _ rfl ?_ (D5.lane ⟨q,F,rfl,fY eq oq,fY eF5 oF⟩ ⟨by dsimp only;split <;> omega,by dsimp only;split <;> omega,by dsimp only;split <;> omega,hB⟩ rfl eL5)
  rw [dF (by simp)]
  exact D.cut s5
theorem pop_at:∀{os:List Str} {j:Nat} (h:j <os.length),os.Perm (os[j]:: os.eraseIdx j)
 | [],_,h=>absurd h (by simp)
 | a:: l,0,_=>.refl _
 | a:: l,j+1,h=>by
  have h':j <l.length:=by simpa using h
  show(a:: l).Perm (l[j]:: a:: l.eraseIdx j)
  exact((pop_at (os:=l) (j:=j) (by simpa using h)).cons a).trans (.swap _ _ _)
theorem erase_map {α β:Type} {f:α→β}:∀(l:List α) (j:Nat),(l.map f).eraseIdx j=(l.eraseIdx j).map f
 | [],_=>rfl
 | a:: l,0=>rfl
 | a:: l,j+1=>by
  show f a:: (l.map f).eraseIdx j=f a:: (l.eraseIdx j).map f
  rw [erase_map l j]
theorem ix_nat {j n:Nat} (h:j <n):seqIndex? (j:Int) n=some j:=by
 unfold seqIndex?
 have z:¬(j:Int) <0:=by omega
 simp [h,z]
def sp__law_pick:Sp:=fun vs H Q _=>∃(d:Dw) (ls:List LaneD) (ps:List PD) (os:List Str) (n:Int),vs=[.ref d.S,.int n]∧DAt d H ls ps os∧os≠[]∧os.length≤100∧∀(x:Str) (os':List Str) (H':Hp),os.Perm (x:: os')→aQ (bK d.E H) (bK d.E H')→DAt d H' ls ps os'→Q (.str x) H'
theorem sc__law_pick:FnScope ["_law_state", "_law_number"] ["_law_state", "_law_number"] (aA kI):=⟨rfl,rfl,rfl,by decide +kernel,rfl,by decide +kernel,by decide +kernel⟩
theorem ul (T:Txt w K mg t):FnOk P w K mg base CX0 1 t.uY t.tX ["_law_state", "_law_number"] (sp__law_pick):=by
 have sc:=sc__law_pick
 refine T.qI.ok sc (fun vs H Q E h=>?_) (fun cdv A outer s H vs Q E hr h=>?_)
 ·obtain⟨d,ls,ps,os,n,rfl,_⟩:=h
  rfl
 ·obtain⟨d,ls,ps,os,n,rfl,D,hne,hs,k⟩:=h
  refine⟨_,(aC (aZ (oU PySem.F.plainAttrs_list PySem.F.slot_list_pop PySem.F.type_list_pop Ao (aW bN (pv 0) az (fun _ _=>rfl)) (aj (bh cQ (pv 1) (bL cj (by rfl) T.iw dX (aj (aW bN (pv 0) az (fun _ _=>rfl)) aq aK))) aq bY)))),?_⟩
  have hpos:0 <os.length:=List.length_pos_iff.mpr hne
  refine⟨_,rfl,d.S,_,2,_,rfl,rfl,D.seqS,aN (j:=2) rfl,.inl ⟨rfl,_,SqL.of D.opens⟩,?_⟩
  refine⟨_,rfl,_,rfl,d.S,_,2,_,rfl,rfl,D.seqS,aN (j:=2) rfl,.ref d.O,os.length,rfl,.inl ⟨_,SqL.of D.opens,by simp⟩,n,(os.length:Int),rfl,rfl,by omega,?_⟩
  have h0:=Int.emod_nonneg n (show(os.length:Int)≠0 by omega)
  have h1:=Int.emod_lt_of_pos n (show(0:Int) <(os.length:Int) by omega)
  obtain⟨j,hj⟩:∃j:Nat,n % (os.length:Int)=(j:Int):=⟨(n % (os.length:Int)).toNat,by omega⟩
  have hj':j <os.length:=by omega
  refine⟨d.O,_,(j:Int),j,.str os[j],rfl,by show [V.int (n % (os.length:Int))]=_;rw [hj],D.opens,by omega,by omega,by rw [List.length_map];exact ix_nat hj',by rw [List.getElem?_map,List.getElem?_eq_getElem hj'];rfl,?_⟩
  rw [erase_map]
  exact k os[j] (os.eraseIdx j) _ (pop_at hj') (by rw [dF (by simp)];exact aQ.refl _) D.open
def sp__law_part:Sp:=fun vs H Q _=>∃(d:Dw) (ls:List LaneD) (ps:List PD) (os:List Str) (c:Int) (i:Nat) (a1 a2:Addr) (nums:List Int) (ins:List Str) (many:Nat),vs=[.ref d.S,.int c,.str (eO i),.ref a1,.ref a2,.int (many:Nat)]∧DAt d H ls ps os∧bK d.E H a1=some (.lst (nums.map V.int))∧bK d.E H a2=some (.lst (ins.map V.str))∧i <11∧nums.length=cN i∧(∀v∈nums,0≤v∧v <1000000000)∧ins.length=cI i∧many=cO i∧ls.length≤22∧ps.length≤25∧os.length≤100∧∀(newl:List LaneD) (H':Hp),newl.length=many→aQ (bK d.E H) (bK d.E H')→DAt d H' (ls ++ newl) (ps ++ [⟨i,cU d.c4 ps.length,nums,ins,newl.map (·.name)⟩]) (os ++ newl.map (·.name))→Q .non H'
theorem sc__law_part:FnScope ["_law_state", "_law_cell_here", "_law_kind", "_law_numbers", "_law_ins", "_law_many", "_law_outs"] ["_law_state", "_law_cell_here", "_law_kind", "_law_numbers", "_law_ins", "_law_many"] (aA je):=⟨rfl,rfl,rfl,by decide +kernel,rfl,by decide +kernel,by decide +kernel⟩
theorem cL (T:Txt w K mg t):FnOk P w K mg base CX0 4 t.vO t.tK ["_law_state", "_law_cell_here", "_law_kind", "_law_numbers", "_law_ins", "_law_many"] (sp__law_part):=by
 have sc:=sc__law_part
 refine T.cZ.ok sc (fun vs H Q E h=>?_) (fun cdv A outer s H vs Q E hr h=>?_)
 ·obtain⟨d,ls,ps,os,c,i,a1,a2,nums,ins,many,rfl,_⟩:=h
  rfl
 ·obtain⟨d,ls,ps,os,c,i,a1,a2,nums,ins,many,rfl,D,e1,e2,hi,hN,hB,hI,hO,hls,hps,hos,k⟩:=h
  refine⟨_,(aB (wk (i:=6) [0,1] ["_law_state", "_law_cell_here", "_law_kind", "_law_numbers", "_law_ins", "_law_many", "_law_outs"] (aA je) rfl sc.nd rfl (kO rfl T.qw (aj (pv 5) aq ak)) (fun _ _ _ _ _=>mL) (fun _ _ _ _ _=>(aJ (lF T) (hr.mono (by decide)) (by rfl) T.mX T.jZ.kp T.nj .nil aO (aj (pv 1) (aj (aJ (bj T) (hr.mono (by decide)) (by rfl) T.bC T.bx.kp T.bD .nil aO (aj (pv 2) (aj (bh dN az (pv 0)) aq bY) ak)) (aj iT aq ao) aV) ak))))
   (aB (bF (oU PySem.F.plainAttrs_list PySem.F.slot_list_append PySem.F.type_list_append j0 (aW bN (pv 0) az (fun _ _=>rfl)) (aj (cV (aj (pv 2) (aj (aJ (o8 T) (hr.mono (by decide)) (by rfl) T.qH T.m9.kp T.qC .nil aO (aj (aW bN (pv 0) az (fun _ _=>rfl)) (aj (bL cj (by rfl) T.iw dX (aj (aW bN (pv 0) az (fun _ _=>rfl)) aq aK)) aq aV) aK)) (aj (pv 3) (aj (pv 4) (aj (pv 6) aq ak) ak) ak) aV) ak)) aq bW)))
   (aC (bF (oU PySem.F.plainAttrs_list PySem.F.slot_list_extend PySem.F.type_list_extend yU (aW bN (pv 0) az (fun _ _=>rfl)) (aj (pv 6) aq ak)))))),?_⟩
  have hl:sizeLine=16777216:=sizeLine_eq
  have hm2:many≤2:=by rw [hO];exact cO_le i
  refine⟨_,rfl,(many:Int),rfl,by omega,by omega,?_⟩
  rw [Int.toNat_natCast]
  refine sU (fun i ys H'=>∃newl:List LaneD,newl.length=i∧ys=newl.map (fun l=>V.str l.name)∧aQ (bK d.E H) (bK d.E H')∧DAt d H' (ls ++ newl) ps os) (by omega) ⟨[],rfl,rfl,aQ.refl _,by rw [List.append_nil];exact D⟩ (fun i ys H' ⟨newl,e,e2,_⟩=>by rw [e2,List.length_map];omega) ?_ ?_
  ·rintro j ys H' hj ⟨newl,hn,rfl,s,D'⟩
   refine yes ⟨_,rfl,_,rfl,_,rfl,_,_,rfl,rfl,c,20+(0+(j:Int)),rfl,?_⟩
   refine⟨d,ls ++ newl,ps,os,_,false,rfl,D',by rw [List.length_append];omega,fun l H1 _ s1 D1=>?_⟩
   exact⟨newl ++ [l],by simp [hn],by simp,s.trans s1,by rw [←List.append_assoc];exact D1⟩
  rintro ys H1 ⟨newl,hn,rfl,s1,D1⟩ F nF
  have t1:=aD (o:=.lst (newl.map fun l=>V.str l.name)) nF
  have eF:upd H1 F (.lst (newl.map fun l=>V.str l.name)) F=some (.lst ((newl.map (·.name)).map V.str)):=by rw [List.map_map];exact au
  have oF:=D1.out nF
  have D2:=D1.keep t1
  have s2:=s1.trans (D1.cut t1)
  generalize upd H1 F (.lst (newl.map fun l=>V.str l.name))=H2 at t1 eF D2 s2 ⊢
  obtain⟨xs,eP,aP⟩:=D2.parts
  have xl:=aP.length
  refine⟨_,rfl,d.S,_,1,_,rfl,rfl,D2.seqS,aN (j:=1) rfl,.inl ⟨rfl,_,SqL.of eP⟩,?_⟩
  refine⟨_,rfl,_,rfl,d.S,_,4,_,rfl,rfl,D2.seqS,aN (j:=4) rfl,?_⟩
  refine⟨_,rfl,d.S,_,1,_,rfl,rfl,D2.seqS,aN (j:=1) rfl,.ref d.P,ps.length,rfl,.inl ⟨_,SqL.of eP,xl.symm⟩,?_⟩
  refine⟨d.c4,ps.length,rfl,by omega,fun H3 s3=>?_⟩
  have D3:=D2.keep s3
  have t3:=s2.trans (D2.cut s3)
  have eP3:=s3 _ _ eP
  have eF3:=s3 _ _ eF
  refine⟨_,rfl,_,rfl,_,rfl,by show 5≤sizeLine;exact szl,fun q nq=>?_⟩
  have s4:=aD (o:=.tup [.str (eO i),.str (cU d.c4 ps.length),.ref a1,.ref a2,.ref F]) nq
  have D4:=D3.keep s4
  have t4:=t3.trans (D3.cut s4)
  have eP4:=s4 _ _ eP3
  have eF4:=s4 _ _ eF3
  have oq:=D3.out nq
  have eq:upd H3 q (.tup [.str (eO i),.str (cU d.c4 ps.length),.ref a1,.ref a2,.ref F]) q=some (.tup [.str (eO i),.str (cU d.c4 ps.length),.ref a1,.ref a2,.ref F]):=au
  refine⟨d.P,xs,_,rfl,rfl,eP4,by omega,?_⟩
  generalize upd H3 q (.tup [.str (eO i),.str (cU d.c4 ps.length),.ref a1,.ref a2,.ref F])=H4 at s4 D4 t4 eP4 eF4 eq ⊢
  have D5:=D4.part (p:=⟨i,cU d.c4 ps.length,nums,ins,newl.map (·.name)⟩) ⟨q,a1,a2,F,rfl,fY eq oq,t4 _ _ e1,t4 _ _ e2,fY eF4 oF⟩ ⟨hi,hN,hI,by show(newl.map _).length=_;rw [List.length_map,hn];exact hO,hB⟩ rfl eP4
  have hcu:bK d.E (upd H4 d.P (.lst (xs ++ [.ref q])))=bK d.E H4:=dF (by simp)
  have eF5:upd H4 d.P (.lst (xs ++ [.ref q])) F=some (.lst ((newl.map (·.name)).map V.str)):=by rw [aH (fun z=>oF (by rw [z];simp))];exact eF4
  generalize upd H4 d.P (.lst (xs ++ [.ref q]))=H5 at D5 hcu eF5 ⊢
  refine⟨_,rfl,d.S,_,2,_,rfl,rfl,D5.seqS,aN (j:=2) rfl,.inl ⟨rfl,_,SqL.of D5.opens⟩,?_⟩
  refine⟨_,rfl,d.O,F,_,_,rfl,rfl,D5.opens,eF5,by rw [List.length_map,List.length_map,List.length_map];omega,?_⟩
  rw [←List.map_append]
  exact k newl _ hn (by rw [dF (by simp),hcu];exact t4) D5.open
theorem pick2 (m:Int):∃i:Nat,atI [V.str "add",V.str "less"] (m % 2)=some (.str (eO i))∧(i=6∨i=7):=by
 have h0:=Int.emod_nonneg m (show(2:Int)≠0 by decide)
 have h1:=Int.emod_lt_of_pos m (show(0:Int) <2 by decide)
 have:m % 2=0∨m % 2=1:=by omega
 rcases this with e | e <;> rw [e]
 ·exact⟨6,rfl,.inl rfl⟩
 ·exact⟨7,rfl,.inr rfl⟩
theorem perm2 {one other:Str} {os os1:List Str} (h:os.Perm (other:: os1)):(one:: os).Perm ([one,other] ++ os1):=h.cons one
theorem perm3 {one other third:Str} {os os1 os2:List Str} (h:os.Perm (other:: os1)) (h2:os1.Perm (third:: os2)):(one:: os).Perm ([one,other,third] ++ os2):=(h.trans (h2.cons other)).cons one
def sp__law_two:Sp:=fun vs H Q _=>∃(d:Dw) (ls:List LaneD) (ps:List PD) (os:List Str) (c:Int) (one:Str) (back:List Str) (odd:Bool),vs=[.ref d.S,.int c,.str one,.bl odd]∧DAt d H ls ps os∧Drawn.WF (vI ls ps (one:: os) back)∧os≠[]∧os.length≤3∧ls.length≤20∧ps.length≤22∧∀ls' ps' os' H',Nxt d H H' ls ps back ls' ps' os'→Q .non H'
theorem sc__law_two:FnScope ["_law_state", "_law_cell_here", "_law_one", "_law_odd", "_law_other", "_law_way", "_law_third"] ["_law_state", "_law_cell_here", "_law_one", "_law_odd"] (aA mD):=⟨rfl,rfl,rfl,by decide +kernel,rfl,by decide +kernel,by decide +kernel⟩
theorem ok__law_two (T:Txt w K mg t):FnOk P w K mg base CX0 5 t.xW t.vU ["_law_state", "_law_cell_here", "_law_one", "_law_odd"] (sp__law_two):=by
 have sc:=sc__law_two
 refine T.Bb.ok sc (fun vs H Q E h=>?_) (fun cdv A outer s H vs Q E hr h=>?_)
 ·obtain⟨d,ls,ps,os,c,one,back,odd,rfl,_⟩:=h
  rfl
 ·obtain⟨d,ls,ps,os,c,one,back,odd,rfl,D,w,hne,ho,hls,hps,k⟩:=h
  refine⟨_,(aB (aX (i:=4) sc.nd rfl (Or.inl rfl) (aJ (ul T) (hr.mono (by decide)) (by rfl) T.vh T.qI.kp T.u9 .nil aO (aj (pv 0) (aj (aJ (bj T) (hr.mono (by decide)) (by rfl) T.bC T.bx.kp T.bD .nil aO (aj (pv 1) (aj az aq ao) ak)) aq aV) ak)))
   (aB (aX (i:=5) sc.nd rfl (Or.inl rfl) (bh cQ (aJ (bj T) (hr.mono (by decide)) (by rfl) T.bC T.bx.kp T.bD .nil aO (aj (pv 1) (aj az aq ao) ak)) az))
   (aC (gf (cg (PW.pt (xP (mj (pv 3)) (xP (bz wQ (pv 5) az (bU _)) (vZ (bz op_gt (bL cj (by rfl) T.iw dX (aj (aW bN (pv 0) az (fun _ _=>rfl)) aq aK)) az (bU _))))))
    (aB (aX (i:=6) sc.nd rfl (Or.inl rfl) (aJ (ul T) (hr.mono (by decide)) (by rfl) T.vh T.qI.kp T.u9 .nil aO (aj (pv 0) (aj (aJ (bj T) (hr.mono (by decide)) (by rfl) T.bC T.bx.kp T.bD .nil aO (aj (pv 1) (aj az aq ao) ak)) aq aV) ak)))
    (aC (bF (aJ (cL T) (hr.mono (by decide)) (by rfl) T.dq T.cZ.kp T.du .nil aO (aj (pv 0) (aj (pv 1) (aj bH (aj (bA aq) (aj (bA (aj (pv 2) (aj (pv 4) (aj (pv 6) aq ak) ak) ak)) (aj az aq ao) bw) bw) ao) ak) ak)))))
    (aC (gf (cg (PW.pt (xP (mj (pv 3)) (vZ (bz wQ (pv 5) az (bU _)))))
     (aC (bF (aJ (cL T) (hr.mono (by decide)) (by rfl) T.dq T.cZ.kp T.du .nil aO (aj (pv 0) (aj (pv 1) (aj bH (aj (bA aq) (aj (bA (aj (pv 2) (aj (pv 4) aq ak) ak)) (aj az aq ao) bw) bw) ao) ak) ak))))
     (aC (gf (cg (bz jd (bh cQ (pv 5) az) az (bU _))
      (aC (bF (aJ (cL T) (hr.mono (by decide)) (by rfl) T.dq T.cZ.kp T.du .nil aO (aj (pv 0) (aj (pv 1) (aj bH (aj (bA aq) (aj (bA (aj (pv 2) (aj (pv 4) aq ak) ak)) (aj az aq ao) bw) bw) ao) ak) ak))))
      (aC (bF (aJ (cL T) (hr.mono (by decide)) (by rfl) T.dq T.cZ.kp T.du .nil aO (aj (pv 0) (aj (pv 1) (aj (aW bN (bA (aj bH (aj bH aq ao) ao)) (bh cQ (pv 5) az) (fun _ _=>rfl)) (aj (bA aq) (aj (bA (aj (pv 2) (aj (pv 4) aq ak) ak)) (aj az aq ao) bw) bw) aK) ak) ak))))))))))))))),?_⟩
  have hl:sizeLine=16777216:=sizeLine_eq
  refine⟨_,rfl,_,rfl,_,_,rfl,d,ls,ps,os,_,rfl,D,hne,by omega,fun other os1 H1 p1 s1 D1=>?_⟩
  have l1:=p1.length_eq
  rw [List.length_cons] at l1
  refine⟨_,rfl,_,_,rfl,_,_,rfl,rfl,by show(0:Int) <6;decide,?_⟩
  refine⟨fun _ H'=>Q .non H',?_,fun _ _ h=>h⟩
  have fin:∀{i:Nat} {nm:Str} {newl:List LaneD} {ins os2:List Str} {H':Hp},aQ (bK d.E H) (bK d.E H')→DAt d H' (ls ++ newl) (ps ++ [⟨i,nm,[],ins,newl.map (·.name)⟩]) (os2 ++ newl.map (·.name))→(one:: os).Perm (ins ++ os2)→newl.length≠0→newl.length≤2→os2.length+newl.length≤4→Q .non H':=fun s DD hp h1 h2 h4=>
   k _ _ _ _ ⟨s,DD,rQ w rfl DD hp h1 (by rw [List.length_append];omega),by rw [List.length_append,List.length_map];omega,by rw [List.length_append,List.length_map];omega,by rw [List.length_append];omega,by rw [List.length_append,List.length_singleton];omega⟩
  cases odd
  ·refine⟨_,rfl,false,rfl,fX (fX ?_)⟩
   refine⟨fun _ H'=>Q .non H',?_,fun _ _ h=>h⟩
   refine⟨_,rfl,false,rfl,fX (fX ?_)⟩
   refine⟨fun _ H'=>Q .non H',?_,fun _ _ h=>h⟩
   refine⟨_,rfl,_,_,rfl,rfl,by show(0:Int) <3;decide,rfl,_,rfl,jM (fun _=>?_) (fun _=>?_)⟩
   ·refine⟨_,rfl,_,rfl,by show 0≤sizeLine;exact szl,fun a1 n1=>⟨_,rfl,_,rfl,by show 2≤sizeLine;exact szl,fun a2 n2=>?_⟩⟩
    obtain⟨D9,z1,z2,z3⟩:=D1.two n1 n2 (y:=.lst [.str one,.str other])
    refine⟨d,_,_,os1,_,8,a1,a2,[],[one,other],2,rfl,D9,z1,z2,by omega,rfl,by simp,rfl,rfl,by omega,by omega,by omega,fun newl H8 hn s8 D8=>?_⟩
    exact fin (s1.trans (z3.trans s8)) D8 (perm2 p1) (by omega) (by omega) (by omega)
   ·refine⟨_,rfl,_,rfl,by show 2≤sizeLine;exact szl,fun a0 n0=>?_⟩
    have s0:=aD (o:=.lst [.str "add",.str "less"]) n0
    have D0:=D1.keep s0
    have c0:=D1.cut s0
    refine⟨_,rfl,_,_,rfl,rfl,by show(0:Int) <2;decide,?_⟩
    obtain⟨i,ei,hi⟩:=pick2 (cH c 6 % 6)
    refine⟨a0,_,_,_,rfl,rfl,SqL.of au,ei,?_⟩
    generalize upd H1 a0 (.lst [.str "add",.str "less"])=H0 at s0 D0 c0 ⊢
    have hN:([]:List Int).length=cN i:=by rcases hi with rfl | rfl <;> rfl
    have hI:[one,other].length=cI i:=by rcases hi with rfl | rfl <;> rfl
    have hO:1=cO i:=by rcases hi with rfl | rfl <;> rfl
    refine⟨by show 0≤sizeLine;exact szl,fun a1 n1=>⟨_,rfl,_,rfl,by show 2≤sizeLine;exact szl,fun a2 n2=>?_⟩⟩
    obtain⟨D9,z1,z2,z3⟩:=D0.two n1 n2 (y:=.lst [.str one,.str other])
    refine⟨d,_,_,os1,_,i,a1,a2,[],[one,other],1,rfl,D9,z1,z2,by omega,hN,by simp,hI,hO,by omega,by omega,by omega,fun newl H8 hn s8 D8=>?_⟩
    exact fin (s1.trans (c0.trans (z3.trans s8))) D8 (perm2 p1) (by omega) (by omega) (by omega)
  ·refine⟨_,rfl,true,rfl,lX ⟨_,rfl,_,_,rfl,rfl,_,rfl,Bm ?_ (fun h2 b=>?_) (fun b=>b)⟩⟩
   ·refine⟨fun _ H'=>Q .non H',?_,fun _ _ h=>h⟩
    refine⟨_,rfl,true,rfl,lX ?_⟩
    refine⟨_,rfl,_,_,rfl,rfl,_,rfl,jM (fun h5=>?_) (fun h5=>?_)⟩
    ·refine⟨_,rfl,_,rfl,by show 0≤sizeLine;exact szl,fun a1 n1=>⟨_,rfl,_,rfl,by show 2≤sizeLine;exact szl,fun a2 n2=>?_⟩⟩
     obtain⟨D9,z1,z2,z3⟩:=D1.two n1 n2 (y:=.lst [.str one,.str other])
     refine⟨d,_,_,os1,_,10,a1,a2,[],[one,other],2,rfl,D9,z1,z2,by omega,rfl,by simp,rfl,rfl,by omega,by omega,by omega,fun newl H8 hn s8 D8=>?_⟩
     exact fin (s1.trans (z3.trans s8)) D8 (perm2 p1) (by omega) (by omega) (by omega)
    ·refine⟨fun _ H'=>Q .non H',?_,fun _ _ h=>h⟩
     refine⟨_,rfl,_,_,rfl,rfl,by show(0:Int) <3;decide,rfl,_,rfl,jM (fun _=>?_) (fun _=>?_)⟩
     ·refine⟨_,rfl,_,rfl,by show 0≤sizeLine;exact szl,fun a1 n1=>⟨_,rfl,_,rfl,by show 2≤sizeLine;exact szl,fun a2 n2=>?_⟩⟩
      obtain⟨D9,z1,z2,z3⟩:=D1.two n1 n2 (y:=.lst [.str one,.str other])
      refine⟨d,_,_,os1,_,8,a1,a2,[],[one,other],2,rfl,D9,z1,z2,by omega,rfl,by simp,rfl,rfl,by omega,by omega,by omega,fun newl H8 hn s8 D8=>?_⟩
      exact fin (s1.trans (z3.trans s8)) D8 (perm2 p1) (by omega) (by omega) (by omega)
     ·refine⟨_,rfl,_,rfl,by show 2≤sizeLine;exact szl,fun a0 n0=>?_⟩
      have s0:=aD (o:=.lst [.str "add",.str "less"]) n0
      have D0:=D1.keep s0
      have c0:=D1.cut s0
      refine⟨_,rfl,_,_,rfl,rfl,by show(0:Int) <2;decide,?_⟩
      obtain⟨i,ei,hi⟩:=pick2 (cH c 6 % 6)
      refine⟨a0,_,_,_,rfl,rfl,SqL.of au,ei,?_⟩
      generalize upd H1 a0 (.lst [.str "add",.str "less"])=H0 at s0 D0 c0 ⊢
      have hN:([]:List Int).length=cN i:=by rcases hi with rfl | rfl <;> rfl
      have hI:[one,other].length=cI i:=by rcases hi with rfl | rfl <;> rfl
      have hO:1=cO i:=by rcases hi with rfl | rfl <;> rfl
      refine⟨by show 0≤sizeLine;exact szl,fun a1 n1=>⟨_,rfl,_,rfl,by show 2≤sizeLine;exact szl,fun a2 n2=>?_⟩⟩
      obtain⟨D9,z1,z2,z3⟩:=D0.two n1 n2 (y:=.lst [.str one,.str other])
      refine⟨d,_,_,os1,_,i,a1,a2,[],[one,other],1,rfl,D9,z1,z2,by omega,hN,by simp,hI,hO,by omega,by omega,by omega,fun newl H8 hn s8 D8=>?_⟩
      exact fin (s1.trans (c0.trans (z3.trans s8))) D8 (perm2 p1) (by omega) (by omega) (by omega)
   ·refine⟨_,rfl,d.S,_,2,_,rfl,rfl,D1.seqS,aN (j:=2) rfl,.ref d.O,os1.length,rfl,.inl ⟨_,SqL.of D1.opens,by simp⟩,_,_,rfl,rfl,_,rfl,jM (fun h3=>?_) (fun _=>b)⟩
    have hne1:os1≠[]:=fun z=>by rw [z] at h3;exact absurd (of_decide_eq_true h3) (by decide)
    refine⟨_,rfl,_,rfl,_,_,rfl,d,ls,ps,os1,_,rfl,D1,hne1,by omega,fun third os2 H2 p2 s2 D2=>?_⟩
    have l2:=p2.length_eq
    rw [List.length_cons] at l2
    refine⟨_,rfl,_,rfl,by show 0≤sizeLine;exact szl,fun a1 n1=>⟨_,rfl,_,rfl,_,rfl,by show 3≤sizeLine;exact szl,fun a2 n2=>?_⟩⟩
    obtain⟨D9,z1,z2,z3⟩:=D2.two n1 n2 (y:=.lst [.str one,.str other,.str third])
    refine⟨d,_,_,os2,_,9,a1,a2,[],[one,other,third],1,rfl,D9,z1,z2,by omega,rfl,by simp,rfl,rfl,by omega,by omega,by omega,fun newl H8 hn s8 D8=>?_⟩
    exact fin (s1.trans (s2.trans (z3.trans s8))) D8 (perm3 p1 p2) (by omega) (by omega) (by omega)
def sp__law_loop:Sp:=fun vs H Q _=>∃(d:Dw) (ls:List LaneD) (ps:List PD) (os:List Str) (c:Int) (one:Str) (back:List Str),vs=[.ref d.S,.int c,.str one]∧DAt d H ls ps os∧Drawn.WF (vI ls ps (one:: os) back)∧os.length≤3∧ls.length≤20∧ps.length≤22∧∀ls' ps' os' H',Nxt d H H' ls ps back ls' ps' os'→Q .non H'
theorem sc__law_loop:FnScope ["_law_state", "_law_cell_here", "_law_one", "_law_own", "_law_fresh"] ["_law_state", "_law_cell_here", "_law_one"] (aA j9):=⟨rfl,rfl,rfl,by decide +kernel,rfl,by decide +kernel,by decide +kernel⟩
theorem ok__law_loop (T:Txt w K mg t):FnOk P w K mg base CX0 4 t.uH t.sX ["_law_state", "_law_cell_here", "_law_one"] (sp__law_loop):=by
 have sc:=sc__law_loop
 refine T.zT.ok sc (fun vs H Q E h=>?_) (fun cdv A outer s H vs Q E hr h=>?_)
 ·obtain⟨d,ls,ps,os,c,one,back,rfl,_⟩:=h
  rfl
 ·obtain⟨d,ls,ps,os,c,one,back,rfl,D,w,ho,hls,hps,k⟩:=h
  refine⟨_,(aB (aX (i:=3) sc.nd rfl (Or.inl rfl) (aJ (lF T) (hr.mono (by decide)) (by rfl) T.mX T.jZ.kp T.nj .nil aO (aj (pv 0) (aj (aJ (bj T) (hr.mono (by decide)) (by rfl) T.bC T.bx.kp T.bD .nil aO (aj (pv 1) (aj az aq ao) ak)) (aj iT aq ao) aV) ak)))
   (aB (aX (i:=4) sc.nd rfl (Or.inl rfl) (aJ (lF T) (hr.mono (by decide)) (by rfl) T.mX T.jZ.kp T.nj .nil aO (aj (pv 0) (aj (aJ (bj T) (hr.mono (by decide)) (by rfl) T.bC T.bx.kp T.bD .nil aO (aj (pv 1) (aj az aq ao) ak)) (aj iT aq ao) aV) ak)))
   (aB (bF (oU PySem.F.plainAttrs_list PySem.F.slot_list_append PySem.F.type_list_append j0 (aW bN (pv 0) az (fun _ _=>rfl)) (aj (cV (aj bH (aj (aJ (o8 T) (hr.mono (by decide)) (by rfl) T.qH T.m9.kp T.qC .nil aO (aj (aW bN (pv 0) az (fun _ _=>rfl)) (aj (bL cj (by rfl) T.iw dX (aj (aW bN (pv 0) az (fun _ _=>rfl)) aq aK)) aq aV) aK)) (aj (bA aq) (aj (bA (aj (pv 2) (aj (pv 3) aq ak) ak)) (aj (bA (aj (pv 3) (aj (pv 4) aq ak) ak)) aq bw) bw) bw) aV) ao)) aq bW)))
   (aC (bF (oU PySem.F.plainAttrs_list PySem.F.slot_list_append PySem.F.type_list_append j0 (aW bN (pv 0) az (fun _ _=>rfl)) (aj (pv 4) aq ak))))))),?_⟩
  have hl:sizeLine=16777216:=sizeLine_eq
  refine⟨_,rfl,_,rfl,_,_,rfl,d,ls,ps,os,_,true,rfl,D,by omega,fun l1 H1 e1 s1 D1=>?_⟩
  refine⟨_,rfl,_,rfl,_,_,rfl,d,ls ++ [l1],ps,os,_,false,rfl,D1,by rw [List.length_append,List.length_singleton];omega,fun l2 H2 e2 s2 D2=>?_⟩
  have s12:=s1.trans s2
  obtain⟨xs,eP,aP⟩:=D2.parts
  have xl:=aP.length
  refine⟨_,rfl,d.S,_,1,_,rfl,rfl,D2.seqS,aN (j:=1) rfl,.inl ⟨rfl,_,SqL.of eP⟩,?_⟩
  refine⟨_,rfl,d.S,_,4,_,rfl,rfl,D2.seqS,aN (j:=4) rfl,?_⟩
  refine⟨_,rfl,d.S,_,1,_,rfl,rfl,D2.seqS,aN (j:=1) rfl,.ref d.P,ps.length,rfl,.inl ⟨_,SqL.of eP,xl.symm⟩,?_⟩
  refine⟨d.c4,ps.length,rfl,by omega,fun H3 s3=>?_⟩
  have D3:=D2.keep s3
  have c3:=s12.trans (D2.cut s3)
  have eP3:=s3 _ _ eP
  refine⟨by show 0≤sizeLine;exact szl,fun a1 n1=>⟨_,rfl,_,rfl,by show 2≤sizeLine;exact szl,fun a2 n2=>⟨_,rfl,_,rfl,by show 2≤sizeLine;exact szl,fun a3 n3=>⟨by show 5≤sizeLine;exact szl,fun q nq=>?_⟩⟩⟩⟩
  obtain⟨D4,z1,z2,z3⟩:=D3.two n1 n2 (y:=.lst [.str one,.str l1.name])
  have t4:aQ H3 (upd (upd H3 a1 (.lst [])) a2 (.lst [.str one,.str l1.name])):=(aD n1).trans (aD n2)
  have eP4:=t4 _ _ eP3
  generalize upd (upd H3 a1 (.lst [])) a2 (.lst [.str one,.str l1.name])=H4 at D4 z1 z2 z3 t4 eP4 n3 nq ⊢
  obtain⟨D5,y1,y2,y3⟩:=D4.two n3 nq (y:=.tup [.str "order",.str (cU d.c4 ps.length),.ref a1,.ref a2,.ref a3])
  have t5:aQ H4 (upd (upd H4 a3 (.lst [.str l1.name,.str l2.name])) q (.tup [.str "order",.str (cU d.c4 ps.length),.ref a1,.ref a2,.ref a3])):=(aD n3).trans (aD nq)
  have eP5:=t5 _ _ eP4
  generalize upd (upd H4 a3 (.lst [.str l1.name,.str l2.name])) q (.tup [.str "order",.str (cU d.c4 ps.length),.ref a1,.ref a2,.ref a3])=H5 at D5 y1 y2 y3 t5 eP5 ⊢
  have c5:=c3.trans (z3.trans y3)
  refine⟨d.P,xs,_,rfl,rfl,eP5,by omega,?_⟩
  have D6:=D5.part (p:=⟨8,cU d.c4 ps.length,[],[one,l1.name],[l1.name,l2.name]⟩) ⟨q,a1,a2,a3,rfl,y2,y3 _ _ z1,y3 _ _ z2,y1⟩ ⟨by show 8 <11;omega,rfl,rfl,rfl,by simp⟩ rfl eP5
  have c6:bK d.E (upd H5 d.P (.lst (xs ++ [.ref q])))=bK d.E H5:=dF (by simp)
  generalize upd H5 d.P (.lst (xs ++ [.ref q]))=H6 at D6 c6 ⊢
  refine⟨_,rfl,d.S,_,2,_,rfl,rfl,D6.seqS,aN (j:=2) rfl,.inl ⟨rfl,_,SqL.of D6.opens⟩,_,rfl,d.O,_,_,rfl,rfl,D6.opens,by rw [List.length_map];omega,?_⟩
  have D7:=D6.open (os':=os ++ [l2.name])
  rw [List.map_append] at D7
  have nd:=D7.nod (by rw [List.length_append,List.length_append,List.length_singleton,List.length_singleton];omega)
  have wl:=w.loop (p:=⟨8,cU d.c4 ps.length,[],[one,l1.name],[l1.name,l2.name]⟩) (rest:=os) (one:=one) (own:=l1.name) (fresh:=l2.name) rfl rfl (.refl _) (by simpa using nd)
  refine k _ _ _ _ ⟨by rw [dF (by simp),c6];exact c5,D7,by simpa [vI] using wl,by rw [List.length_append,List.length_singleton];omega,by rw [List.length_append,List.length_singleton];omega,by simp,by simp⟩
def sp__law_step:Sp:=fun vs H Q _=>∃(d:Dw) (ls:List LaneD) (ps:List PD) (os:List Str) (c:Int) (back:List Str) (odd:Bool),vs=[.ref d.S,.int c,.bl odd]∧DAt d H ls ps os∧Drawn.WF (vI ls ps os back)∧os≠[]∧os.length≤4∧ls.length≤20∧ps.length≤22∧∀ls' ps' os' H',Nxt d H H' ls ps back ls' ps' os'→Q .non H'
theorem sc__law_step:FnScope ["_law_state", "_law_cell_here", "_law_odd", "_law_way", "_law_one"] ["_law_state", "_law_cell_here", "_law_odd"] (aA jV):=⟨rfl,rfl,rfl,by decide +kernel,rfl,by decide +kernel,by decide +kernel⟩
theorem ok__law_step (T:Txt w K mg t):FnOk P w K mg base CX0 6 t.vW t.ur ["_law_state", "_law_cell_here", "_law_odd"] (sp__law_step):=by
 have sc:=sc__law_step
 refine T.z8.ok sc (fun vs H Q E h=>?_) (fun cdv A outer s H vs Q E hr h=>?_)
 ·obtain⟨d,ls,ps,os,c,back,odd,rfl,_⟩:=h
  rfl
 ·obtain⟨d,ls,ps,os,c,back,odd,rfl,D,w,hne,ho,hls,hps,k⟩:=h
  refine⟨_,(aB (aX (i:=3) sc.nd rfl (Or.inl rfl) (bh cQ (aJ (bj T) (hr.mono (by decide)) (by rfl) T.bC T.bx.kp T.bD .nil aO (aj (pv 1) (aj az aq ao) ak)) az))
   (aB (aX (i:=4) sc.nd rfl (Or.inl rfl) (aJ (ul T) (hr.mono (by decide)) (by rfl) T.vh T.qI.kp T.u9 .nil aO (aj (pv 0) (aj (aJ (bj T) (hr.mono (by decide)) (by rfl) T.bC T.bx.kp T.bD .nil aO (aj (pv 1) (aj az aq ao) ak)) aq aV) ak)))
   (aC (gf (cg (PW.pt (xP (bz wQ (pv 3) az (bU _)) (vZ (bz wQ (bL cj (by rfl) T.iw dX (aj (aW bN (pv 0) az (fun _ _=>rfl)) aq aK)) az (bU _)))))
    (aC (bF (aJ (cL T) (hr.mono (by decide)) (by rfl) T.dq T.cZ.kp T.du .nil aO (aj (pv 0) (aj (pv 1) (aj bH (aj (bA aq) (aj (bA (aj (pv 4) aq ak)) (aj az aq ao) bw) bw) ao) ak) ak))))
    (aC (gf (cg (bz jd (pv 3) az (bU _))
     (aB (bF (aJ (cL T) (hr.mono (by decide)) (by rfl) T.dq T.cZ.kp T.du .nil aO (aj (pv 0) (aj (pv 1) (aj bH (aj (bA aq) (aj (bA (aj (pv 4) aq ak)) (aj az aq ao) bw) bw) ao) ak) ak)))
     (aC (bF (aJ (cL T) (hr.mono (by decide)) (by rfl) T.dq T.cZ.kp T.du .nil aO (aj (pv 0) (aj (pv 1) (aj bH (aj (bA aq) (aj (bA (aj (pe_bm0 PySem.F.plainAttrs_list PySem.F.slot_list_pop PySem.F.type_list_pop mt_pop (aW bN (pv 0) az (fun _ _=>rfl))) aq aV)) (aj az aq ao) bw) bw) ao) ak) ak)))))
     (aC (gf (cg (PW.pt (xP (bz wQ (pv 3) az (bU _)) (vZ (bz op_gt (bL cj (by rfl) T.iw dX (aj (aW bN (pv 0) az (fun _ _=>rfl)) aq aK)) az (bU _)))))
      (aC (bF (aJ (ok__law_two T) (hr.mono (by decide)) (by rfl) T.m__law_two T.Bb.kp T.b__law_two .nil aO (aj (pv 0) (aj (pv 1) (aj (pv 4) (aj (pv 2) aq ak) ak) ak) ak))))
      (aC (gf (cg (bz wQ (pv 3) az (bU _))
       (aC (bF (aJ (cL T) (hr.mono (by decide)) (by rfl) T.dq T.cZ.kp T.du .nil aO (aj (pv 0) (aj (pv 1) (aj bH (aj (bA (aj (aJ (mV T) (hr.mono (by decide)) (by rfl) T.oZ T.lq.kp T.o9 .nil aO (aj (pv 1) (aj az aq ao) ak)) (aj (aJ (mV T) (hr.mono (by decide)) (by rfl) T.oZ T.lq.kp T.o9 .nil aO (aj (pv 1) (aj az aq ao) ak)) aq aV) aV)) (aj (bA (aj (pv 4) aq ak)) (aj az aq ao) bw) bw) ao) ak) ak))))
       (aC (gf (cg (bz jd (pv 3) az (bU _))
        (aC (bF (aJ (cL T) (hr.mono (by decide)) (by rfl) T.dq T.cZ.kp T.du .nil aO (aj (pv 0) (aj (pv 1) (aj bH (aj (bA (aj (aJ (mV T) (hr.mono (by decide)) (by rfl) T.oZ T.lq.kp T.o9 .nil aO (aj (pv 1) (aj az aq ao) ak)) aq aV)) (aj (bA (aj (pv 4) aq ak)) (aj az aq ao) bw) bw) ao) ak) ak))))
        (aC (gf (cg (bz jd (bh cQ (aJ (bj T) (hr.mono (by decide)) (by rfl) T.bC T.bx.kp T.bD .nil aO (aj (pv 1) (aj az aq ao) ak)) az) az (bU _))
         (aC (bF (aJ (ok__law_loop T) (hr.mono (by decide)) (by rfl) T.m__law_loop T.zT.kp T.b__law_loop .nil aO (aj (pv 0) (aj (pv 1) (aj (pv 4) aq ak) ak) ak))))
         (aC (bF (aJ (cL T) (hr.mono (by decide)) (by rfl) T.dq T.cZ.kp T.du .nil aO (aj (pv 0) (aj (pv 1) (aj bH (aj (bA aq) (aj (bA (aj (pv 4) aq ak)) (aj az aq ao) bw) bw) ao) ak) ak)))))))))))))))))))))))),?_⟩
  have hl:sizeLine=16777216:=sizeLine_eq
  refine⟨_,rfl,_,_,rfl,_,_,rfl,rfl,by show(0:Int) <9;decide,?_⟩
  refine⟨_,rfl,_,rfl,_,_,rfl,d,ls,ps,os,_,rfl,D,hne,by omega,fun one os1 H1 p1 s1 D1=>?_⟩
  have w1:Drawn.WF (vI ls ps (one:: os1) back):=WFperm w p1
  have lo:=p1.length_eq
  rw [List.length_cons] at lo
  have fin:∀{i:Nat} {nm:Str} {nums:List Int} {newl:List LaneD} {ins os2:List Str} {H':Hp},aQ (bK d.E H) (bK d.E H')→DAt d H' (ls ++ newl) (ps ++ [⟨i,nm,nums,ins,newl.map (·.name)⟩]) (os2 ++ newl.map (·.name))→(one:: os1).Perm (ins ++ os2)→newl.length≠0→newl.length≤2→os2.length+newl.length≤4→Q .non H':=fun s DD hp h1 h2 h4=>
   k _ _ _ _ ⟨s,DD,rQ w1 rfl DD hp h1 (by rw [List.length_append];omega),by rw [List.length_append,List.length_map];omega,by rw [List.length_append,List.length_map];omega,by rw [List.length_append];omega,by rw [List.length_append,List.length_singleton];omega⟩
  refine⟨fun _ H'=>Q .non H',?_,fun _ _ h=>h⟩
  refine⟨_,rfl,_,_,rfl,rfl,_,rfl,Bm ?_ (fun h2 b=>?_) (fun b=>b)⟩
  ·refine⟨fun _ H'=>Q .non H',?_,fun _ _ h=>h⟩
   refine⟨_,rfl,rfl,_,rfl,jM (fun _=>?_) (fun _=>?_)⟩
   ·refine⟨_,rfl,_,rfl,by show 0≤sizeLine;exact szl,fun a1 n1=>⟨_,rfl,by show 1≤sizeLine;exact szl,fun a2 n2=>?_⟩⟩
    obtain⟨D9,z1,z2,z3⟩:=D1.two n1 n2 (y:=.lst [.str one])
    refine⟨d,_,_,os1,_,3,a1,a2,[],[one],2,rfl,D9,z1,z2,by omega,rfl,by simp,rfl,rfl,by omega,by omega,by omega,fun newl H8 hn s8 D8=>?_⟩
    obtain⟨l1,l2,rfl⟩:∃l1 l2,newl=[l1,l2]:=by
     match newl,hn with
     | [x,y],_=>exact⟨x,y,rfl⟩
    have w8:=rQ w1 rfl D8 (.refl _) (by simp) (by simp;omega)
    have s18:=s1.trans (z3.trans s8)
    clear D9 z1 z2 z3 n1 n2 s8
    refine⟨_,rfl,_,rfl,by show 0≤sizeLine;exact szl,fun a3 n3=>?_⟩
    have s3:=aD (o:=.lst []) n3
    have D3:=D8.keep s3
    have c3:=s18.trans (D8.cut s3)
    have o3:=D8.out n3
    have e3:upd H8 a3 (.lst []) a3=some (.lst ([]:List V)):=au
    generalize upd H8 a3 (.lst [])=H3 at s3 D3 c3 e3 ⊢
    have eo:((os1 ++ [l1,l2].map (·.name)).map V.str)=((os1 ++ [l1.name]).map V.str) ++ [.str l2.name]:=by simp
    have hop:=D3.opens
    rw [eo] at hop
    refine⟨_,rfl,d.S,_,2,_,rfl,rfl,D3.seqS,aN (j:=2) rfl,.inl ⟨rfl,_,SqL.of D3.opens⟩,d.O,_,.str l2.name,rfl,rfl,hop,by rw [List.length_append,List.length_singleton,Nat.add_sub_cancel];exact List.getElem?_concat_length,?_⟩
    rw [List.dropLast_concat]
    have D4:=D3.open (os':=os1 ++ [l1.name])
    have c4:bK d.E (upd H3 d.O (.lst ((os1 ++ [l1.name]).map V.str)))=bK d.E H3:=dF (by simp)
    have e4:=fY e3 o3
    generalize upd H3 d.O (.lst ((os1 ++ [l1.name]).map V.str))=H4 at D4 c4 ⊢
    refine⟨by show 1≤sizeLine;exact szl,fun a4 n4=>?_⟩
    have s5:=aD (o:=.lst [.str l2.name]) n4
    have D5:=D4.keep s5
    have c5:=D4.cut s5
    rw [c4] at c5
    have e5:=fY (E:=d.E) (H:=upd H4 a4 (.lst [.str l2.name])) au (D4.out n4)
    refine⟨d,ls ++ [l1,l2],_,os1 ++ [l1.name],_,1,a3,a4,[],[l2.name],0,rfl,D5,c5 _ _ e4,e5,by omega,rfl,by simp,rfl,rfl,by simp;omega,by simp;omega,by simp;omega,fun newl2 H9 hn2 s9 D9=>?_⟩
    have hz:newl2=[]:=List.length_eq_zero_iff.mp hn2
    subst hz
    have wt:=w8.take (p:=⟨1,cU d.c4 (ps ++ [(⟨3,cU d.c4 ps.length,[],[one],[l1,l2].map (·.name)⟩:PD)]).length,[],[l2.name],[]⟩) (rest:=os1 ++ [l1.name]) (y:=l2.name) (x:=l1.name) rfl rfl (by
      show(os1 ++ [l1.name,l2.name]).Perm (l2.name:: (os1 ++ [l1.name]))
      rw [show os1 ++ [l1.name,l2.name]=(os1 ++ [l1.name]) ++ [l2.name] by simp]
      exact List.perm_append_comm) (by simp) (Drawn.Conn.part (p:=⟨3,cU d.c4 ps.length,[],[one],[l1,l2].map (·.name)⟩) (by simp) (by simp) (by simp))
    rw [List.map_nil,List.append_nil,List.append_nil] at D9
    exact k _ _ _ _ ⟨c3.trans (c5.trans s9),D9,wt,by simp,by simp;omega,by simp,by simp⟩
   ·refine⟨fun _ H'=>Q .non H',?_,fun _ _ h=>h⟩
    refine⟨_,rfl,_,_,rfl,rfl,_,rfl,Bm ?_ (fun h2 b=>?_) (fun b=>b)⟩
    ·refine⟨fun _ H'=>Q .non H',?_,fun _ _ h=>h⟩
     refine⟨_,rfl,_,_,rfl,rfl,_,rfl,jM (fun _=>?_) (fun _=>?_)⟩
     ·refine⟨_,rfl,_,rfl,_,rfl,c,8,rfl,_,rfl,c,9,rfl,by show 2≤sizeLine;exact szl,fun a1 n1=>⟨_,rfl,by show 1≤sizeLine;exact szl,fun a2 n2=>?_⟩⟩
      obtain⟨D9,z1,z2,z3⟩:=D1.two n1 n2 (y:=.lst [.str one])
      refine⟨d,_,_,os1,_,4,a1,a2,[rU c 8,rU c 9],[one],1,rfl,D9,z1,z2,by omega,rfl,?_,rfl,rfl,by omega,by omega,by omega,fun newl H8 hn s8 D8=>?_⟩
      ·intro v hv
       rcases List.mem_cons.mp hv with rfl | hv
       ·exact wu _ _
       ·rw [List.mem_singleton] at hv
        subst hv
        exact wu _ _
      exact fin (s1.trans (z3.trans s8)) D8 (.refl _) (by omega) (by omega) (by omega)
     ·refine⟨fun _ H'=>Q .non H',?_,fun _ _ h=>h⟩
      refine⟨_,rfl,rfl,_,rfl,jM (fun _=>?_) (fun _=>?_)⟩
      ·refine⟨_,rfl,_,rfl,_,rfl,c,8,rfl,by show 1≤sizeLine;exact szl,fun a1 n1=>⟨_,rfl,by show 1≤sizeLine;exact szl,fun a2 n2=>?_⟩⟩
       obtain⟨D9,z1,z2,z3⟩:=D1.two n1 n2 (y:=.lst [.str one])
       refine⟨d,_,_,os1,_,5,a1,a2,[rU c 8],[one],1,rfl,D9,z1,z2,by omega,rfl,?_,rfl,rfl,by omega,by omega,by omega,fun newl H8 hn s8 D8=>?_⟩
       ·intro v hv
        rw [List.mem_singleton] at hv
        subst hv
        exact wu _ _
       exact fin (s1.trans (z3.trans s8)) D8 (.refl _) (by omega) (by omega) (by omega)
      ·refine⟨fun _ H'=>Q .non H',?_,fun _ _ h=>h⟩
       refine⟨_,rfl,_,_,rfl,_,_,rfl,rfl,by show(0:Int) <2;decide,rfl,_,rfl,jM (fun _=>?_) (fun _=>?_)⟩
       ·exact⟨_,rfl,_,rfl,_,rfl,d,ls,ps,os1,c,one,back,rfl,D1,w1,by omega,hls,hps,fun ls' ps' os' H' X=>k ls' ps' os' H' ⟨s1.trans X.cut,X.at',X.wf,X.o1,X.o4,X.l2,X.p2⟩⟩
       ·refine⟨_,rfl,_,rfl,by show 0≤sizeLine;exact szl,fun a1 n1=>⟨_,rfl,by show 1≤sizeLine;exact szl,fun a2 n2=>?_⟩⟩
        obtain⟨D9,z1,z2,z3⟩:=D1.two n1 n2 (y:=.lst [.str one])
        refine⟨d,_,_,os1,_,2,a1,a2,[],[one],1,rfl,D9,z1,z2,by omega,rfl,by simp,rfl,rfl,by omega,by omega,by omega,fun newl H8 hn s8 D8=>?_⟩
        exact fin (s1.trans (z3.trans s8)) D8 (.refl _) (by omega) (by omega) (by omega)
    ·refine⟨_,rfl,d.S,_,2,_,rfl,rfl,D1.seqS,aN (j:=2) rfl,.ref d.O,os1.length,rfl,.inl ⟨_,SqL.of D1.opens,by simp⟩,_,_,rfl,rfl,_,rfl,jM (fun h3=>?_) (fun _=>b)⟩
     have hne1:os1≠[]:=fun z=>by rw [z] at h3;exact absurd (of_decide_eq_true h3) (by decide)
     exact⟨_,rfl,_,rfl,_,rfl,_,rfl,d,ls,ps,os1,c,one,back,odd,rfl,D1,w1,hne1,by omega,hls,hps,fun ls' ps' os' H' X=>k ls' ps' os' H' ⟨s1.trans X.cut,X.at',X.wf,X.o1,X.o4,X.l2,X.p2⟩⟩
  ·refine⟨_,rfl,d.S,_,2,_,rfl,rfl,D1.seqS,aN (j:=2) rfl,.ref d.O,os1.length,rfl,.inl ⟨_,SqL.of D1.opens,by simp⟩,_,_,rfl,rfl,_,rfl,jM (fun h3=>?_) (fun _=>b)⟩
   have h3:os1.length <3:=by have:=of_decide_eq_true h3;omega
   refine⟨_,rfl,_,rfl,by show 0≤sizeLine;exact szl,fun a1 n1=>⟨_,rfl,by show 1≤sizeLine;exact szl,fun a2 n2=>?_⟩⟩
   obtain⟨D9,z1,z2,z3⟩:=D1.two n1 n2 (y:=.lst [.str one])
   refine⟨d,_,_,os1,_,3,a1,a2,[],[one],2,rfl,D9,z1,z2,by omega,rfl,by simp,rfl,rfl,by omega,by omega,by omega,fun newl H8 hn s8 D8=>?_⟩
   exact fin (s1.trans (z3.trans s8)) D8 (.refl _) (by omega) (by omega) (by omega)
def sp__law_closed:Sp:=fun vs H Q _=>∃(d:Dw) (ls:List LaneD) (ps:List PD) (os:List Str) (c:Int) (B:Addr) (back:List Str),vs=[.ref d.S,.int c,.ref B]∧DAt d H ls ps os∧Drawn.WF (vI ls ps os back)∧bK d.E H B=some (.lst (back.map V.str))∧os≠[]∧os.length≤4∧back.length≤2∧ls.length≤12∧ps.length≤10∧∀ls' ps' H',aQ (bK d.E H) (bK d.E H')→DAt d H' ls' ps' []→Whole (ls'.map (·.name)) ps'→ls'.length≤17→ls.length≤ls'.length→ps'.length≤16→1≤ps'.length→Q .non H'
theorem sc__law_closed:FnScope ["_law_state", "_law_cell_here", "_law_back", "_law_one", "_law_other", "_law_kind", "_law_lane_here", "_law_fresh"] ["_law_state", "_law_cell_here", "_law_back"] (aA iJ):=⟨rfl,rfl,rfl,by decide +kernel,rfl,by decide +kernel,by decide +kernel⟩
theorem ok__law_closed (T:Txt w K mg t):FnOk P w K mg base CX0 5 t.qT t.qd ["_law_state", "_law_cell_here", "_law_back"] (sp__law_closed):=by
 have sc:=sc__law_closed
 refine T.wD.ok sc (fun vs H Q E h=>?_) (fun cdv A outer s H vs Q E hr h=>?_)
 ·obtain⟨d,ls,ps,os,c,B,back,rfl,_⟩:=h
  rfl
 ·obtain⟨d,ls,ps,os,c,B,back,rfl,D,w,eB,hne,ho,hb,hls,hps,k⟩:=h
  refine⟨_,(aB (yc PassesOwn.never (bz op_gt (bL cj (by rfl) T.iw dX (aj (aW bN (pv 0) az (fun _ _=>rfl)) aq aK)) az (bU _))
    (aB (aX (i:=3) sc.nd rfl (Or.inl rfl) (oU PySem.F.plainAttrs_list PySem.F.slot_list_pop PySem.F.type_list_pop Ao (aW bN (pv 0) az (fun _ _=>rfl)) (aj az aq ao)))
    (aB (aX (i:=4) sc.nd rfl (Or.inl rfl) (oU PySem.F.plainAttrs_list PySem.F.slot_list_pop PySem.F.type_list_pop Ao (aW bN (pv 0) az (fun _ _=>rfl)) (aj az aq ao)))
    (aB (aX (i:=5) sc.nd rfl (Or.inl rfl) (aW bN (bA (aj bH (aj bH (aj bH aq ao) ao) ao)) (bh cQ (aJ (bj T) (hr.mono (by decide)) (by rfl) T.bC T.bx.kp T.bD .nil aO (aj (pv 1) (aj (bL cj (by rfl) T.iw dX (aj (aW bN (pv 0) az (fun _ _=>rfl)) aq aK)) aq aV) ak)) az) (fun _ _=>rfl)))
    (aC (bF (aJ (cL T) (hr.mono (by decide)) (by rfl) T.dq T.cZ.kp T.du .nil aO (aj (pv 0) (aj (aJ (bj T) (hr.mono (by decide)) (by rfl) T.bC T.bx.kp T.bD .nil aO (aj (pv 1) (aj (bh dN az (bL cj (by rfl) T.iw dX (aj (aW bN (pv 0) az (fun _ _=>rfl)) aq aK))) aq bY) ak)) (aj (pv 5) (aj (bA aq) (aj (bA (aj (pv 3) (aj (pv 4) aq ak) ak)) (aj az aq ao) bw) bw) ak) aV) ak))))))))
   (aB (gQ PassesOwn.never rfl (iQ (pv 2)) (dz (i:=6) sc.nd rfl (Or.inl rfl))
    (aB (aX (i:=3) sc.nd rfl (Or.inl rfl) (pe_bm0 PySem.F.plainAttrs_list PySem.F.slot_list_pop PySem.F.type_list_pop mt_pop (aW bN (pv 0) az (fun _ _=>rfl))))
    (aB (aX (i:=7) sc.nd rfl (Or.inl rfl) (aJ (lF T) (hr.mono (by decide)) (by rfl) T.mX T.jZ.kp T.nj .nil aO (aj (pv 0) (aj (aJ (bj T) (hr.mono (by decide)) (by rfl) T.bC T.bx.kp T.bD .nil aO (aj (pv 1) (aj (bh dN az (bL cj (by rfl) T.iw dX (aj (aW bN (pv 0) az (fun _ _=>rfl)) aq aK))) aq bY) ak)) (aj iT aq ao) aV) ak)))
    (aB (bF (oU PySem.F.plainAttrs_list PySem.F.slot_list_append PySem.F.type_list_append j0 (aW bN (pv 0) az (fun _ _=>rfl)) (aj (cV (aj bH (aj (aJ (o8 T) (hr.mono (by decide)) (by rfl) T.qH T.m9.kp T.qC .nil aO (aj (aW bN (pv 0) az (fun _ _=>rfl)) (aj (bL cj (by rfl) T.iw dX (aj (aW bN (pv 0) az (fun _ _=>rfl)) aq aK)) aq aV) aK)) (aj (bA aq) (aj (bA (aj (pv 3) aq ak)) (aj (bA (aj (pv 6) (aj (pv 7) aq ak) ak)) aq bw) bw) bw) aV) ao)) aq bW)))
    (aC (bF (oU PySem.F.plainAttrs_list PySem.F.slot_list_append PySem.F.type_list_append j0 (aW bN (pv 0) az (fun _ _=>rfl)) (aj (pv 7) aq ak))))))))
   (aC (bF (aJ (cL T) (hr.mono (by decide)) (by rfl) T.dq T.cZ.kp T.du .nil aO (aj (pv 0) (aj (pv 1) (aj bH (aj (bA aq) (aj (bA (aj (pe_bm0 PySem.F.plainAttrs_list PySem.F.slot_list_pop PySem.F.type_list_pop mt_pop (aW bN (pv 0) az (fun _ _=>rfl))) aq aV)) (aj az aq ao) bw) bw) ao) ak) ak)))))),?_⟩
  have hl:sizeLine=16777216:=sizeLine_eq
  have hpos:0 <os.length:=List.length_pos_iff.mpr hne
  refine hide fun u hu=>?_
  refine Bq (fun σ H1=>∃(ls1:List LaneD) (ps1:List PD) (os1:List Str) (v3 v4 v5:Option V),σ=[some (.ref d.S),some (.int c),some (.ref B),v3,v4,v5,none,none]∧aQ (bK d.E H) (bK d.E H1)∧DAt d H1 ls1 ps1 os1∧Drawn.WF (vI ls1 ps1 os1 back)∧1≤os1.length∧os1.length≤4∧ls.length≤ls1.length∧ls1.length+os1.length≤16∧ps1.length+os1.length≤14)
   (fun _ H1=>lenAt H1 d.O) ⟨ls,ps,os,none,none,none,rfl,aQ.refl _,D,w,by omega,ho,Nat.le_refl _,by omega,by omega⟩ ?_ ?_
  ·rintro σ H1 ⟨ls1,ps1,os1,v3,v4,v5,rfl,s1,D1,w1,o1,o4,hl1,hl2,hp2⟩
   refine⟨_,rfl,d.S,_,2,_,rfl,rfl,D1.seqS,aN (j:=2) rfl,.ref d.O,os1.length,rfl,.inl ⟨_,SqL.of D1.opens,by simp⟩,_,_,rfl,rfl,_,rfl,jM (fun h3=>?_) (fun h3=>?_)⟩
   ·have h3:1 <os1.length:=by have:=of_decide_eq_true h3;omega
    obtain⟨one,other,os2,rfl⟩:∃one other os2,os1=one:: other:: os2:=by
     match os1,h3 with
     | x:: y:: r,_=>exact⟨x,y,r,rfl⟩
    rw [List.length_cons,List.length_cons] at h3 o1 o4 hl2 hp2
    have lm:=yj D1.opens
    refine hideW fun De hD u hu=>?_
    refine⟨_,rfl,d.S,_,2,_,rfl,rfl,D1.seqS,aN (j:=2) rfl,.inl ⟨rfl,_,SqL.of D1.opens⟩,d.O,_,0,0,.str one,rfl,rfl,D1.opens,by decide,by decide,ix_nat (by simp),rfl,?_⟩
    have D2:=D1.open (os':=other:: os2)
    have c2:bK d.E (upd H1 d.O (.lst ((other:: os2).map V.str)))=bK d.E H1:=dF (by simp)
    refine bJ (v:=u) hu fun u hu=>?_
    change zu _ _ _ _ (upd H1 d.O (.lst ((other:: os2).map V.str)))
    generalize upd H1 d.O (.lst ((other:: os2).map V.str))=H2 at D2 c2 ⊢
    refine⟨_,rfl,d.S,_,2,_,rfl,rfl,D2.seqS,aN (j:=2) rfl,.inl ⟨rfl,_,SqL.of D2.opens⟩,d.O,_,0,0,.str other,rfl,rfl,D2.opens,by decide,by decide,ix_nat (by simp),rfl,?_⟩
    have D3:=D2.open (os':=os2)
    have c3:bK d.E (upd H2 d.O (.lst (os2.map V.str)))=bK d.E H2:=dF (by simp)
    refine bJ (v:=u) hu fun u hu=>?_
    change zu _ _ _ _ (upd H2 d.O (.lst (os2.map V.str)))
    generalize upd H2 d.O (.lst (os2.map V.str))=H3 at D3 c3 ⊢
    have s3:aQ (bK d.E H) (bK d.E H3):=by rw [c3,c2];exact s1
    refine⟨by show 3≤sizeLine;exact szl,fun a0 n0=>?_⟩
    have s0:=aD (o:=.lst [.str "add",.str "less",.str "add"]) n0
    have D0:=D3.keep s0
    have c0:=s3.trans (D3.cut s0)
    refine⟨_,rfl,_,rfl,d.S,_,2,_,rfl,rfl,D0.seqS,aN (j:=2) rfl,.ref d.O,os2.length,rfl,.inl ⟨_,SqL.of D0.opens,by simp⟩,c,(os2.length:Int),rfl,_,_,rfl,rfl,by show(0:Int) <3;decide,?_⟩
    obtain⟨i,ei,hi⟩:=pick3 (cH c (os2.length:Int))
    refine⟨a0,_,_,_,rfl,rfl,SqL.of au,ei,?_⟩
    generalize upd H3 a0 (.lst [.str "add",.str "less",.str "add"])=H0 at s0 D0 c0 ⊢
    obtain⟨xs,eP,aP⟩:=D0.parts
    have xl:=aP.length
    have hN:([]:List Int).length=cN i:=by rcases hi with rfl | rfl <;> rfl
    have hI:[one,other].length=cI i:=by rcases hi with rfl | rfl <;> rfl
    have hO:1=cO i:=by rcases hi with rfl | rfl <;> rfl
    subst hu
    refine⟨_,rfl,_,rfl,_,rfl,d.S,_,1,_,rfl,rfl,D0.seqS,aN (j:=1) rfl,.ref d.P,ps1.length,rfl,.inl ⟨_,SqL.of eP,xl.symm⟩,_,_,rfl,rfl,_,_,rfl,?_⟩
    refine⟨_,rfl,by show 0≤sizeLine;exact szl,fun a1 n1=>⟨_,rfl,_,rfl,by show 2≤sizeLine;exact szl,fun a2 n2=>?_⟩⟩
    obtain⟨D9,z1,z2,z3⟩:=D0.two n1 n2 (y:=.lst [.str one,.str other])
    refine⟨d,_,_,os2,_,i,a1,a2,[],[one,other],1,rfl,D9,z1,z2,by omega,hN,by simp,hI,hO,by omega,by omega,by omega,fun newl H8 hn s8 D8=>?_⟩
    have w8:=rQ w1 rfl D8 (.refl _) (by omega) (by rw [List.length_append];omega)
    subst hD
    refine⟨⟨_,_,_,_,_,_,rfl,c0.trans (z3.trans s8),D8,w8,?_,?_,?_,?_,?_⟩,?_⟩
    ·rw [List.length_append,List.length_map];omega
    ·rw [List.length_append,List.length_map];omega
    ·rw [List.length_append];omega
    ·rw [List.length_append,List.length_append,List.length_map];omega
    ·rw [List.length_append,List.length_append,List.length_map,List.length_singleton];omega
    ·rw [yj D8.opens,lm,List.length_map,List.length_map,List.length_append,List.length_map,List.length_cons,List.length_cons]
     omega
   ·have h3:os1.length=1:=by
     have:¬(1:Int) <(os1.length:Int):=fun z=>h3 (decide_eq_true z)
     omega
    obtain⟨y,rfl⟩:=List.length_eq_one_iff.mp h3
    refine bJ (v:=u) hu fun u hu=>?_
    refine⟨_,rfl,B,rfl,⟨_,SqL.of (fC _ _ (s1 _ _ eB))⟩,?_⟩
    refine nH (K:=K) (a:=B) (xs:=back.map V.str) (fun j σ H2=>∃(ls2:List LaneD) (ps2:List PD) (y:Str) (u3 u6 u7:Option V),σ=[some (.ref d.S),some (.int c),some (.ref B),u3,v4,v5,u6,u7]∧aQ (bK d.E H) (bK d.E H2)∧DAt d H2 ls2 ps2 [y]∧Drawn.WF (vI ls2 ps2 [y] (back.drop j))∧ls.length≤ls2.length∧ls2.length≤15+j∧ps2.length≤13+j) ⟨ls1,ps1,y,v3,none,none,rfl,s1,D1,w1,hl1,by have z:=hl2;rw [List.length_singleton] at z;omega,by have z:=hp2;rw [List.length_singleton] at z;omega⟩ (fun j σ H2 _ ⟨ls2,ps2,y,u3,u6,u7,e,s2,h⟩=>SqL.of (fC _ _ (s2 _ _ eB))) ?_ ?_
    ·rintro j x σ H2 hx ⟨ls2,ps2,y2,u3,u6,u7,rfl,s2,D2,w2,hl2',hl3,hp3⟩
     rw [List.getElem?_map] at hx
     obtain⟨bn,hbn,rfl⟩:=Option.map_eq_some_iff.mp hx
     have hj:j <back.length:=by
      rcases Nat.lt_or_ge j back.length with h | h
      ·exact h
      ·rw [List.getElem?_eq_none h] at hbn;cases hbn
     have hdr:back.drop j=bn:: back.drop (j+1):=by
      rw [List.drop_eq_getElem_cons hj]
      rw [List.getElem?_eq_getElem hj,Option.some.injEq] at hbn
      rw [hbn]
     refine hideG fun De hD u hu=>?_
     refine⟨_,rfl,d.S,_,2,_,rfl,rfl,D2.seqS,aN (j:=2) rfl,.inl ⟨rfl,_,SqL.of D2.opens⟩,d.O,_,.str y2,rfl,rfl,D2.opens,rfl,?_⟩
     have D3:=D2.open (os':=[])
     have c3:bK d.E (upd H2 d.O (.lst (([]:List Str).map V.str)))=bK d.E H2:=dF (by simp)
     refine bJ (v:=u) hu fun u hu=>?_
     change zu _ _ _ _ (upd H2 d.O (.lst (([]:List Str).map V.str)))
     generalize upd H2 d.O (.lst (([]:List Str).map V.str))=H3 at D3 c3 ⊢
     obtain⟨xs,eP,aP⟩:=D3.parts
     have xl:=aP.length
     refine⟨_,rfl,_,rfl,_,rfl,d.S,_,1,_,rfl,rfl,D3.seqS,aN (j:=1) rfl,.ref d.P,ps2.length,rfl,.inl ⟨_,SqL.of eP,xl.symm⟩,_,_,rfl,rfl,_,_,rfl,d,ls2,ps2,[],_,false,rfl,D3,by omega,fun l H4 _ s4 D4=>?_⟩
     rw [c3] at s4
     have s24:=s2.trans s4
     obtain⟨xs4,eP4,aP4⟩:=D4.parts
     have xl4:=aP4.length
     refine bJ (v:=u) hu fun u hu=>?_
     refine⟨_,rfl,d.S,_,1,_,rfl,rfl,D4.seqS,aN (j:=1) rfl,.inl ⟨rfl,_,SqL.of eP4⟩,?_⟩
     refine⟨_,rfl,d.S,_,4,_,rfl,rfl,D4.seqS,aN (j:=4) rfl,?_⟩
     refine⟨_,rfl,d.S,_,1,_,rfl,rfl,D4.seqS,aN (j:=1) rfl,.ref d.P,ps2.length,rfl,.inl ⟨_,SqL.of eP4,xl4.symm⟩,?_⟩
     refine⟨d.c4,ps2.length,rfl,by omega,fun H5 s5=>?_⟩
     have D5:=D4.keep s5
     have c5:=s24.trans (D4.cut s5)
     have eP5:=s5 _ _ eP4
     refine⟨by show 0≤sizeLine;exact szl,fun a1 n1=>⟨_,rfl,by show 1≤sizeLine;exact szl,fun a2 n2=>⟨_,rfl,_,rfl,by show 2≤sizeLine;exact szl,fun a3 n3=>⟨by show 5≤sizeLine;exact szl,fun q nq=>?_⟩⟩⟩⟩
     obtain⟨D6,z1,z2,z3⟩:=D5.two n1 n2 (y:=.lst [.str y2])
     have t6:aQ H5 (upd (upd H5 a1 (.lst [])) a2 (.lst [.str y2])):=(aD n1).trans (aD n2)
     have eP6:=t6 _ _ eP5
     generalize upd (upd H5 a1 (.lst [])) a2 (.lst [.str y2])=H6 at D6 z1 z2 z3 t6 eP6 n3 nq ⊢
     obtain⟨D7,y1,y2',y3⟩:=D6.two n3 nq (y:=.tup [.str "copy",.str (cU d.c4 ps2.length),.ref a1,.ref a2,.ref a3])
     have t7:aQ H6 (upd (upd H6 a3 (.lst [.str bn,.str l.name])) q (.tup [.str "copy",.str (cU d.c4 ps2.length),.ref a1,.ref a2,.ref a3])):=(aD n3).trans (aD nq)
     have eP7:=t7 _ _ eP6
     generalize upd (upd H6 a3 (.lst [.str bn,.str l.name])) q (.tup [.str "copy",.str (cU d.c4 ps2.length),.ref a1,.ref a2,.ref a3])=H7 at D7 y1 y2' y3 t7 eP7 ⊢
     have c7:=c5.trans (z3.trans y3)
     refine⟨d.P,xs4,_,rfl,rfl,eP7,by omega,?_⟩
     have D8:=D7.part (p:=⟨3,cU d.c4 ps2.length,[],[y2],[bn,l.name]⟩) ⟨q,a1,a2,a3,rfl,y2',y3 _ _ z1,y3 _ _ z2,y1⟩ ⟨by show 3 <11;omega,rfl,rfl,rfl,by simp⟩ rfl eP7
     have c8:bK d.E (upd H7 d.P (.lst (xs4 ++ [.ref q])))=bK d.E H7:=dF (by simp)
     generalize upd H7 d.P (.lst (xs4 ++ [.ref q]))=H8 at D8 c8 ⊢
     subst hu
     refine⟨_,rfl,d.S,_,2,_,rfl,rfl,D8.seqS,aN (j:=2) rfl,.inl ⟨rfl,_,SqL.of D8.opens⟩,_,rfl,d.O,_,_,rfl,rfl,D8.opens,by simp;omega,?_⟩
     have D9:=D8.open (os':=[l.name])
     have nd:=D9.nod (by rw [List.length_append,List.length_singleton];omega)
     rw [hdr] at w2
     have wc:=w2.closeBack (p:=⟨3,cU d.c4 ps2.length,[],[y2],[bn,l.name]⟩) (rest:=back.drop (j+1)) (one:=y2) (b:=bn) (fresh:=l.name) rfl rfl (.refl _) rfl (by simpa using nd)
     subst hD
     exact⟨ls2 ++ [l],_,l.name,_,_,_,rfl,by rw [dF (by simp),c8];exact c7,D9,by simpa [vI] using wc,by rw [List.length_append];omega,by rw [List.length_append,List.length_singleton];omega,by rw [List.length_append,List.length_singleton];omega⟩
    rintro σ H2 ⟨ls2,ps2,y2,u3,u6,u7,rfl,s2,D2,w2,hl2',hl3,hp3⟩
    rw [List.length_map] at w2 hl3 hp3
    rw [List.drop_length] at w2
    subst hu
    refine⟨_,rfl,_,rfl,by show 0≤sizeLine;exact szl,fun a3 n3=>?_⟩
    have t3:=aD (o:=.lst []) n3
    have D3:=D2.keep t3
    have c3:=s2.trans (D2.cut t3)
    have o3:=D2.out n3
    have e3:=fY (au (H:=H2) (a:=a3) (o:=.lst ([]:List V))) o3
    generalize upd H2 a3 (.lst [])=H3 at t3 D3 c3 e3 ⊢
    refine⟨_,rfl,d.S,_,2,_,rfl,rfl,D3.seqS,aN (j:=2) rfl,.inl ⟨rfl,_,SqL.of D3.opens⟩,d.O,_,.str y2,rfl,rfl,D3.opens,rfl,?_⟩
    have D4:=D3.open (os':=[])
    have c4:bK d.E (upd H3 d.O (.lst (([]:List Str).map V.str)))=bK d.E H3:=dF (by simp)
    rw [show([y2].map V.str).dropLast=([]:List Str).map V.str from rfl]
    refine⟨by show 1≤sizeLine;exact szl,fun a4 n4=>?_⟩
    generalize upd H3 d.O (.lst (([]:List Str).map V.str))=H4 at D4 c4 n4 ⊢
    have s5:=aD (o:=.lst [.str y2]) n4
    have D5:=D4.keep s5
    have c5:=D4.cut s5
    rw [c4] at c5
    have e5:=fY (E:=d.E) (H:=upd H4 a4 (.lst [.str y2])) au (D4.out n4)
    refine⟨d,ls2,ps2,[],_,1,a3,a4,[],[y2],0,rfl,D5,c5 _ _ e3,e5,by omega,rfl,by simp,rfl,rfl,by omega,by omega,by simp,fun newl2 H9 hn2 s9 D9=>?_⟩
    have hz:newl2=[]:=List.length_eq_zero_iff.mp hn2
    subst hz
    rw [List.map_nil,List.append_nil,List.append_nil] at D9
    obtain⟨x1,x2,x3⟩:=w2.last (p:=⟨1,cU d.c4 ps2.length,[],[y2],[]⟩) (y:=y2) rfl rfl rfl rfl
    exact k ls2 _ H9 (c3.trans (c5.trans s9)) D9 ⟨w2.nod,x1,x2,y2,x3⟩ (by omega) hl2' (by rw [List.length_append,List.length_singleton];omega) (by rw [List.length_append,List.length_singleton];omega)
  ·intro σ H' Q' Q'' hm hq
   obtain⟨x1,x2,x3,x4,x5,x6,x7,x8,x9,x10,x11,x12,x13,x14,x15,x16,x17,x18,x19,x20,q⟩:=hq
   exact⟨x1,x2,x3,x4,x5,x6,x7,x8,x9,x10,x11,x12,x13,x14,x15,x16,x17,x18,x19,x20,hm _ _ q⟩
def sp__law_net (K:PySem.W.Frag):Sp:=fun vs H Q _=>∃(a:Addr) (ns:List Int) (start steps:Nat) (odd:Bool),vs=[.ref a,.int (start:Nat),.int (steps:Nat),.bl odd]∧SqL K H a (ns.map V.int)∧steps≤4∧∀(T L P:Addr) (ls:List LaneD) (ps:List PD) (H':Hp),aQ H H'→H L=none→H P=none→L≠P→H' T=some (.tup [.ref L,.ref P])→NetAt H' L P ls ps→NetD (gO ns start) (gO ns (start+1)) ls ps→Q (.ref T) H'
theorem sc__law_net:FnScope ["_law_script", "_law_start", "_law_steps", "_law_odd", "_law_one", "_law_other", "_law_state", "_law_k", "_law_back", "_law_at"] ["_law_script", "_law_start", "_law_steps", "_law_odd"] (aA jR):=⟨rfl,rfl,rfl,by decide +kernel,rfl,by decide +kernel,by decide +kernel⟩
theorem ok__law_net (T:Txt w K mg t):FnOk P w K mg base CX0 7 t.xQ t.uE ["_law_script", "_law_start", "_law_steps", "_law_odd"] (sp__law_net K):=by
 have sc:=sc__law_net
 refine T.Bv.ok sc (fun vs H Q E h=>?_) (fun cdv A outer s H vs Q E hr h=>?_)
 ·obtain⟨a,ns,start,steps,odd,rfl,_⟩:=h
  rfl
 ·obtain⟨a,ns,start,steps,odd,rfl,hS,hst,k⟩:=h
  refine⟨_,(aB (aX (i:=4) sc.nd rfl (Or.inl rfl) (aJ (fU T) (hr.mono (by decide)) (by rfl) T.gM T.fP.kp T.gK .nil aO (aj (pv 0) (aj (pv 1) aq ak) ak)))
   (aB (aX (i:=5) sc.nd rfl (Or.inr rfl) (aJ (fU T) (hr.mono (by decide)) (by rfl) T.gM T.fP.kp T.gK .nil aO (aj (pv 0) (aj (bh dN (pv 1) az) aq bY) ak)))
   (aB (aX (i:=6) sc.nd rfl (Or.inr rfl) (bA (aj (bA aq) (aj (bA aq) (aj (bA aq) (aj (pv 4) (aj (pv 5) aq ak) ak) bw) bw) bw)))
   (aB (gQ PassesOwn.never rfl (kO rfl T.qw (aj (bh dN az (bh cQ (aJ (bj T) (hr.mono (by decide)) (by rfl) T.bC T.bx.kp T.bD .nil aO (aj (pv 4) (aj az aq ao) ak)) az)) aq bY)) (dz (i:=7) sc.nd rfl (Or.inl rfl))
    (aC (bF (aJ (cL T) (hr.mono (by decide)) (by rfl) T.dq T.cZ.kp T.du .nil aO (aj (pv 6) (aj (aJ (bj T) (hr.mono (by decide)) (by rfl) T.bC T.bx.kp T.bD .nil aO (aj (pv 5) (aj (pv 7) aq ak) ak)) (aj bH (aj (bA aq) (aj (bA aq) (aj az aq ao) bw) bw) ao) aV) ak)))))
   (aB (wk (i:=8) [5,6] ["_law_script", "_law_start", "_law_steps", "_law_odd", "_law_one", "_law_other", "_law_state", "_law_k", "_law_back", "_law_at"] (aA jR) rfl sc.nd rfl (kO rfl T.qw (aj (bh cQ (aJ (bj T) (hr.mono (by decide)) (by rfl) T.bC T.bx.kp T.bD .nil aO (aj (pv 4) (aj az aq ao) ak)) az) aq bY)) (fun _ _ _ _ _=>mL) (fun _ _ _ _ _=>(aJ (lF T) (hr.mono (by decide)) (by rfl) T.mX T.jZ.kp T.nj .nil aO (aj (pv 2) (aj (aJ (bj T) (hr.mono (by decide)) (by rfl) T.bC T.bx.kp T.bD .nil aO (aj (pv 1) (aj (bh dN az (pv 0)) aq bY) ak)) (aj iT aq ao) aV) ak))))
   (aB (bF (oU PySem.F.plainAttrs_list PySem.F.slot_list_extend PySem.F.type_list_extend yU (aW bN (pv 6) az (fun _ _=>rfl)) (aj (pv 8) aq ak)))
   (aB (gQ PassesOwn.never rfl (kO rfl T.qw (aj (pv 2) aq ak)) (dz (i:=7) sc.nd rfl (Or.inl rfl))
    (aC (bF (aJ (ok__law_step T) (hr.mono (by decide)) (by rfl) T.m__law_step T.z8.kp T.b__law_step .nil aO (aj (pv 6) (aj (aJ (fU T) (hr.mono (by decide)) (by rfl) T.gM T.fP.kp T.gK .nil aO (aj (pv 0) (aj (bh dN (bh dN (pv 1) az) (pv 7)) aq bY) ak)) (aj (pv 3) aq ak) aV) ak)))))
   (aB (bF (aJ (ok__law_closed T) (hr.mono (by decide)) (by rfl) T.m__law_closed T.wD.kp T.b__law_closed .nil aO (aj (pv 6) (aj (pv 5) (aj (pv 8) aq ak) ak) ak)))
   (aB (aX (i:=9) sc.nd rfl (Or.inl rfl) (bh cQ (aJ (bj T) (hr.mono (by decide)) (by rfl) T.bC T.bx.kp T.bD .nil aO (aj (pv 4) (aj az aq ao) ak)) (bL cj (by rfl) T.iw dX (aj (aW bN (pv 6) az (fun _ _=>rfl)) aq aK))))
   (aC (aZ (cV (aj (aW bN (pv 6) az (fun _ _=>rfl)) (aj (bh op_cat (uW sl_list (aW bN (pv 6) az (fun _ _=>rfl)) (yR (pv 9)) yQ) (uW sl_list (aW bN (pv 6) az (fun _ _=>rfl)) yQ (yR (pv 9)))) aq bY) aK))))))))))))),?_⟩
  have hl:sizeLine=16777216:=sizeLine_eq
  refine hide fun u hu=>?_
  refine⟨_,rfl,_,rfl,a,ns,start,rfl,hS,?_⟩
  refine bJ (v:=u) hu fun u hu=>?_
  refine⟨_,rfl,_,rfl,_,_,rfl,rfl,a,ns,start+1,rfl,hS,?_⟩
  refine bJ (v:=u) hu fun u hu=>?_
  refine⟨by show 0≤sizeLine;exact szl,fun L nL=>⟨by show 0≤sizeLine;exact szl,fun P' nP=>⟨by show 0≤sizeLine;exact szl,fun O nO=>⟨_,rfl,_,rfl,by show 5≤sizeLine;exact szl,fun S nS=>?_⟩⟩⟩⟩
  obtain⟨D1,s1,nP0⟩:=DAt.init (gO ns start) (gO ns (start+1)) nL nP nO nS
  have nLP:L≠P':=D1.ne.1
  refine bJ (v:=u) hu fun u hu=>?_
  change zu _ _ _ [some (.ref a),some (.int (start:Nat)),some (.int (steps:Nat)),some (.bl odd),some (.int (gO ns start)),some (.int (gO ns (start+1))),some (.ref S),none,none,none] (upd (upd (upd (upd H L (.lst [])) P' (.lst [])) O (.lst [])) S (.lst [.ref L,.ref P',.ref O,.int (gO ns start),.int (gO ns (start+1))]))
  generalize upd (upd (upd (upd H L (.lst [])) P' (.lst [])) O (.lst [])) S (.lst [.ref L,.ref P',.ref O,.int (gO ns start),.int (gO ns (start+1))])=H1 at D1 s1 ⊢
  obtain⟨d,hd⟩:∃d:Dw,d=⟨S,L,P',O,gO ns start,gO ns (start+1)⟩:=⟨_,rfl⟩
  rw [←hd] at D1
  have hE:[L,P',O]=d.E:=by rw [hd]
  have hSd:S=d.S:=by rw [hd]
  have hLd:L=d.L:=by rw [hd]
  have hc3:gO ns start=d.c3:=by rw [hd]
  have hc4:gO ns (start+1)=d.c4:=by rw [hd]
  rw [hE] at s1
  rw [hLd] at nL nLP
  rw [hc3,hc4] at k
  rw [hSd,hc3,hc4]
  clear hd hE nP nO nS
  have g0:=Int.emod_nonneg (cH d.c3 5) (show(2:Int)≠0 by decide)
  have g1:=Int.emod_lt_of_pos (cH d.c3 5) (show(0:Int) <2 by decide)
  refine⟨_,rfl,_,_,rfl,_,_,rfl,rfl,by show(0:Int) <2;decide,_,_,rfl,rfl,1+cH d.c3 5 % 2,rfl,by omega,by omega,?_⟩
  obtain⟨g,hg,hg1,hg2⟩:∃g:Nat,(1+cH d.c3 5 % 2).toNat=g∧1≤g∧g≤2:=⟨_,rfl,by omega,by omega⟩
  rw [hg]
  refine ww (fun j σ H2=>∃(ls:List LaneD) (ps:List PD) (os:List Str) (v7:Option V),σ=[some (.ref a),some (.int (start:Nat)),some (.int (steps:Nat)),some (.bl odd),some (.int d.c3),some (.int d.c4),some (.ref d.S),v7,none,none]∧aQ (bK d.E H1) (bK d.E H2)∧DAt d H2 ls ps os∧Drawn.WF (vI ls ps os [])∧ls.length=j∧ps.length=j∧os.length=j) ⟨[],[],[],none,rfl,aQ.refl _,D1,Drawn.WF.start,rfl,rfl,rfl⟩ ?_ ?_
  ·rintro j σ H2 hj ⟨ls,ps,os,v7,rfl,s2,D2,w2,h1,h2,h3⟩
   refine hideD fun De hD=>?_
   refine⟨_,rfl,_,rfl,_,rfl,_,_,rfl,by show 0≤sizeLine;exact szl,fun a1 n1=>⟨by show 0≤sizeLine;exact szl,fun a2 n2=>?_⟩⟩
   obtain⟨D9,z1,z2,z3⟩:=D2.two n1 n2 (y:=.lst [])
   refine⟨d,ls,ps,os,_,0,a1,a2,[],[],1,rfl,D9,z1,z2,by omega,rfl,by simp,rfl,rfl,by omega,by omega,by omega,fun newl H8 hn s8 D8=>?_⟩
   have w8:=rQ w2 rfl D8 (.refl _) (by omega) (by rw [List.length_append];omega)
   subst hD
   exact⟨_,_,_,_,rfl,s2.trans (z3.trans s8),D8,w8,by rw [List.length_append];omega,by rw [List.length_append,List.length_singleton];omega,by rw [List.length_append,List.length_map];omega⟩
  rintro σ H2 ⟨ls,ps,os,v7,rfl,s2,D2,w2,h1,h2,h3⟩
  have b0:=Int.emod_nonneg (cH d.c3 6) (show(3:Int)≠0 by decide)
  have b1:=Int.emod_lt_of_pos (cH d.c3 6) (show(0:Int) <3 by decide)
  refine bJ (v:=u) hu fun u hu=>?_
  refine⟨_,rfl,_,_,rfl,_,_,rfl,rfl,by show(0:Int) <3;decide,cH d.c3 6 % 3,rfl,by omega,by omega,?_⟩
  obtain⟨nb,hnb,hnb2⟩:∃nb:Nat,(cH d.c3 6 % 3).toNat=nb∧nb≤2:=⟨_,rfl,by omega⟩
  rw [hnb]
  refine sU (fun j ys H3=>∃(ls3:List LaneD) (bl:List Str),ys=bl.map V.str∧bl.length=j∧aQ (bK d.E H1) (bK d.E H3)∧DAt d H3 ls3 ps os∧Drawn.WF (vI ls3 ps (os ++ bl) bl)∧ls3.length=g+j) (by omega) ⟨ls,[],rfl,rfl,s2,D2,by rw [List.append_nil];exact w2,by omega⟩ (fun j ys H3 ⟨_,bl,e,e2,_⟩=>by rw [e,List.length_map];omega) ?_ ?_
  ·rintro j ys H3 hj ⟨ls3,bl,rfl,hb,s3,D3,w3,h4⟩
   refine yes ⟨_,rfl,_,rfl,_,rfl,_,_,rfl,rfl,_,_,rfl,d,ls3,ps,os,_,true,rfl,D3,by omega,fun l H4 _ s4 D4=>?_⟩
   have nd:=D4.nod (by rw [List.length_append,List.length_singleton];omega)
   have wb:=w3.backLane (b:=l.name) (by simpa using nd)
   exact⟨ls3 ++ [l],bl ++ [l.name],by simp,by simp [hb],s3.trans s4,D4,by simpa [vI] using wb,by rw [List.length_append,List.length_singleton];omega⟩
  rintro ys H3 ⟨ls3,bl,rfl,hbl,s3,D3,w3,h4⟩ B nB
  have t4:=aD (o:=.lst (bl.map V.str)) nB
  have D4:=D3.keep t4
  have s4:=s3.trans (D3.cut t4)
  have eB:=fY (au (H:=H3) (a:=B) (o:=.lst (bl.map V.str))) (D3.out nB)
  generalize upd H3 B (.lst (bl.map V.str))=H4 at t4 D4 s4 eB ⊢
  refine bJ (v:=u) hu fun u hu=>?_
  refine⟨_,rfl,d.S,_,2,_,rfl,rfl,D4.seqS,aN (j:=2) rfl,.inl ⟨rfl,_,SqL.of D4.opens⟩,_,rfl,d.O,B,_,_,rfl,rfl,D4.opens,fC _ _ eB,by rw [List.length_map,List.length_map];omega,?_⟩
  rw [←List.map_append]
  have D5:=D4.open (os':=os ++ bl)
  have c5:bK d.E (upd H4 d.O (.lst ((os ++ bl).map V.str)))=bK d.E H4:=dF (by simp)
  generalize upd H4 d.O (.lst ((os ++ bl).map V.str))=H5 at D5 c5 ⊢
  rw [←c5] at s4 eB
  refine bJ (v:=u) hu fun u hu=>?_
  refine⟨_,rfl,(steps:Int),rfl,by omega,by omega,?_⟩
  rw [Int.toNat_natCast]
  refine ww (fun j σ H6=>∃(ls6:List LaneD) (ps6:List PD) (os6:List Str) (v7:Option V),σ=[some (.ref a),some (.int (start:Nat)),some (.int (steps:Nat)),some (.bl odd),some (.int d.c3),some (.int d.c4),some (.ref d.S),v7,some (.ref B),none]∧aQ (bK d.E H5) (bK d.E H6)∧DAt d H6 ls6 ps6 os6∧Drawn.WF (vI ls6 ps6 os6 bl)∧1≤ls6.length∧ls6.length≤4+2 * j∧ps6.length≤2+2 * j∧os6≠[]∧os6.length≤4) ⟨ls3,ps,os ++ bl,v7,rfl,aQ.refl _,D5,w3,by omega,by omega,by omega,by intro z;have:=congrArg List.length z;rw [List.length_append,List.length_nil] at this;omega,by rw [List.length_append];omega⟩ ?_ ?_
  ·rintro j σ H6 hj ⟨ls6,ps6,os6,u7,rfl,s6,D6,w6,l0,l6,p6,o0,o6⟩
   have hS6:SqL K H6 a (ns.map V.int):=fC.seq ((s1.trans (s4.trans s6)).seq hS)
   refine hideD fun De hD=>?_
   refine⟨_,rfl,_,rfl,_,rfl,_,_,rfl,rfl,_,rfl,_,_,rfl,rfl,a,ns,start+2+(0+j),rfl,hS6,_,rfl,d,ls6,ps6,os6,_,bl,odd,rfl,D6,w6,o0,o6,by omega,by omega,fun ls' ps' os' H' X=>?_⟩
   subst hD
   exact⟨ls',ps',os',_,rfl,s6.trans X.cut,X.at',X.wf,by have h1:=X.wf.ins.length_eq;have h2:=X.o1;rw [List.length_append,List.length_map] at h1;change _+os'.length=_ at h1;omega,by have:=X.l2;omega,by have:=X.p2;omega,by intro z;have:=X.o1;rw [z] at this;simp at this,X.o4⟩
  rintro σ H6 ⟨ls6,ps6,os6,u7,rfl,s6,D6,w6,l0,l6,p6,o0,o6⟩
  refine bJ (v:=u) hu fun u hu=>?_
  refine⟨_,rfl,_,rfl,_,rfl,d,ls6,ps6,os6,_,B,bl,rfl,D6,w6,s6 _ _ eB,o0,o6,by omega,by omega,by omega,fun ls7 ps7 H7 s7 D7 W7 l17 l7 p16 p1=>?_⟩
  obtain⟨xsL,eL,aL⟩:=D7.lanes
  obtain⟨xsP,eP,aP⟩:=D7.parts
  have xl:=aP.length
  refine bJ (v:=u) hu fun u hu=>?_
  refine⟨_,rfl,_,_,rfl,_,rfl,d.S,_,1,_,rfl,rfl,D7.seqS,aN (j:=1) rfl,.ref d.P,ps7.length,rfl,.inl ⟨_,SqL.of eP,xl.symm⟩,cH d.c3 7,(ps7.length:Int),rfl,rfl,by omega,?_⟩
  have r0:=Int.emod_nonneg (cH d.c3 7) (show(ps7.length:Int)≠0 by omega)
  obtain⟨r,hr'⟩:∃r:Nat,cH d.c3 7 % (ps7.length:Int)=(r:Int):=⟨_,(Int.toNat_of_nonneg r0).symm⟩
  dsimp only
  rw [hr']
  subst hu
  refine⟨_,rfl,d.S,_,0,_,rfl,rfl,D7.seqS,aN (j:=0) rfl,?_⟩
  refine⟨_,rfl,d.S,_,1,_,rfl,rfl,D7.seqS,aN (j:=1) rfl,?_⟩
  refine⟨_,rfl,_,rfl,d.P,_,rfl,SqL.of eP,fun q1 m1=>?_⟩
  rw [cutV_from]
  have t1:=aD (o:=.lst (xsP.drop r)) m1
  have f1:upd H7 q1 (.lst (xsP.drop r)) q1=some (.lst (xsP.drop r)):=au
  have D8:=D7.keep t1
  have eP8:=t1 _ _ eP
  have eL8:=t1 _ _ eL
  generalize upd H7 q1 (.lst (xsP.drop r))=H8 at t1 f1 D8 eP8 eL8 ⊢
  refine⟨_,rfl,d.S,_,1,_,rfl,rfl,D8.seqS,aN (j:=1) rfl,_,rfl,_,rfl,d.P,_,rfl,SqL.of eP8,fun q2 m2=>?_⟩
  rw [cutV_to]
  have t2:=aD (o:=.lst (xsP.take r)) m2
  have f2:upd H8 q2 (.lst (xsP.take r)) q2=some (.lst (xsP.take r)):=au
  have f12:=t2 _ _ f1
  have eL9:=t2 _ _ eL8
  generalize upd H8 q2 (.lst (xsP.take r))=H9 at t2 f2 f12 eL9 ⊢
  refine⟨q1,q2,_,_,rfl,rfl,f12,f2,by rw [List.length_drop,List.length_take];omega,fun q3 m3=>?_⟩
  have t3:=aD (o:=.lst (xsP.drop r ++ xsP.take r)) m3
  have f3:upd H9 q3 (.lst (xsP.drop r ++ xsP.take r)) q3=some (.lst (xsP.drop r ++ xsP.take r)):=au
  have eLA:=t3 _ _ eL9
  generalize upd H9 q3 (.lst (xsP.drop r ++ xsP.take r))=HA at t3 f3 eLA ⊢
  refine⟨by show 2≤sizeLine;exact szl,fun T' nT=>?_⟩
  have t4:=aD (o:=.tup [.ref d.L,.ref q3]) nT
  have sA:aQ H7 (upd HA T' (.tup [.ref d.L,.ref q3])):=t1.trans (t2.trans (t3.trans t4))
  have s17:aQ H (bK d.E H7):=s1.trans (s4.trans (s6.trans s7))
  have s07:aQ H H7:=s17.trans fC
  have free3:H q3=none:=s07.free (t1.free (t2.free m3))
  have cA:aQ (bK d.E H7) (upd HA T' (.tup [.ref d.L,.ref q3])):=fC.trans sA
  have nq:d.L≠q3:=aF eL9 m3
  have rp:=rot_perm ps7 r
  refine k T' d.L q3 ls7 (ps7.drop r ++ ps7.take r) _ (s07.trans sA) nL free3 nq au ⟨⟨xsL,t4 _ _ eLA,aL.imp fun _ _ h=>h.same cA⟩,⟨_,t4 _ _ f3,((aP.drop r).app (aP.take r)).imp fun _ _ h=>h.same cA⟩⟩ ⟨D7.lok,fun p hp=>D7.pok p (rp.mem_iff.mpr hp),D7.ln,?_,W7.perm rp,by omega,l17,by rw [←rp.length_eq];exact p1,by rw [←rp.length_eq];exact p16⟩
  rw [←rp.length_eq,←D7.pn]
  exact rp.map _
def sp_is_name (K:PySem.W.Frag):Sp:=fun vs H Q _=>∃x,vs=[x]∧((∃z:Str,x=.str z∧z.length≤100∧∀H',aQ H H'→Q (.bl (nameB z)) H')∨∃Tx,tyN K H x Tx∧Tx∈fD∧Tx≠ "str" ∧Q (.bl false) H)
theorem sc_is_name:FnScope ["thing"] ["thing"] (aA my):=⟨rfl,rfl,rfl,by decide +kernel,rfl,by decide +kernel,by decide +kernel⟩
theorem ok_is_name (T:Txt w K mg t):FnOk P w K mg base CX0 1 t.zp t.xu ["thing"] (sp_is_name K):=by
 have sc:=sc_is_name
 refine T.F_is_name.ok sc (fun vs H Q E h=>?_) (fun cdv A outer s H vs Q E hr h=>?_)
 ·obtain⟨x,rfl,_⟩:=h
  rfl
 ·obtain⟨x,rfl,h⟩:=h
  refine⟨_,(aB (cg (PW.pt (zV (lR (mj (bL Bw (by rfl) T.jt iz (aj (pv 0) (aj (pe_bltT (by rfl) T.n_str bt_str) aq ak) ak)))) (xX (lR (yr uG uG az (bL cj (by rfl) T.iw dX (aj (pv 0) aq ak)) (lW (by rfl) T.g_LONGEST_NAME))))))
    (aC (aZ iT))
    bQ)
   (aC (aZ (zf (oV zx (aW ix_str (pv 0) az (fun _ _=>rfl)) (lW (by rfl) T.g_LETTERS) (by with_unfolding_all rfl)) (yX (bL (Az rfl) (by rfl) T.n_all bt_all (aj (oY [] ["thing"] (aA my) rfl (pi_str (pv 0)) (fun _ _ _ _ _=>mL) (fun _ _ _ _ _=>(pe_or (oV zx (pv 0) (lW (by rfl) T.g_LETTERS) (by with_unfolding_all rfl)) (yX (oV zx (pv 0) (lW (by rfl) T.g_FIGURES) (by with_unfolding_all rfl)))))) aq fV))))))),?_⟩
  have hl:sizeLine=16777216:=sizeLine_eq
  rcases h with ⟨z,rfl,hz,k⟩ | ⟨Tx,ty,hm,hne,k⟩
  ·refine⟨_,rfl,.str z, "str", "str",true,rfl,rfl,by decide,by decide,_,rfl,fX ?_⟩
   refine⟨_,rfl,.str z,z.length,rfl,⟨by omega,rfl⟩,_,_,rfl,rfl,_,rfl,?_⟩
   cases e:z.cps.toList with
   | nil=>
    have h0:z.length=0:=by rw [←pC,e];rfl
    rw [h0]
    refine fX ⟨_,rfl,lX ?_⟩
    have:=k H (aQ.refl _)
    unfold nameB at this
    rw [e] at this
    exact this
   | cons c r=>
    have hlen:z.length=r.length+1:=by rw [←pC,e];rfl
    refine xH (by omega) ⟨_,_,rfl,rfl,_,rfl,jM (fun h=>?_) (fun h=>?_)⟩
    ·have h8:¬(z.length:Int)≤8:=by simpa using h
     have:=k H (aQ.refl _)
     unfold nameB at this
     rw [e] at this
     simp only [show ¬r.length≤7 by omega,decide_false,Bool.false_and] at this
     exact this
    ·have h8:(z.length:Int)≤8:=by simpa using h
     have hc0:atI z.cps.toList 0=some c:=by rw [e];exact aN (xs:=c:: r) (j:=0) rfl
     refine⟨_,rfl,z,_,c,rfl,rfl,by omega,hc0,_,_,rfl,rfl,_,rfl,?_⟩
     have kk:∀H',aQ H H'→Q (.bl (low c && z.cps.toList.all fun d=>low d || fig d)) H':=fun H' s'=>by
      have:=k H' s'
      unfold nameB at this
      rw [e] at this ⊢
      simp only [show r.length≤7 by omega,decide_true,Bool.true_and] at this
      exact this
     rw [in_let]
     refine jM (fun hc=>?_) (fun hc=>?_)
     ·rw [hc,Bool.true_and] at kk
      refine⟨_,rfl,z,rfl,comp_str (fun i ys H'=>H'=H∧ys=((z.cps.toList.take i).map fun d=>low d || fig d).map V.bl) (by simp only [Str.length] at hz;omega) ⟨rfl,by simp⟩ (fun i ys H' ⟨_,e⟩=>by rw [e];simp only [List.length_map,List.length_take];omega) ?_ ?_⟩
      ·rintro i d ys H' hd ⟨rfl,rfl⟩
       refine yes ⟨_,rfl,_,_,rfl,rfl,_,rfl,?_⟩
       have hd':z.cps.toList[i]?=some d:=by simpa using hd
       have next:∀b,b=(low d || fig d)→(((z.cps.toList.take i).map fun d=>low d || fig d).map V.bl) ++ [V.bl b]=((z.cps.toList.take (i+1)).map fun d=>low d || fig d).map V.bl:=fun b hb=>by
        rw [List.take_add_one,hd',hb]
        simp
       rw [in_let]
       refine jM (fun hl'=>?_) (fun hl'=>?_)
       ·exact⟨rfl,next true (by rw [hl'];rfl)⟩
       ·have hl2:low d=false:=by simpa using hl'
        refine⟨_,rfl,_,_,rfl,rfl,rfl,next _ ?_⟩
        rw [in_fig,hl2,Bool.false_or]
      ·rintro ys H' ⟨rfl,rfl⟩ D hD
       refine⟨D,(z.cps.toList.take z.cps.size).map fun d=>low d || fig d,rfl,SqL.of au,?_⟩
       have hall:((z.cps.toList.take z.cps.size).map fun d=>low d || fig d).all id=z.cps.toList.all fun d=>low d || fig d:=by
        rw [List.take_of_length_le (by simp),List.all_map]
        rfl
       rw [hall]
       exact kk _ (aD hD)
     ·have hc':low c=false:=by simpa using hc
      rw [hc',Bool.false_and] at kk
      exact kk H (aQ.refl _)
  ·have hb:subT Tx "str" =false:=by
    simp only [fD,List.mem_cons,List.not_mem_nil,or_false] at hm
    rcases hm with rfl | rfl | rfl | rfl | rfl | rfl | rfl <;> first | decide | exact absurd rfl hne
   exact⟨_,rfl,x,Tx, "str",false,rfl,ty,by decide,hb,_,rfl,lX (lX k)⟩
def sp_need_counts (K:PySem.W.Frag):Sp:=fun vs H Q _=>∃(a b:Addr) (xs ys:List V),vs=[.ref a,.ref b]∧SqL K H a xs∧SqL K H b ys∧1≤xs.length∧xs.length≤24∧1≤ys.length∧ys.length≤16∧Q .non H
theorem sc_need_counts:FnScope ["lanes", "parts"] ["lanes", "parts"] (aA iC):=⟨rfl,rfl,rfl,by decide +kernel,rfl,by decide +kernel,by decide +kernel⟩
theorem ok_need_counts (T:Txt w K mg t):FnOk P w K mg base CX0 1 t.qQ t.pW ["lanes", "parts"] (sp_need_counts K):=by
 have sc:=sc_need_counts
 refine T.wK.ok sc (fun vs H Q E h=>?_) (fun cdv A outer s H vs Q E hr h=>?_)
 ·obtain⟨a,b,xs,ys,rfl,_⟩:=h
  rfl
 ·obtain⟨a,b,xs,ys,rfl,h1,h2,c1,c2,c3,c4,k⟩:=h
  refine⟨_,(aB (cg (lR (yr uG uG az (bL cj (by rfl) T.iw dX (aj (pv 0) aq ak)) (lW (by rfl) T.g_MOST_LANES)))
    (aC gJ)
    bQ)
   (aC (cg (lR (yr uG uG az (bL cj (by rfl) T.iw dX (aj (pv 1) aq ak)) (lW (by rfl) T.g_MOST_PARTS)))
    (aC gJ)
    bQ))),?_⟩
  have hl:sizeLine=16777216:=sizeLine_eq
  refine⟨_,rfl,.ref a,xs.length,rfl,.inl ⟨_,h1,rfl⟩,_,_,rfl,rfl,_,rfl,xH (by omega) ⟨_,_,rfl,rfl,_,rfl,?_⟩⟩
  rw [show decide ((xs.length:Int)≤24)=true from decide_eq_true (by omega)]
  refine fX ?_
  refine⟨_,rfl,.ref b,ys.length,rfl,.inl ⟨_,h2,rfl⟩,_,_,rfl,rfl,_,rfl,xH (by omega) ⟨_,_,rfl,rfl,_,rfl,?_⟩⟩
  rw [show decide ((ys.length:Int)≤16)=true from decide_eq_true (by omega)]
  exact fX k
def sp_need_fresh (K:PySem.W.Frag):Sp:=fun vs H Q _=>∃(z:Str) (d:Addr) (kvs:List (Key×V)),vs=[.str z,.ref d]∧H d=some (.dK kvs)∧nameB z=true∧z.length≤100∧fG kvs (Sum.inr z)=none∧∀H',aQ H H'→Q .non H'
theorem sc_need_fresh:FnScope ["name", "known"] ["name", "known"] (aA jo):=⟨rfl,rfl,rfl,by decide +kernel,rfl,by decide +kernel,by decide +kernel⟩
theorem wM (T:Txt w K mg t):FnOk P w K mg base CX0 2 t.uo t.qM ["name", "known"] (sp_need_fresh K):=by
 have sc:=sc_need_fresh
 refine T.rW.ok sc (fun vs H Q E h=>?_) (fun cdv A outer s H vs Q E hr h=>?_)
 ·obtain⟨z,d,kvs,rfl,_⟩:=h
  rfl
 ·obtain⟨z,d,kvs,rfl,hd,hz,hl,hv,k⟩:=h
  refine⟨_,(aB (cg (lR (mj (aJ (ok_is_name T) (hr.mono (by decide)) (by rfl) T.m_is_name T.F_is_name.kp T.b_is_name .nil aO (aj (pv 0) aq ak))))
    (aC gJ)
    bQ)
   (aC (cg (uZ (Bg hr.u1 (pv 0) (pv 1)))
    (aC gJ)
    bQ))),?_⟩
  refine⟨_,rfl,.str z,rfl,.inl ⟨z,rfl,hl,fun H1 s1=>?_⟩⟩
  rw [hz]
  refine⟨_,rfl,fX ?_⟩
  refine⟨_,rfl,_,rfl,d,_,rfl,ji.k (k:=Sum.inr z) (s1 _ _ hd),?_⟩
  rw [hv]
  exact⟨_,rfl,fX (k _ s1)⟩
def sp_need_lane (K:PySem.W.Frag):Sp:=fun vs H Q _=>∃(nm:V) (room:Int) (L:Addr) (ws:List Int),vs=[nm,.int room,.ref L]∧SqA K H L (ws.map V.int)∧ws.length≤1000∧(∀v∈ws,0≤v∧v <1000000000)∧1≤room∧(ws.length:Int)≤room∧room≤199∧∀H',aQ H H'→Q .non H'
theorem sc_need_lane:FnScope ["name", "room", "first"] ["name", "room", "first"] (aA iV):=⟨rfl,rfl,rfl,by decide +kernel,rfl,by decide +kernel,by decide +kernel⟩
theorem ok_need_lane (T:Txt w K mg t):FnOk P w K mg base CX0 3 t.vy t.sO ["name", "room", "first"] (sp_need_lane K):=by
 have sc:=sc_need_lane
 refine T.zQ.ok sc (fun vs H Q E h=>?_) (fun cdv A outer s H vs Q E hr h=>?_)
 ·obtain⟨nm,room,L,ws,rfl,_⟩:=h
  rfl
 ·obtain⟨nm,room,L,ws,rfl,hL,hw,hB,c1,c2,c3,k⟩:=h
  refine⟨_,(aB (cg (PW.pt (zV (lR (mj (aJ (qi T) (hr.mono (by decide)) (by rfl) T.tQ T.p8.kp T.tE .nil aO (aj (pv 1) aq ak)))) (xX (lR (yr uG uG (bL (zb rfl) (by rfl) T.n_max bt_max (aj az (aj (bL cj (by rfl) T.iw dX (aj (pv 2) aq ak)) aq aV) ao)) (pv 1) (lW (by rfl) T.g_MOST_ROOM))))))
    (aC gJ)
    bQ)
   (aC (cg (lR (mj (bL (Az rfl) (by rfl) T.n_all bt_all (aj (oY [] ["name", "room", "first"] (aA iV) rfl (pi_or (iQ (pv 2)) (pi_tup (pv 2))) (fun _ _ _ _ _=>mL) (fun _ _ _ _ _=>(aJ (zZ T) (hr.mono (by decide)) (by rfl) T.BL T.xg.kp T.Am .nil aO (aj (pv 0) aq ak)))) aq fV))))
    (aC gJ)
    bQ))),?_⟩
  have hl:sizeLine=16777216:=sizeLine_eq
  have hlw:(ws.map V.int).length=ws.length:=List.length_map ..
  refine⟨_,rfl,.int room, "int",true,rfl,rfl,by decide,by decide,true,rfl,fX ?_⟩
  refine⟨_,rfl,.ref L,(ws.map V.int).length,rfl,hL.len,_,_,rfl,_,rfl,_,_,rfl,rfl,_,rfl,xH ?_ ⟨_,_,rfl,rfl,_,rfl,?_⟩⟩
  ·split <;> omega
  rw [show decide (room≤199)=true from decide_eq_true c3]
  refine fX ?_
  refine comp_A (a:=L) (xs:=ws.map V.int) ?_ hL (fun j ys=>ys=(List.replicate j true).map V.bl) (by rw [List.length_map];omega) rfl (fun j ys e=>by rw [e];simp) (fun j x ys hx e=>?_) (fun ys e D hD=>?_)
  ·exact fun R r=>⟨_,rfl,r⟩
  ·subst e
   rw [List.getElem?_map] at hx
   obtain⟨n,hn,rfl⟩:=Option.map_eq_some_iff.mp hx
   obtain⟨n0,n1⟩:=hB n (List.mem_of_getElem? hn)
   refine yes ⟨_,rfl,.int n,rfl,.inl ⟨n,rfl,rfl,?_⟩⟩
   rw [decide_eq_true n0,decide_eq_true n1,List.replicate_succ']
   simp
  ·subst e
   refine⟨D,_,rfl,SqL.of au,_,rfl,?_⟩
   rw [show((List.replicate (ws.map V.int).length true).all id)=true by simp]
   exact fX (k _ (aD hD))
def sp_fresh_part (K:PySem.W.Frag) (t:Adr):Sp:=fun vs H Q _=>∃(i:Nat) (nm:Str) (r d a1 a2 a3:Addr) (ns is os:List V) (kvs:List (Key×V)),vs=[.ref r,.ref d]∧H r=some (.tup [.str (eO i),.str nm,.ref a1,.ref a2,.ref a3])∧i≤10∧H d=some (.dK kvs)∧nameB nm=true∧nm.length≤100∧fG kvs (Sum.inr nm)=none∧SqA K H a1 ns∧SqA K H a2 is∧SqA K H a3 os∧ns.length=cN i∧is.length=cI i∧os.length=cO i∧(∀v∈ns,Val v)∧∀H' p,aQ H H'→H p=none→PartAt K t H' p i (.str nm) ns is os→Q (.ref p) H'
theorem sc_fresh_part:FnScope ["row", "known"] ["row", "known"] (aA jm):=⟨rfl,rfl,rfl,by decide +kernel,rfl,by decide +kernel,by decide +kernel⟩
theorem ok_fresh_part (T:Txt w K mg t):FnOk P w K mg base CX0 5 t.ue t.qU ["row", "known"] (sp_fresh_part K t):=by
 have sc:=sc_fresh_part
 refine T.yM.ok sc (fun vs H Q E h=>?_) (fun cdv A outer s H vs Q E hr h=>?_)
 ·obtain⟨i,nm,r,d,a1,a2,a3,ns,is,os,kvs,rfl,_⟩:=h
  rfl
 ·obtain⟨i,nm,r,d,a1,a2,a3,ns,is,os,kvs,rfl,hr1,hi,hd,hz,hl,hv,q1,q2,q3,l1,l2,l3,hV,k⟩:=h
  refine⟨_,(aB (cg (lR (mj (aJ (BX T) (hr.mono (by decide)) (by rfl) T.m_is_kind T.zH.kp T.b_is_kind .nil aO (aj (aW bT (pv 0) az (fun _ _=>rfl)) aq aK))))
    (aC gJ)
    bQ)
   (aB (bF (aJ (wM T) (hr.mono (by decide)) (by rfl) T.yE T.rW.kp T.yO .nil aO (aj (aW bT (pv 0) az (fun _ _=>rfl)) (aj (pv 1) aq ak) aK)))
   (aC (aZ (aJ (ok_part_made T) (hr.mono (by decide)) (by rfl) T.m_part_made T.zN.kp T.b_part_made .nil aO (aj (aW bT (pv 0) az (fun _ _=>rfl)) (aj (aW bT (pv 0) az (fun _ _=>rfl)) (aj (aW bT (pv 0) az (fun _ _=>rfl)) (aj (aW bT (pv 0) az (fun _ _=>rfl)) (aj (aW bT (pv 0) az (fun _ _=>rfl)) aq aK) aK) aK) aK) aK)))))),?_⟩
  refine⟨_,rfl,r,_,0,_,rfl,rfl,SqT.of hr1,aN (j:=0) rfl,eO i,rfl,?_⟩
  rw [row_of]
  refine⟨_,rfl,fX ?_⟩
  refine⟨_,rfl,r,_,1,_,rfl,rfl,SqT.of hr1,aN (j:=1) rfl,_,rfl,nm,d,kvs,rfl,hd,hz,hl,hv,fun H1 s1=>?_⟩
  have e1:=SqT.of (K:=K) (s1 _ _ hr1)
  exact⟨_,rfl,r,_,0,_,rfl,rfl,e1,aN (j:=0) rfl,_,rfl,r,_,1,_,rfl,rfl,e1,aN (j:=1) rfl,_,rfl,r,_,2,_,rfl,rfl,e1,aN (j:=2) rfl,_,rfl,r,_,3,_,rfl,rfl,e1,aN (j:=3) rfl,_,rfl,r,_,4,_,rfl,rfl,e1,aN (j:=4) rfl,i,.str nm,a1,a2,a3,ns,is,os,rfl,hi,s1.seqA q1,s1.seqA q2,s1.seqA q3,l1,l2,l3,hV,fun H2 p s2 np P=>k _ p (s1.trans s2) (s1.free np) P⟩
def sp_tie_lanes (K:PySem.W.Frag):Sp:=fun vs H Q _=>∃(y:Str) (a rd d:Addr) (zs:List Str) (rk kvs:List (Key×V)),vs=[.str y,.ref a,.ref rd,.ref d]∧SqT K H a (zs.map V.str)∧H rd=some (.dK rk)∧rd≠d∧H d=some (.dK kvs)∧zs.Nodup∧(∀z∈zs,(fG rk (Sum.inr z)).isSome=true∧fG kvs (Sum.inr z)=none)∧kvs.length+zs.length≤1000∧Q .non (upd H d (.dK (kvs ++ zs.map fun l=>((Sum.inr l:Key),V.str y))))
theorem sc_tie_lanes:FnScope ["part", "lanes", "rooms", "ends", "lane"] ["part", "lanes", "rooms", "ends"] (aA j8):=⟨rfl,rfl,rfl,by decide +kernel,rfl,by decide +kernel,by decide +kernel⟩
theorem yw (T:Txt w K mg t):FnOk P w K mg base CX0 1 t.vB t.ug ["part", "lanes", "rooms", "ends"] (sp_tie_lanes K):=by
 have sc:=sc_tie_lanes
 refine T.vV.ok sc (fun vs H Q E h=>?_) (fun cdv A outer s H vs Q E hr h=>?_)
 ·obtain⟨y,a,rd,d,zs,rk,kvs,rfl,_⟩:=h
  rfl
 ·obtain⟨y,a,rd,d,zs,rk,kvs,rfl,hT,hrd,hne,hd,nd,hz,hlen,k⟩:=h
  refine⟨_,(aC (gQ PassesOwn.never rfl (pi_tup (pv 1)) (dz (i:=4) sc.nd rfl (Or.inl rfl))
    (aB (cg (PW.pt (zV (uZ (wA hr.u1 (pv 4) (pv 2))) (xX (uZ (Bg hr.u1 (pv 4) (pv 3))))))
     (aC gJ)
     bQ)
    (aC (jL hr.u1 (pv 3) (pv 4) (pv 0) rfl))))),?_⟩
  have hl:sizeLine=16777216:=sizeLine_eq
  refine⟨_,rfl,a,rfl,⟨_,hT⟩,for_tup (K:=K) (a:=a) (xs:=zs.map V.str) (fun j σ H'=>H'=upd H d (.dK (kvs ++ (zs.take j).map fun l=>((Sum.inr l:Key),V.str y)))∧∃v4,σ=[some (.str y),some (.ref a),some (.ref rd),some (.ref d),v4]) ⟨by rw [List.take_zero,List.map_nil,List.append_nil,upd_id hd],none,rfl⟩ (fun j σ H' _ ⟨e,_⟩=>by rw [e];exact fW hd hT) ?_ ?_⟩
  ·rintro j x σ H' hx ⟨rfl,v4,rfl⟩
   rw [List.getElem?_map] at hx
   obtain⟨z,hzj,rfl⟩:=Option.map_eq_some_iff.mp hx
   have hj:j <zs.length:=(List.getElem?_eq_some_iff.mp hzj).1
   obtain⟨r1,r2⟩:=hz z (List.mem_of_getElem? hzj)
   obtain⟨rv,hrv⟩:=Option.isSome_iff_exists.mp r1
   have erd:upd H d (.dK (kvs ++ (zs.take j).map fun l=>((Sum.inr l:Key),V.str y))) rd=some (.dK rk):=by rw [aH hne];exact hrd
   have nin:z∉zs.take j:=fun hm=>by
    obtain⟨i,hi,ei⟩:=List.mem_iff_getElem.mp hm
    rw [List.length_take] at hi
    rw [List.getElem_take] at ei
    have e2:zs[j]=z:=by rw [List.getElem?_eq_getElem hj] at hzj;exact Option.some.inj hzj
    have:=(List.getElem_inj nd).mp (ei.trans e2.symm)
    omega
   have none':fG (kvs ++ (zs.take j).map fun l=>((Sum.inr l:Key),V.str y)) (Sum.inr z)=none:=uM (by
    rw [List.map_append,List.mem_append,not_or]
    refine⟨fun hm=>?_,fun hm=>?_⟩
    ·have:(fG kvs (Sum.inr z)).isSome=true:=by rw [←rH];obtain⟨p,hp,e⟩:=List.mem_map.mp hm;exact List.any_eq_true.mpr ⟨p,hp,decide_eq_true e⟩
     rw [r2] at this
     cases this
    ·rw [List.map_map] at hm
     obtain⟨b,hb,e⟩:=List.mem_map.mp hm
     cases e
     exact nin hb)
   refine⟨_,rfl,_,rfl,rd,some rv,rfl,(by rw [←hrv];exact ji.k (k:=Sum.inr z) erd),_,rfl,fX ?_⟩
   refine⟨_,rfl,_,rfl,d,none,rfl,(by rw [←none'];exact ji.k (k:=Sum.inr z) au),_,rfl,fX ?_⟩
   refine⟨_,rfl,_,rfl,_,rfl,d,_,rfl,sG.k (k:=Sum.inr z) au (by rw [List.length_append,List.length_map,List.length_take];omega),?_,_,rfl⟩
   rw [qG,yf _ none',List.append_assoc,List.take_succ,hzj,Option.toList_some,List.map_append]
   rfl
  ·rintro σ H' ⟨rfl,v4,rfl⟩
   rw [List.length_map,List.take_length]
   exact k
def sp_need_ends (K:PySem.W.Frag):Sp:=fun vs H Q _=>∃(r g d:Addr) (rk gk tk:List (Key×V)),vs=[.ref r,.ref g,.ref d]∧H r=some (.dK rk)∧H g=some (.dK gk)∧H d=some (.dK tk)∧r≠g∧r≠d∧(∀q∈rk,(fG gk q.1).isSome=true∧(fG tk q.1).isSome=true)∧Q .non H
theorem sc_need_ends:FnScope ["rooms", "givers", "takers", "lane"] ["rooms", "givers", "takers"] (aA j5):=⟨rfl,rfl,rfl,by decide +kernel,rfl,by decide +kernel,by decide +kernel⟩
theorem ok_need_ends (T:Txt w K mg t):FnOk P w K mg base CX0 1 t.uO t.rT ["rooms", "givers", "takers"] (sp_need_ends K):=by
 have sc:=sc_need_ends
 refine T.Ac.ok sc (fun vs H Q E h=>?_) (fun cdv A outer s H vs Q E hr h=>?_)
 ·obtain⟨r,g,d,rk,gk,tk,rfl,_⟩:=h
  rfl
 ·obtain⟨r,g,d,rk,gk,tk,rfl,h1,h2,h3,n1,n2,hA,k⟩:=h
  refine⟨_,(aC (nG (H0:=H) rfl (gQ PassesOwn.never rfl (oW (pv 0)) (dz (i:=3) sc.nd rfl (Or.inl rfl))
    (aC (cg (PW.pt (zV (uZ (wA hr.u1 (pv 3) (pv 1))) (xX (uZ (wA hr.u1 (pv 3) (pv 2))))))
     (aC gJ)
     bQ))))),?_⟩
  refine⟨_,rfl,r,_,rfl,h1,fun o=>rG (fun j σ H'=>H'=upd H r (.frz o (.dK rk))∧∃v3,σ=[some (.ref r),some (.ref g),some (.ref d),v3]) ⟨rfl,none,rfl⟩ (fun j σ H' _ ⟨e,_⟩=>by rw [e];exact au) ?_ ?_⟩
  ·rintro j kk w σ H' hj ⟨rfl,v3,rfl⟩
   obtain⟨a1,a2⟩:=hA _ (List.mem_of_getElem? hj)
   obtain⟨u1,b1⟩:=Option.isSome_iff_exists.mp a1
   obtain⟨u2,b2⟩:=Option.isSome_iff_exists.mp a2
   have e2:upd H r (.frz o (.dK rk)) g=some (.dK gk):=by rw [aH (Ne.symm n1)];exact h2
   have e3:upd H r (.frz o (.dK rk)) d=some (.dK tk):=by rw [aH (Ne.symm n2)];exact h3
   exact⟨_,rfl,_,rfl,g,some u1,rfl,(by rw [←b1];exact ji.k e2),_,rfl,fX ⟨_,rfl,_,rfl,d,some u2,rfl,(by rw [←b2];exact ji.k e3),_,rfl,fX ⟨rfl,_,rfl⟩⟩⟩
  ·rintro σ H' ⟨rfl,v3,rfl⟩
   refine⟨_,⟨r,o,_,au,?_,rfl⟩,?_⟩
   ·intro o' u' z
    rw [show H r=_ from h1] at z
    cases z
   ·rw [qG,upd_id h1]
    exact k
def jkOf (H:Hp) (J:Addr):List (Key×V):=match H J with
 | some (.dK jk)=>jk
 | _=>[]
theorem jkOf_eq {H:Hp} {J:Addr} {jk:List (Key×V)} (h:H J=some (.dK jk)):jkOf H J=jk:=by
 unfold jkOf
 rw [h]
theorem endsK_at {f:PD→List Str} {ps:List PD} {j:Nat} {k:Key} {v:V} (h:(cY f ps)[j]?=some (k,v)):∃p∈ps,∃l∈f p,k=Sum.inr l∧v=.str p.name:=by
 have:=List.mem_of_getElem? h
 unfold cY at this
 obtain⟨p,hp,hm⟩:=List.mem_flatMap.mp this
 obtain⟨l,hl,e⟩:=List.mem_map.mp hm
 cases e
 exact⟨p,hp,l,hl,rfl,rfl⟩
def Even (ps:List PD) (jk:List (Key×V)) (j:Nat):Prop:=∀i k v,i <j→(cY (·.outs) ps)[i]?=some (k,v)→∀a∈ps,∀b∈ps,∀l,k=Sum.inr l→l∈a.outs→l∈b.ins→gU jk a.name=gU jk b.name
theorem Even.all {ps:List PD} {jk:List (Key×V)} (h:Even ps jk (cY (·.outs) ps).length):∀a∈ps,∀b∈ps,∀l,l∈a.outs→l∈b.ins→gU jk a.name=gU jk b.name:=fun a ha b hb l la lb=>by
 have hm:((Sum.inr l:Key),V.str a.name)∈cY (·.outs) ps:=List.mem_flatMap.mpr ⟨a,ha,List.mem_map.mpr ⟨l,la,rfl⟩⟩
 obtain⟨i,hi,ei⟩:=List.mem_iff_getElem.mp hm
 exact h i _ _ hi (by rw [List.getElem?_eq_getElem hi,ei]) a ha b hb l rfl la lb
def sp_joined_with (K:PySem.W.Frag):Sp:=fun vs H Q _=>∃(p0:PD) (g d:Addr) (ps:List PD),vs=[.str p0.name,.ref g,.ref d]∧p0∈ps∧ps.length≤16∧H g=some (.dK (cY (·.outs) ps))∧H d=some (.dK (cY (·.ins) ps))∧g≠d∧(ps.flatMap (·.outs)).Nodup∧(ps.flatMap (·.ins)).Nodup∧(ps.flatMap (·.outs)).Perm (ps.flatMap (·.ins))∧(∃y,∀q∈ps,∃x∈q.ins ++ q.outs,Drawn.Conn ps x y)∧∀H' J jk,aQ H H'→H' J=some (.dK jk)→(∀p∈ps,gU jk p.name=true)→Q (.ref J) H'
theorem sc_joined_with:FnScope ["part", "givers", "takers", "joined", "grown", "lane"] ["part", "givers", "takers"] (aA iy):=⟨rfl,rfl,rfl,by decide +kernel,rfl,by decide +kernel,by decide +kernel⟩
theorem ok_joined_with (T:Txt w K mg t):FnOk P w K mg base CX0 1 t.qY t.pL ["part", "givers", "takers"] (sp_joined_with K):=by
 have sc:=sc_joined_with
 refine T.wW.ok sc (fun vs H Q E h=>?_) (fun cdv A outer s H vs Q E hr h=>?_)
 ·obtain⟨p0,g,d,ps,rfl,_⟩:=h
  rfl
 ·obtain⟨p0,g,d,ps,rfl,hp0,hps,h1,h2,n1,no,ni,pm,hang,k⟩:=h
  refine⟨_,(aB (aX (i:=3) sc.nd rfl (Or.inl rfl) (pe_disp (pps_cons (pv 0) iT pps_nil) rfl rfl (by simp) (by decide)))
   (aB (aX (i:=4) sc.nd rfl (Or.inl rfl) iT)
   (aB (yc PassesOwn.never (mj (pv 4))
    (aB (aX (i:=4) sc.nd rfl (Or.inl rfl) iT)
    (aC (nG (H0:=H) rfl (gQ PassesOwn.never rfl (oW (pv 1)) (dz (i:=5) sc.nd rfl (Or.inl rfl))
     (aC (gf (cg (bz op_ne (pe_cmp (Bg hr.u1 (dD hr.u1 (pv 1) (pv 5) (fun _ _=>rfl)) (pv 3))) (pe_cmp (Bg hr.u1 (dD hr.u1 (pv 2) (pv 5) (fun _ _=>rfl)) (pv 3))) (bU _))
      (aB (jL hr.u1 (pv 3) (dD hr.u1 (pv 1) (pv 5) (fun _ _=>rfl)) iT rfl)
      (aB (jL hr.u1 (pv 3) (dD hr.u1 (pv 2) (pv 5) (fun _ _=>rfl)) iT rfl)
      (aC (aX (i:=4) sc.nd rfl (Or.inl rfl) iT))))
      bQ))))))))
   (aC (aZ (pv 3)))))),?_⟩
  have hl:sizeLine=16777216:=sizeLine_eq
  refine fun J nJ=>⟨_,rfl,au,[((Sum.inr p0.name:Key),V.bl true)],rfl,by show 1≤15;decide,?_⟩
  rw [qG]
  have s0:aQ H (upd H J (.dK (uC [] [((Sum.inr p0.name:Key),V.bl true)]))):=aD nJ
  have e0:(upd H J (.dK (uC [] [((Sum.inr p0.name:Key),V.bl true)]))) J=some (.dK [((Sum.inr p0.name:Key),V.bl true)]):=au
  generalize upd H J (.dK (uC [] [((Sum.inr p0.name:Key),V.bl true)]))=H0 at s0 e0 ⊢
  have ngJ:J≠g:=Ne.symm (aF h1 nJ)
  have ndJ:J≠d:=Ne.symm (aF h2 nJ)
  have melt:∀{H':Hp} {o:Obj},But g H H'→H' g=some (.frz o (.dK (cY (·.outs) ps)))→aQ H (upd H' g (.dK (cY (·.outs) ps))):=fun hb hg b u e=>by
   by_cases h:b=g
   ·subst h;rw [au];rw [h1] at e;exact e
   ·rw [aH h];exact hb b u h e
  have m0:pG ps [((Sum.inr p0.name:Key),V.bl true)]≤16:=Nat.le_trans (List.length_filter_le _ _) hps
  refine Bq (fun σ H'=>aQ H H'∧∃b v5 jk,σ=[some (.str p0.name),some (.ref g),some (.ref d),some (.ref J),some (.bl b),v5]∧H' J=some (.dK jk)∧gU jk p0.name=true∧jk.length+2 * pG ps jk≤40∧(b=false→Even ps jk (cY (·.outs) ps).length))
   (fun σ H'=>match σ with | [_,_,_,_,some (.bl b),_]=>(if b then 1 else 0)+2 * pG ps (jkOf H' J) | _=>0) ⟨s0,true,none,_,rfl,e0,by simp [gU,fG],by rw [List.length_singleton];omega,by intro z;cases z⟩ ?_ ?_
  ·rintro σ H1 ⟨s1,b,v5,jk,rfl,hJ,hp,hlen,hev⟩
   cases b with
   | false=>exact⟨_,rfl,_,rfl,fX ⟨_,rfl,k _ J jk s1 hJ (all_in no ni pm hang (hev rfl).all hp0 hp)⟩⟩
   | true=>
    refine⟨_,rfl,_,rfl,lX ?_⟩
    refine⟨_,rfl,g,_,rfl,s1 _ _ h1,fun o=>?_⟩
    have gD:∀{H':Hp},But g H H'→H' d=some (.dK (cY (·.ins) ps)):=fun hb=>hb d _ (Ne.symm n1) h2
    refine rG (fun j σ H'=>But g H H'∧H' g=some (.frz o (.dK (cY (·.outs) ps)))∧∃b v5 jk',σ=[some (.str p0.name),some (.ref g),some (.ref d),some (.ref J),some (.bl b),v5]∧H' J=some (.dK jk')∧gU jk' p0.name=true∧jk'.length+2 * pG ps jk'≤40∧((b=false∧jk'=jk∧Even ps jk j)∨(b=true∧pG ps jk' <pG ps jk)))
     ⟨fun b u hn e=>by rw [aH hn];exact s1 b u e,au,false,v5,jk,rfl,by rw [aH ngJ];exact hJ,hp,hlen,.inl ⟨rfl,rfl,fun i _ _ hi=>absurd hi (by omega)⟩⟩ (fun j σ H' _ h=>h.2.1) ?_ ?_
    ·rintro j kk w σ H' hj ⟨hb,hg,b,v5,jk',rfl,hJ',hp',hlen',hv⟩
     obtain⟨a,ha,l,la,rfl,rfl⟩:=endsK_at hj
     obtain⟨b',hb',lb⟩:=List.mem_flatMap.mp (pm.mem_iff.mp (List.mem_flatMap.mpr ⟨a,ha,la⟩))
     have ga:ji H' g (.str l) (some (.str a.name)):=.inl ⟨_,Sum.inr l,.inr ⟨o,hg⟩,rfl,(eX no ha la).symm⟩
     have gb:ji H' d (.str l) (some (.str b'.name)):=by rw [←eX ni hb' lb];exact ji.k (k:=Sum.inr l) (gD hb)
     have ja:ji H' J (.str a.name) (fG jk' (Sum.inr a.name)):=ji.k (k:=Sum.inr a.name) hJ'
     have jb:ji H' J (.str b'.name) (fG jk' (Sum.inr b'.name)):=ji.k (k:=Sum.inr b'.name) hJ'
     have nm:∀a2∈ps,∀b2∈ps,l∈a2.outs→l∈b2.ins→a2.name=a.name∧b2.name=b'.name:=fun a2 ha2 b2 hb2 q1 q2=>by
      have e1:=eX no ha2 q1
      rw [eX no ha la] at e1
      have e2:=eX ni hb2 q2
      rw [eX ni hb' lb] at e2
      simp only [Option.some.injEq,V.str.injEq] at e1 e2
      exact⟨e1.symm,e2.symm⟩
     refine⟨fun σ H''=>But g H H''∧H'' g=some (.frz o (.dK (cY (·.outs) ps)))∧∃b jk'',σ=[some (.str p0.name),some (.ref g),some (.ref d),some (.ref J),some (.bl b),some (.str l)]∧H'' J=some (.dK jk'')∧gU jk'' p0.name=true∧jk''.length+2 * pG ps jk''≤40∧((b=false∧jk''=jk∧Even ps jk (j+1))∨(b=true∧pG ps jk'' <pG ps jk)),?_,?_⟩
     ·refine⟨_,rfl,_,rfl,g,_,rfl,ga,_,rfl,J,_,rfl,ja,?_⟩
      refine⟨_,rfl,_,rfl,d,_,rfl,gb,_,rfl,J,_,rfl,jb,rfl,_,rfl,?_⟩
      change if (!decide (V.bl (gU jk' a.name)=V.bl (gU jk' b'.name)))=true then _ else _
      refine jM (fun hne=>?_) (fun heq=>?_)
      ·have hne':gU jk' a.name≠gU jk' b'.name:=fun z=>by rw [z] at hne;simp at hne
       refine⟨_,rfl,_,rfl,_,rfl,g,_,rfl,ga,J,_,rfl,sG.k (k:=Sum.inr a.name) hJ' (by omega),?_⟩
       have b2:But g H (upd H' J (.dK (putK jk' (Sum.inr a.name) (.bl true)))):=fun x u hn e=>by rw [aH (aF e nJ)];exact hb x u hn e
       have g2:(upd H' J (.dK (putK jk' (Sum.inr a.name) (.bl true)))) g=some (.frz o (.dK (cY (·.outs) ps))):=by rw [aH (Ne.symm ngJ)];exact hg
       have gb2:ji (upd H' J (.dK (putK jk' (Sum.inr a.name) (.bl true)))) d (.str l) (some (.str b'.name)):=by rw [←eX ni hb' lb];exact ji.k (k:=Sum.inr l) (gD b2)
       have len1:=m6 jk' (Sum.inr a.name:Key) (.bl true)
       have len2:=m6 (putK jk' (Sum.inr a.name) (.bl true)) (Sum.inr b'.name:Key) (.bl true)
       refine⟨_,rfl,_,rfl,_,rfl,d,_,rfl,gb2,J,_,rfl,sG.k (k:=Sum.inr b'.name) au (by omega),?_⟩
       rw [qG]
       have has2:∀x,gU (putK (putK jk' (Sum.inr a.name) (.bl true)) (Sum.inr b'.name) (.bl true)) x=(decide (x=b'.name) || (decide (x=a.name) || gU jk' x)):=fun x=>by rw [hasN_put,hasN_put]
       have mono:∀x,gU jk' x=true→gU (putK (putK jk' (Sum.inr a.name) (.bl true)) (Sum.inr b'.name) (.bl true)) x=true:=fun x hx=>by rw [has2,hx];simp
       have lt:pG ps (putK (putK jk' (Sum.inr a.name) (.bl true)) (Sum.inr b'.name) (.bl true)) <pG ps jk':=by
        cases hA:gU jk' a.name
        ·exact missN_lt mono ha hA (by rw [has2];simp)
        ·cases hB:gU jk' b'.name
         ·exact missN_lt mono hb' hB (by rw [has2];simp)
         ·rw [hA,hB] at hne';exact absurd rfl hne'
       refine⟨fun x u hn e=>by rw [aH (aF e nJ)];exact hb x u hn e,by rw [aH (Ne.symm ngJ)];exact hg,true,_,rfl,au,mono _ hp',by omega,.inr ⟨rfl,?_⟩⟩
       rcases hv with ⟨_,rfl,_⟩ | ⟨_,hv⟩
       ·exact lt
       ·omega
      ·have heq':gU jk' a.name=gU jk' b'.name:=by
        cases hA:gU jk' a.name <;> cases hB:gU jk' b'.name <;> rw [hA,hB] at heq <;> simp_all
       refine⟨hb,hg,b,jk',rfl,hJ',hp',hlen',?_⟩
       rcases hv with ⟨rfl,rfl,hE⟩ | hv
       ·refine .inl ⟨rfl,rfl,fun i k2 v2 hi e2 a2 ha2 b2 hb2 l2 ek q1 q2=>?_⟩
        rcases Nat.lt_or_ge i j with h | h
        ·exact hE i k2 v2 h e2 a2 ha2 b2 hb2 l2 ek q1 q2
        ·have:i=j:=by omega
         subst this
         rw [hj] at e2
         cases e2
         cases ek
         obtain⟨x1,x2⟩:=nm a2 ha2 b2 hb2 q1 q2
         rw [x1,x2]
         exact heq'
       ·exact .inr hv
     ·rintro σ H'' ⟨hb,hg,b,jk'',rfl,r⟩
      exact⟨hb,hg,b,_,jk'',rfl,r⟩
    ·rintro σ H' ⟨hb,hg,b,v5',jk',rfl,hJ',hp',hlen',hv⟩
     refine⟨_,⟨g,o,_,hg,(fun o' u' z=>by rw [show H g=_ from h1] at z;cases z),rfl⟩,?_⟩
     have eJ:(upd H' g (.dK (cY (·.outs) ps))) J=some (.dK jk'):=by rw [aH ngJ];exact hJ'
     refine⟨⟨melt hb hg,b,v5',jk',rfl,eJ,hp',hlen',fun z=>?_⟩,?_⟩
     ·rcases hv with ⟨_,rfl,hE⟩ | ⟨h,_⟩
      ·exact hE
      ·rw [h] at z;cases z
     ·show(if b=true then 1 else 0)+2 * pG ps (jkOf _ J) <(if true=true then 1 else 0)+2 * pG ps (jkOf _ J)
      rw [jkOf_eq eJ,jkOf_eq hJ]
      rcases hv with ⟨rfl,rfl,_⟩ | ⟨rfl,h⟩
      ·simp
      ·simp;omega
  ·intro σ H' Q' Q'' hm hq
   obtain⟨v,e,b,e2,q⟩:=hq
   exact⟨v,e,b,e2,hm _ _ q⟩
def sp_need_joined (K:PySem.W.Frag):Sp:=fun vs H Q _=>∃(L g d:Addr) (ps:List PD),vs=[.ref L,.ref g,.ref d]∧SqL K H L (ps.map fun p=>V.str p.name)∧1≤ps.length∧ps.length≤16∧H g=some (.dK (cY (·.outs) ps))∧H d=some (.dK (cY (·.ins) ps))∧g≠d∧(ps.flatMap (·.outs)).Nodup∧(ps.flatMap (·.ins)).Nodup∧(ps.flatMap (·.outs)).Perm (ps.flatMap (·.ins))∧(∃y,∀q∈ps,∃x∈q.ins ++ q.outs,Drawn.Conn ps x y)∧∀H',aQ H H'→Q .non H'
theorem sc_need_joined:FnScope ["names", "givers", "takers", "joined", "name"] ["names", "givers", "takers"] (aA iB):=⟨rfl,rfl,rfl,by decide +kernel,rfl,by decide +kernel,by decide +kernel⟩
theorem ok_need_joined (T:Txt w K mg t):FnOk P w K mg base CX0 2 t.rm t.pY ["names", "givers", "takers"] (sp_need_joined K):=by
 have sc:=sc_need_joined
 refine T.wL.ok sc (fun vs H Q E h=>?_) (fun cdv A outer s H vs Q E hr h=>?_)
 ·obtain⟨L,g,d,ps,rfl,_⟩:=h
  rfl
 ·obtain⟨L,g,d,ps,rfl,hL,hp1,hps,h1,h2,n1,no,ni,pm,hang,k⟩:=h
  refine⟨_,(aB (aX (i:=3) sc.nd rfl (Or.inl rfl) (aJ (ok_joined_with T) (hr.mono (by decide)) (by rfl) T.m_joined_with T.wW.kp T.b_joined_with .nil aO (aj (aW bN (pv 0) az (fun _ _=>rfl)) (aj (pv 1) (aj (pv 2) aq ak) ak) aK)))
   (aC (gQ PassesOwn.never rfl (iQ (pv 0)) (dz (i:=4) sc.nd rfl (Or.inl rfl))
    (aC (cg (uZ (wA hr.u1 (pv 4) (pv 3)))
     (aC gJ)
     bQ))))),?_⟩
  obtain⟨p0,pr,rfl⟩:∃p0 pr,ps=p0:: pr:=by
   cases ps with
   | nil=>simp at hp1
   | cons a r=>exact⟨a,r,rfl⟩
  refine⟨_,rfl,L,_,0,_,rfl,rfl,hL,aN (j:=0) rfl,_,rfl,_,rfl,p0,g,d,_,rfl,List.mem_cons_self,hps,h1,h2,n1,no,ni,pm,hang,fun H1 J jk s1 eJ hA=>?_⟩
  refine⟨_,rfl,L,rfl,⟨_,s1.seq hL⟩,nH (K:=K) (a:=L) (xs:=(p0:: pr).map fun p=>V.str p.name) (fun j σ H'=>H'=H1∧∃v4,σ=[some (.ref L),some (.ref g),some (.ref d),some (.ref J),v4]) ⟨rfl,none,rfl⟩ (fun j σ H' _ ⟨e,_⟩=>by rw [e];exact s1.seq hL) ?_ ?_⟩
  ·rintro j x σ H' hx ⟨rfl,v4,rfl⟩
   rw [List.getElem?_map] at hx
   obtain⟨p,hp,rfl⟩:=Option.map_eq_some_iff.mp hx
   obtain⟨u,hu⟩:=Option.isSome_iff_exists.mp (hA p (List.mem_of_getElem? hp))
   exact⟨_,rfl,_,rfl,J,some u,rfl,(by rw [←hu];exact ji.k (k:=Sum.inr p.name) eJ),_,rfl,fX ⟨rfl,_,rfl⟩⟩
  ·rintro σ H' ⟨rfl,v4,rfl⟩
   exact k _ s1
def sp_Net_lane_names (K:PySem.W.Frag) (t:Adr):Sp:=fun vs H Q _=>∃(n:Addr) (ls:List LaneD) (ps:List PD),vs=[.ref n]∧qg K t H n ls ps∧∀l,H l=none→Q (.ref l) (upd H l (.lst (ls.map fun x=>V.str x.name)))
theorem sc_Net_lane_names:FnScope ["self"] ["self"] (aA eY):=⟨rfl,rfl,rfl,by decide +kernel,rfl,by decide +kernel,by decide +kernel⟩
theorem qF (T:Txt w K mg t):FnOk P w K mg base CX0 1 t.lY t.kZ ["self"] (sp_Net_lane_names K t):=by
 have sc:=sc_Net_lane_names
 refine T.F_Net_lane_names.ok sc (fun vs H Q E h=>?_) (fun cdv A outer s H vs Q E hr h=>?_)
 ·obtain⟨n,ls,ps,rfl,_⟩:=h
  rfl
 ·obtain⟨n,ls,ps,rfl,N,k⟩:=h
  refine⟨_,(aC (aZ (eZ (pU rfl) (by rfl) T.Bh yp (aj (cJ (pv 0) rfl) aq bf)))),?_⟩
  obtain⟨dx,fs,R,F,Pd,G,Tk,FL,PL,W⟩:=id N
  refine⟨_,rfl,n,_,dx,fs,_,rfl,W.obj,T.cB,T.cG,W.fl.has ("rooms",.ref R) (by simp),R,_,rfl,.inl W.rooms,fun l hl=>?_⟩
  unfold dm
  rw [List.map_map]
  exact k l hl
def sp_Net_part_names (K:PySem.W.Frag) (t:Adr):Sp:=fun vs H Q _=>∃(n:Addr) (ls:List LaneD) (ps:List PD),vs=[.ref n]∧qg K t H n ls ps∧∀l,H l=none→Q (.ref l) (upd H l (.lst (ps.map fun x=>V.str x.name)))
theorem sc_Net_part_names:FnScope ["self"] ["self"] (aA fc):=⟨rfl,rfl,rfl,by decide +kernel,rfl,by decide +kernel,by decide +kernel⟩
theorem ql (T:Txt w K mg t):FnOk P w K mg base CX0 1 t.lZ t.lG ["self"] (sp_Net_part_names K t):=by
 have sc:=sc_Net_part_names
 refine T.F_Net_part_names.ok sc (fun vs H Q E h=>?_) (fun cdv A outer s H vs Q E hr h=>?_)
 ·obtain⟨n,ls,ps,rfl,_⟩:=h
  rfl
 ·obtain⟨n,ls,ps,rfl,N,k⟩:=h
  refine⟨_,(aC (aZ (eZ (pU rfl) (by rfl) T.Bh yp (aj (cJ (pv 0) rfl) aq bf)))),?_⟩
  obtain⟨dx,fs,R,F,Pd,G,Tk,FL,PL,W⟩:=id N
  refine⟨_,rfl,n,_,dx,fs,_,rfl,W.obj,T.cB,T.cT,W.fl.has ("parts",.ref Pd) (by simp),Pd,_,rfl,.inl W.parts,fun l hl=>?_⟩
  unfold cP
  rw [List.map_map]
  have e:ps.map (fun x=>V.str x.name)=PL.map (fun q=>V.str q.1.name):=by rw [←W.pls,List.map_map];rfl
  rw [e] at k
  exact k l hl
def sp_Net_need_lane_name (K:PySem.W.Frag) (t:Adr):Sp:=fun vs H Q E=>∃(n:Addr) (ls:List LaneD) (ps:List PD) (x:Str),vs=[.ref n,.str x]∧qg K t H n ls ps∧((x∈ls.map (·.name)∧∀H',aQ H H'→Q .non H')∨(x∉ls.map (·.name)∧∀dx H',aQ H H'→H' dx=some (.xd [("name",.str x)])→E (.ref t.dB) (some dx) H'))
theorem sc_Net_need_lane_name:FnScope ["self", "name"] ["self", "name"] (aA dw):=⟨rfl,rfl,rfl,by decide +kernel,rfl,by decide +kernel,by decide +kernel⟩
theorem fu (T:Txt w K mg t):FnOk P w K mg base (CX2 P w) 3 t.jg t.iM ["self", "name"] (sp_Net_need_lane_name K t):=by
 have sc:=sc_Net_need_lane_name
 refine T.F_Net_need_lane_name.ok2 sc (fun vs H Q E h=>?_) (fun cdv A outer s H vs Q E hr h=>?_)
 ·obtain⟨n,ls,ps,x,rfl,_⟩:=h
  rfl
 ·obtain⟨n,ls,ps,x,rfl,N,h⟩:=h
  refine⟨_,(aC (cg (bz yt (pv 1) (lw (pv 0) T.cB T.qD (qF T) (hr.mono (by decide)) T.rK .nil aO) (by with_unfolding_all rfl))
    (aC (zq T.X_NoSuch (ok_NoSuch___init__ T) (hr.mono (by decide)) (by rfl) T.mc_NoSuch T.b_NoSuch___init__ aO (aj (pv 1) aq ak)))
    bQ)),?_⟩
  obtain⟨dx,fs,R,F,Pd,G,Tk,FL,PL,W⟩:=id N
  refine⟨_,rfl,_,rfl,n,dx,fs,rfl,W.obj,W.fl.no _ (by decide +kernel),n,ls,ps,rfl,N,fun l hl=>?_⟩
  have s1:=aD (o:=.lst (ls.map fun x=>V.str x.name)) hl
  refine⟨l,_,rfl,.inl (SqL.of au),rfl,by simp [rJ],_,rfl,?_⟩
  rw [in_names (f:=fun x:LaneD=>x.name)]
  rcases h with ⟨hx,k⟩ | ⟨hx,kE⟩
  ·rw [decide_eq_true hx]
   exact fX (k _ s1)
  ·rw [decide_eq_false hx]
   refine lX ?_
   refine⟨_,rfl,by show 1≤1000;decide,fun y ny n0=>⟨y,_,rfl,au,fun dx' nd ne=>⟨rfl,y,dx',rfl,n0,by rw [aH ne.symm];exact au,?_⟩⟩⟩
   have rz:=raised (fs:=[(("name" :Str),V.str x)]) ny nd ne
   exact kE dx' _ (s1.trans rz.1) rz.2
def sp_Net_room_of (K:PySem.W.Frag) (t:Adr):Sp:=fun vs H Q E=>∃(n:Addr) (ls:List LaneD) (ps:List PD) (x:Str),vs=[.ref n,.str x]∧qg K t H n ls ps∧((∃l∈ls,l.name=x∧∀H',aQ H H'→Q (.int l.room) H')∨(x∉ls.map (·.name)∧∀dx H',aQ H H'→H' dx=some (.xd [("name",.str x)])→E (.ref t.dB) (some dx) H'))
theorem sc_Net_room_of:FnScope ["self", "name"] ["self", "name"] (aA iK):=⟨rfl,rfl,rfl,by decide +kernel,rfl,by decide +kernel,by decide +kernel⟩
theorem ok_Net_room_of (T:Txt w K mg t):FnOk P w K mg base (CX2 P w) 4 t.qO t.pH ["self", "name"] (sp_Net_room_of K t):=by
 have sc:=sc_Net_room_of
 refine T.F_Net_room_of.ok2 sc (fun vs H Q E h=>?_) (fun cdv A outer s H vs Q E hr h=>?_)
 ·obtain⟨n,ls,ps,x,rfl,_⟩:=h
  rfl
 ·obtain⟨n,ls,ps,x,rfl,N,h⟩:=h
  refine⟨_,(aB (bF (qj (pv 0) T.cB T.fB (fu T) (hr.mono (by decide)) T.fO .nil (pass2 fun _ _ _ h=>h) (aj (pv 1) aq ak)))
   (aC (aZ (dD hr.u1 (cJ (pv 0) rfl) (pv 1) (fun _ _=>rfl))))),?_⟩
  obtain⟨dx,fs,R,F,Pd,G,Tk,FL,PL,W⟩:=id N
  refine⟨_,rfl,n,dx,fs,rfl,W.obj,W.fl.no _ (by decide +kernel),_,rfl,n,ls,ps,x,rfl,N,?_⟩
  rcases h with ⟨l,hl,rfl,k⟩ | h
  ·refine .inl ⟨List.mem_map.mpr ⟨l,hl,rfl⟩,fun H1 s1=>?_⟩
   have W1:=W.same s1
   have hv:=W1.room hl
   refine⟨_,rfl,n,_,dx,fs,_,rfl,W1.obj,T.cB,T.cG,W1.fl.has ("rooms",.ref R) (by simp),_,rfl,R,_,rfl,(by rw [←hv];exact ji.k (k:=Sum.inr l.name) W1.rooms),?_⟩
   exact k _ s1
  ·exact .inr h
def sp_Net_first_of (K:PySem.W.Frag) (t:Adr):Sp:=fun vs H Q E=>∃(n:Addr) (ls:List LaneD) (ps:List PD) (x:Str),vs=[.ref n,.str x]∧qg K t H n ls ps∧((∃l∈ls,l.name=x∧∀H' p,aQ H H'→H p=none→H' p=some (.lst (l.first.map V.int))→Q (.ref p) H')∨(x∉ls.map (·.name)∧∀dx H',aQ H H'→H' dx=some (.xd [("name",.str x)])→E (.ref t.dB) (some dx) H'))
theorem sc_Net_first_of:FnScope ["self", "name"] ["self", "name"] (aA gA):=⟨rfl,rfl,rfl,by decide +kernel,rfl,by decide +kernel,by decide +kernel⟩
theorem ok_Net_first_of (T:Txt w K mg t):FnOk P w K mg base (CX2 P w) 4 t.pP t.oK ["self", "name"] (sp_Net_first_of K t):=by
 have sc:=sc_Net_first_of
 refine T.F_Net_first_of.ok2 sc (fun vs H Q E h=>?_) (fun cdv A outer s H vs Q E hr h=>?_)
 ·obtain⟨n,ls,ps,x,rfl,_⟩:=h
  rfl
 ·obtain⟨n,ls,ps,x,rfl,N,h⟩:=h
  refine⟨_,(aB (bF (qj (pv 0) T.cB T.fB (fu T) (hr.mono (by decide)) T.fO .nil (pass2 fun _ _ _ h=>h) (aj (pv 1) aq ak)))
   (aC (aZ (eZ yP (by rfl) T.Bh yp (aj (dD hr.u1 (cJ (pv 0) rfl) (pv 1) (fun _ _=>rfl)) aq aK))))),?_⟩
  obtain⟨dx,fs,R,F,Pd,G,Tk,FL,PL,W⟩:=id N
  refine⟨_,rfl,n,dx,fs,rfl,W.obj,W.fl.no _ (by decide +kernel),_,rfl,n,ls,ps,x,rfl,N,?_⟩
  rcases h with ⟨l,hl,rfl,k⟩ | h
  ·refine .inl ⟨List.mem_map.mpr ⟨l,hl,rfl⟩,fun H1 s1=>?_⟩
   have W1:=W.same s1
   obtain⟨q,hq,eq⟩:∃q∈FL,q.1=l:=by
    rw [←W.fls] at hl
    obtain⟨q,hq,e⟩:=List.mem_map.mp hl
    exact⟨q,hq,e⟩
   subst eq
   have hv:=W1.firstV hq
   refine⟨_,rfl,n,_,dx,fs,_,rfl,W1.obj,T.cB,T.eU,W1.fl.has ("firsts",.ref F) (by simp),_,rfl,F,_,rfl,(by rw [←hv];exact ji.k (k:=Sum.inr q.1.name) W1.firsts),?_⟩
   exact⟨q.2,_,rfl,.inr (W1.tups q hq),fun p hp=>k _ p (s1.trans (aD hp)) (s1.free hp) au⟩
  ·exact .inr h
def sp_Net_giver_of (K:PySem.W.Frag) (t:Adr):Sp:=fun vs H Q E=>∃(n:Addr) (ls:List LaneD) (ps:List PD) (x:Str),vs=[.ref n,.str x]∧qg K t H n ls ps∧((∃l∈ls,l.name=x∧∀p∈ps,l.name∈p.outs→∀H',aQ H H'→Q (.str p.name) H')∨(x∉ls.map (·.name)∧∀dx H',aQ H H'→H' dx=some (.xd [("name",.str x)])→E (.ref t.dB) (some dx) H'))
theorem sc_Net_giver_of:FnScope ["self", "name"] ["self", "name"] (aA gm):=⟨rfl,rfl,rfl,by decide +kernel,rfl,by decide +kernel,by decide +kernel⟩
theorem ok_Net_giver_of (T:Txt w K mg t):FnOk P w K mg base (CX2 P w) 4 t.pZ t.oM ["self", "name"] (sp_Net_giver_of K t):=by
 have sc:=sc_Net_giver_of
 refine T.F_Net_giver_of.ok2 sc (fun vs H Q E h=>?_) (fun cdv A outer s H vs Q E hr h=>?_)
 ·obtain⟨n,ls,ps,x,rfl,_⟩:=h
  rfl
 ·obtain⟨n,ls,ps,x,rfl,N,h⟩:=h
  refine⟨_,(aB (bF (qj (pv 0) T.cB T.fB (fu T) (hr.mono (by decide)) T.fO .nil (pass2 fun _ _ _ h=>h) (aj (pv 1) aq ak)))
   (aC (aZ (dD hr.u1 (cJ (pv 0) rfl) (pv 1) (fun _ _=>rfl))))),?_⟩
  obtain⟨dx,fs,R,F,Pd,G,Tk,FL,PL,W⟩:=id N
  refine⟨_,rfl,n,dx,fs,rfl,W.obj,W.fl.no _ (by decide +kernel),_,rfl,n,ls,ps,x,rfl,N,?_⟩
  rcases h with ⟨l,hl,rfl,k⟩ | h
  ·refine .inl ⟨List.mem_map.mpr ⟨l,hl,rfl⟩,fun H1 s1=>?_⟩
   have W1:=W.same s1
   obtain⟨p,hp,hlp⟩:∃p∈ps,l.name∈p.outs:=List.mem_flatMap.mp (W.fit.whole.outs.mem_iff.mpr (List.mem_map.mpr ⟨l,hl,rfl⟩))
   have hv:=eX (f:=(·.outs)) W.ono hp hlp
   refine⟨_,rfl,n,_,dx,fs,_,rfl,W1.obj,T.cB,T.dJ,W1.fl.has ("givers",.ref G) (by simp),_,rfl,G,_,rfl,(by rw [←hv];exact ji.k (k:=Sum.inr l.name) W1.givers),?_⟩
   exact k p hp hlp _ s1
  ·exact .inr h
def sp_Net_taker_of (K:PySem.W.Frag) (t:Adr):Sp:=fun vs H Q E=>∃(n:Addr) (ls:List LaneD) (ps:List PD) (x:Str),vs=[.ref n,.str x]∧qg K t H n ls ps∧((∃l∈ls,l.name=x∧∀p∈ps,l.name∈p.ins→∀H',aQ H H'→Q (.str p.name) H')∨(x∉ls.map (·.name)∧∀dx H',aQ H H'→H' dx=some (.xd [("name",.str x)])→E (.ref t.dB) (some dx) H'))
theorem sc_Net_taker_of:FnScope ["self", "name"] ["self", "name"] (aA gw):=⟨rfl,rfl,rfl,by decide +kernel,rfl,by decide +kernel,by decide +kernel⟩
theorem ok_Net_taker_of (T:Txt w K mg t):FnOk P w K mg base (CX2 P w) 4 t.pO t.oG ["self", "name"] (sp_Net_taker_of K t):=by
 have sc:=sc_Net_taker_of
 refine T.F_Net_taker_of.ok2 sc (fun vs H Q E h=>?_) (fun cdv A outer s H vs Q E hr h=>?_)
 ·obtain⟨n,ls,ps,x,rfl,_⟩:=h
  rfl
 ·obtain⟨n,ls,ps,x,rfl,N,h⟩:=h
  refine⟨_,(aB (bF (qj (pv 0) T.cB T.fB (fu T) (hr.mono (by decide)) T.fO .nil (pass2 fun _ _ _ h=>h) (aj (pv 1) aq ak)))
   (aC (aZ (dD hr.u1 (cJ (pv 0) rfl) (pv 1) (fun _ _=>rfl))))),?_⟩
  obtain⟨dx,fs,R,F,Pd,G,Tk,FL,PL,W⟩:=id N
  refine⟨_,rfl,n,dx,fs,rfl,W.obj,W.fl.no _ (by decide +kernel),_,rfl,n,ls,ps,x,rfl,N,?_⟩
  rcases h with ⟨l,hl,rfl,k⟩ | h
  ·refine .inl ⟨List.mem_map.mpr ⟨l,hl,rfl⟩,fun H1 s1=>?_⟩
   have W1:=W.same s1
   obtain⟨p,hp,hlp⟩:∃p∈ps,l.name∈p.ins:=List.mem_flatMap.mp (W.fit.whole.ins.mem_iff.mpr (List.mem_map.mpr ⟨l,hl,rfl⟩))
   have hv:=eX (f:=(·.ins)) W.ini hp hlp
   refine⟨_,rfl,n,_,dx,fs,_,rfl,W1.obj,T.cB,T.dM,W1.fl.has ("takers",.ref Tk) (by simp),_,rfl,Tk,_,rfl,(by rw [←hv];exact ji.k (k:=Sum.inr l.name) W1.takers),?_⟩
   exact k p hp hlp _ s1
  ·exact .inr h
theorem kind_ok (T:Txt w K mg t) (i:Nat):MethAt P w K mg base CX0 1 (cls t i) "kind" (iR i):=match i with
 | 0=>⟨_,_,_,T.c_Give,T.me_Give_kind,T.b_Give_kind,ok_Give_kind T⟩
 | 1=>⟨_,_,_,T.c_Take,T.me_Take_kind,T.b_Take_kind,ok_Take_kind T⟩
 | 2=>⟨_,_,_,T.c_Pass,T.me_Pass_kind,T.b_Pass_kind,ok_Pass_kind T⟩
 | 3=>⟨_,_,_,T.c_Copy,T.me_Copy_kind,T.b_Copy_kind,ok_Copy_kind T⟩
 | 4=>⟨_,_,_,T.c_Turn,T.me_Turn_kind,T.b_Turn_kind,ok_Turn_kind T⟩
 | 5=>⟨_,_,_,T.c_Heap,T.me_Heap_kind,T.b_Heap_kind,ok_Heap_kind T⟩
 | 6=>⟨_,_,_,T.c_Add,T.me_Add_kind,T.b_Add_kind,ok_Add_kind T⟩
 | 7=>⟨_,_,_,T.c_Less,T.me_Less_kind,T.b_Less_kind,ok_Less_kind T⟩
 | 8=>⟨_,_,_,T.c_Order,T.me_Order_kind,T.b_Order_kind,ok_Order_kind T⟩
 | 9=>⟨_,_,_,T.c_Choose,T.me_Choose_kind,T.b_Choose_kind,ok_Choose_kind T⟩
 | n+10=>⟨_,_,_,T.c_Split,T.me_Split_kind,T.b_Split_kind,ok_Split_kind T⟩
def sp_Net_odd (K:PySem.W.Frag) (t:Adr):Sp:=fun vs H Q _=>∃(n:Addr) (ls:List LaneD) (ps:List PD),vs=[.ref n]∧qg K t H n ls ps∧∀H',aQ H H'→Q (rE ps) H'
theorem sc_Net_odd:FnScope ["self", "name"] ["self"] (aA pB):=⟨rfl,rfl,rfl,by decide +kernel,rfl,by decide +kernel,by decide +kernel⟩
theorem BK (T:Txt w K mg t):FnOk P w K mg base CX0 2 t.zF t.xq ["self"] (sp_Net_odd K t):=by
 have sc:=sc_Net_odd
 refine T.F_Net_odd.ok sc (fun vs H Q E h=>?_) (fun cdv A outer s H vs Q E hr h=>?_)
 ·obtain⟨n,ls,ps,rfl,_⟩:=h
  rfl
 ·obtain⟨n,ls,ps,rfl,N,k⟩:=h
  refine⟨_,(aB (nG (H0:=H) rfl (gQ PassesOwn.never rfl (oW (cJ (pv 0) rfl)) (dz (i:=1) sc.nd rfl (Or.inl rfl))
    (aC (cg (bz zj (pe_methD0 (CX:=CX0) (k:=1) (E:=E0) (dD hr.u1 (cJ (pv 0) rfl) (pv 1) (fun _ _=>rfl)) (hr.mono (by decide)) aO) (cV (aj bH (aj bH aq ao) ao)) (by with_unfolding_all rfl))
     (aC (ps_melt (H0:=H) rfl (aZ (pv 1))))
     bQ))))
   (aC (aZ pe_non))),?_⟩
  obtain⟨dx,fs,R,F,Pd,G,Tk,FL,PL,W⟩:=id N
  have hz:sizeLine=16777216:=sizeLine_eq
  have h5:=W.parts
  have melt:∀{H':Hp} {o:Obj},But Pd H H'→H' Pd=some (.frz o (.dK (cP PL)))→aQ H (upd H' Pd (.dK (cP PL))):=fun hb hg b u e=>by
   by_cases h:b=Pd
   ·subst h;rw [au];rw [h5] at e;exact e
   ·rw [aH h];exact hb b u h e
  refine⟨_,rfl,n,_,dx,fs,_,rfl,W.obj,T.cB,T.cT,W.fl.has ("parts",.ref Pd) (by simp),Pd,_,rfl,h5,fun o=>?_⟩
  refine rG (fun j σ H'=>But Pd H H'∧H' Pd=some (.frz o (.dK (cP PL)))∧(∃v1,σ=[some (.ref n),v1])∧((PL.take j).map (·.1)).find? ym=none) ⟨fun b u hn e=>by rw [aH hn];exact e,au,⟨none,rfl⟩,rfl⟩ (fun j σ H' _ h=>h.2.1) ?_ ?_
  ·rintro j kk w σ H' hj ⟨hb,hg,⟨v1,rfl⟩,hf⟩
   unfold cP at hj
   rw [List.getElem?_map] at hj
   obtain⟨q,hq,e⟩:=Option.map_eq_some_iff.mp hj
   cases e
   have hm:=List.mem_of_getElem? hq
   have nPd:n≠Pd:=uA W.obj h5 (by intro z;cases z)
   obtain⟨dxp,tn,ti,to,p1,p2,p3,p4⟩:=id (W.pats q hm).ex
   have nq:q.2≠Pd:=uA p1 h5 (by intro z;cases z)
   refine⟨_,rfl,n,_,dx,fs,_,rfl,hb _ _ nPd W.obj,T.cB,T.cT,W.fl.has ("parts",.ref Pd) (by simp),_,rfl,Pd,_,rfl,(by rw [←W.partV hm];exact .inl ⟨_,Sum.inr q.1.name,.inr ⟨o,hg⟩,rfl,rfl⟩),?_⟩
   refine⟨q.2,cls t q.1.kind,dxp,_,iR q.1.kind,rfl,hb _ _ nq p1,flds_no _ _ _ _ (by decide +kernel) (by decide +kernel) (by decide +kernel) (by decide +kernel),kind_ok T q.1.kind,_,rfl,by show 2≤sizeLine;exact szl,fun u nu=>?_⟩
   have nuP:Pd≠u:=aF hg nu
   have b2:But Pd H (upd H' u (.tup [.str "choose",.str "split"])):=fun b x hn e=>aD nu _ _ (hb b x hn e)
   have g2:upd H' u (.tup [.str "choose",.str "split"]) Pd=some (.frz o (.dK (cP PL))):=aD nu _ _ hg
   refine⟨u,_,rfl,.inr (SqT.of au),rfl,by simp [rJ],_,rfl,?_⟩
   rw [oddB_in]
   refine jM (fun e=>?_) (fun e=>?_)
   ·have e:ym q.1=true:=by simpa using e
    refine⟨_,⟨Pd,o,_,g2,(fun o' u' z=>by rw [show H Pd=_ from h5] at z;cases z),rfl⟩,_,rfl,?_⟩
    have:rE ps=.str q.1.name:=by
     unfold rE
     have e2:ps=((PL.take j).map (·.1)) ++ q.1:: ((PL.drop (j+1)).map (·.1)):=by
      have hj':=(List.getElem?_eq_some_iff.mp hq).1
      have e3:PL[j]=q:=by rw [List.getElem?_eq_getElem hj'] at hq;exact Option.some.inj hq
      rw [←W.pls,←List.map_cons,←List.map_append,←e3,←List.drop_eq_getElem_cons hj',List.take_append_drop]
     rw [e2,List.find?_append,hf,List.find?_cons,e]
     rfl
    have kk:=k _ (melt b2 g2)
    rw [this] at kk
    exact kk
   ·have e:ym q.1=false:=by simpa using e
    refine⟨b2,g2,⟨_,rfl⟩,?_⟩
    rw [List.take_succ,hq,Option.toList_some,List.map_append,List.find?_append,hf]
    simp [e]
  ·rintro σ H' ⟨hb,hg,⟨v1,rfl⟩,hf⟩
   refine⟨_,⟨Pd,o,_,hg,(fun o' u' z=>by rw [show H Pd=_ from h5] at z;cases z),rfl⟩,?_⟩
   have:rE ps=.non:=by
    unfold rE
    rw [show(cP PL).length=PL.length by unfold cP;rw [List.length_map],List.take_length,W.pls] at hf
    rw [hf]
   have kk:=k _ (melt hb hg)
   rw [this] at kk
   exact kk
def sp_row_of (K:PySem.W.Frag) (t:Adr):Sp:=fun vs H Q _=>∃(q:Addr) (p:PD),vs=[.ref q]∧PartAt K t H q p.kind (.str p.name) (p.nums.map V.int) (p.ins.map V.str) (p.outs.map V.str)∧∀r a1 a2 a3,H r=none→SqT K H a1 (p.nums.map V.int)→SqT K H a2 (p.ins.map V.str)→SqT K H a3 (p.outs.map V.str)→Q (.ref r) (upd H r (.tup [.str (eO p.kind),.str p.name,.ref a1,.ref a2,.ref a3]))
theorem sc_row_of:FnScope ["part"] ["part"] (aA rR):=⟨rfl,rfl,rfl,by decide +kernel,rfl,by decide +kernel,by decide +kernel⟩
theorem ok_row_of (T:Txt w K mg t):FnOk P w K mg base CX0 2 t.Bd t.zg ["part"] (sp_row_of K t):=by
 have sc:=sc_row_of
 refine T.F_row_of.ok sc (fun vs H Q E h=>?_) (fun cdv A outer s H vs Q E hr h=>?_)
 ·obtain⟨q,p,rfl,_⟩:=h
  rfl
 ·obtain⟨q,p,rfl,P,k⟩:=h
  refine⟨_,(aC (aZ (cV (aj (pe_methD0 (CX:=CX0) (k:=1) (E:=E0) (pv 0) (hr.mono (by decide)) aO) (aj (cJ (pv 0) rfl) (aj (cJ (pv 0) rfl) (aj (cJ (pv 0) rfl) (aj (cJ (pv 0) rfl) aq bf) bf) bf) bf) aV)))),?_⟩
  have hl:sizeLine=16777216:=sizeLine_eq
  obtain⟨dxp,tn,ti,to,p1,p2,p3,p4⟩:=P.ex
  refine⟨_,rfl,q,cls t p.kind,dxp,_,iR p.kind,rfl,p1,flds_no _ _ _ _ (by decide +kernel) (by decide +kernel) (by decide +kernel) (by decide +kernel),kind_ok T p.kind,_,rfl,?_⟩
  refine⟨_,rfl,q,_,dxp,_,_,rfl,p1,mF T p.kind,yD T p.kind,wg _ _ _ _,_,rfl,q,_,dxp,_,_,rfl,p1,mF T p.kind,Ar T p.kind,flds_numbers _ _ _ _,_,rfl,q,_,dxp,_,_,rfl,p1,mF T p.kind,na_ins T p.kind,flds_ins _ _ _ _,_,rfl,q,_,dxp,_,_,rfl,p1,mF T p.kind,na_outs T p.kind,flds_outs _ _ _ _,by show 5≤sizeLine;exact szl,fun r nr=>?_⟩
  exact k r tn ti to nr p2 p3 p4
def sp_Net_told (K:PySem.W.Frag) (t:Adr):Sp:=fun vs H Q _=>∃(n:Addr) (ls:List LaneD) (ps:List PD),vs=[.ref n]∧qg K t H n ls ps∧∀T a b H',aQ H H'→H a=none→H b=none→a≠b→ToldAt K H' T a b ls ps→Q (.ref T) H'
theorem sc_Net_told:FnScope ["self", "lanes", "parts"] ["self"] (aA iW):=⟨rfl,rfl,rfl,by decide +kernel,rfl,by decide +kernel,by decide +kernel⟩
theorem vK (T:Txt w K mg t):FnOk P w K mg base CX0 3 t.xG t.uT ["self"] (sp_Net_told K t):=by
 have sc:=sc_Net_told
 refine T.F_Net_told.ok sc (fun vs H Q E h=>?_) (fun cdv A outer s H vs Q E hr h=>?_)
 ·obtain⟨n,ls,ps,rfl,_⟩:=h
  rfl
 ·obtain⟨n,ls,ps,rfl,N,k⟩:=h
  refine⟨_,(aB (nG (H0:=H) rfl (wk (i:=1) [0] ["self", "lanes", "parts"] (aA iW) rfl sc.nd rfl (oW (cJ (pv 0) rfl)) (fun _ _ _ _ _=>mL) (fun _ _ _ _ _=>(cV (aj (pv 0) (aj (dD hr.u1 (pe_fldK (K:=K) rfl (pv 1) rfl) (pv 0) (fun _ _=>rfl)) (aj (dD hr.u1 (pe_fldK (K:=K) rfl (pv 1) rfl) (pv 0) (fun _ _=>rfl)) aq aK) aK) ak)))))
   (aB (nG (H0:=H) rfl (wk (i:=2) [0] ["self", "lanes", "parts"] (aA iW) rfl sc.nd rfl (oW (cJ (pv 0) rfl)) (fun _ _ _ _ _=>mL) (fun _ _ _ _ _=>(aJ (ok_row_of T) (hr.mono (by decide)) (by rfl) T.m_row_of T.F_row_of.kp T.b_row_of .nil aO (aj (dD hr.u1 (pe_fldK (K:=K) rfl (pv 1) rfl) (pv 0) (fun _ _=>rfl)) aq aK)))))
   (aC (aZ (cV (aj (pv 1) (aj (pv 2) aq ak) ak)))))),?_⟩
  obtain⟨dx,fs,R,F,Pd,G,Tk,FL,PL,W⟩:=id N
  have hz:sizeLine=16777216:=sizeLine_eq
  have hl24:=W.fit.l24
  have hp16:=W.fit.p16
  have h3:=W.rooms
  have lr:(dm ls).length=ls.length:=by unfold dm;rw [List.length_map]
  have lp:PL.length=ps.length:=by rw [←W.pls,List.length_map]
  refine⟨_,rfl,n,_,dx,fs,_,rfl,W.obj,T.cB,T.cG,W.fl.has ("rooms",.ref R) (by simp),R,_,rfl,h3,fun o=>?_⟩
  refine zE (fun j ys H'=>aQ (upd H R (.frz o (.dK (dm ls)))) H'∧ys.length≤j∧All2 (LaneT K (upd H' R (.dK (dm ls)))) ys (ls.take j)) (by rw [lr];omega) ⟨aQ.refl _,Nat.le_refl _,.nil⟩ ?_ ?_ ?_ ?_
  ·rintro j ys H' ⟨_,hh,_⟩
   exact hh
  ·rintro j ys H' _ h
   exact h.1 _ _ au
  ·rintro j kk v ys H' hj ⟨hs,hyl,hA⟩
   unfold dm at hj
   rw [List.getElem?_map] at hj
   obtain⟨l,hlj,e⟩:=Option.map_eq_some_iff.mp hj
   cases e
   have hm:=List.mem_of_getElem? hlj
   obtain⟨q,hq,eq⟩:∃q∈FL,q.1=l:=by
    have hm':=hm
    rw [←W.fls] at hm'
    obtain⟨q,hq,e⟩:=List.mem_map.mp hm'
    exact⟨q,hq,e⟩
   subst eq
   have hg:=hs _ _ au
   have en:=hs _ _ (mG h3 W.obj (by intro _ z;cases z))
   have eF:H' F=some (.dK (gj FL)):=hs _ _ (by rw [aH (Ne.symm W.neRF)];exact W.firsts)
   refine yes ⟨_,rfl,_,rfl,n,_,dx,fs,_,rfl,en,T.cB,T.cG,W.fl.has ("rooms",.ref R) (by simp),_,rfl,R,_,rfl,(by rw [←W.room hm];exact .inl ⟨_,Sum.inr q.1.name,.inr ⟨o,hg⟩,rfl,rfl⟩),?_⟩
   refine⟨_,rfl,n,_,dx,fs,_,rfl,en,T.cB,T.eU,W.fl.has ("firsts",.ref F) (by simp),_,rfl,F,_,rfl,(by rw [←W.firstV hq];exact ji.k (k:=Sum.inr q.1.name) eF),by show 3≤sizeLine;exact szl,fun u nu=>?_⟩
   have su:=aD (o:=.tup [.str q.1.name,.int q.1.room,.ref q.2]) nu
   have nuR:u≠R:=fun z=>by rw [z,hg] at nu;cases nu
   refine⟨hs.trans su,by rw [List.length_append,List.length_singleton];omega,?_⟩
   rw [List.take_succ,hlj,Option.toList_some]
   refine(hA.imp fun _ _ h=>h.same (yJ su)).app (.cons ⟨u,q.2,rfl,by rw [aH nuR];exact au,(zA h3 (hs.trans su)).seqT (W.tups q hq)⟩ .nil)
  rintro ys H' ⟨hs,hyl,hA⟩ D nD
  have hg:=hs _ _ au
  have nDR:D≠R:=fun z=>by rw [z,hg] at nD;cases nD
  have nDH:H D=none:=Bu (hs.free nD)
  have sD:=aD (o:=.lst ys) nD
  refine⟨_,⟨R,o,_,sD _ _ hg,(fun o' u' z=>by rw [show H R=_ from h3] at z;cases z),rfl⟩,?_⟩
  have s1:=zA h3 (hs.trans sD)
  have eD:upd (upd H' D (.lst ys)) R (.dK (dm ls)) D=some (.lst ys):=by rw [aH nDR];exact au
  have hA1:All2 (LaneT K (upd (upd H' D (.lst ys)) R (.dK (dm ls)))) ys ls:=by
   rw [lr,List.take_length] at hA
   exact hA.imp fun _ _ h=>h.same (yJ sD)
  generalize upd (upd H' D (.lst ys)) R (.dK (dm ls))=H1 at s1 eD hA1 ⊢
  clear hA hs hg sD nD hyl
  have W1:=W.same s1
  have h5:=W1.parts
  have lpk:(cP PL).length=PL.length:=by unfold cP;rw [List.length_map]
  refine⟨_,rfl,n,_,dx,fs,_,rfl,W1.obj,T.cB,T.cT,W1.fl.has ("parts",.ref Pd) (by simp),Pd,_,rfl,h5,fun o2=>?_⟩
  refine zE (fun j zs H'=>aQ (upd H1 Pd (.frz o2 (.dK (cP PL)))) H'∧zs.length≤j∧All2 (RowT K (upd H' Pd (.dK (cP PL)))) zs ((PL.take j).map (·.1))) (by rw [lpk];omega) ⟨aQ.refl _,Nat.le_refl _,.nil⟩ ?_ ?_ ?_ ?_
  ·rintro j zs H' ⟨_,hh,_⟩
   exact hh
  ·rintro j zs H' _ h
   exact h.1 _ _ au
  ·rintro j kk v zs H' hj ⟨hs,hyl,hA⟩
   unfold cP at hj
   rw [List.getElem?_map] at hj
   obtain⟨q,hqj,e⟩:=Option.map_eq_some_iff.mp hj
   cases e
   have hm:=List.mem_of_getElem? hqj
   have hg:=hs _ _ au
   have en:=hs _ _ (mG h5 W1.obj (by intro _ z;cases z))
   refine yes ⟨_,rfl,n,_,dx,fs,_,rfl,en,T.cB,T.cT,W1.fl.has ("parts",.ref Pd) (by simp),_,rfl,Pd,_,rfl,(by rw [←W1.partV hm];exact .inl ⟨_,Sum.inr q.1.name,.inr ⟨o2,hg⟩,rfl,rfl⟩),?_⟩
   refine⟨q.2,q.1,rfl,((W1.pats q hm).chill h5).same hs,fun u a1 a2 a3 nu t1 t2 t3=>?_⟩
   have su:=aD (o:=.tup [.str (eO q.1.kind),.str q.1.name,.ref a1,.ref a2,.ref a3]) nu
   have nuP:u≠Pd:=fun z=>by rw [z,hg] at nu;cases nu
   refine⟨hs.trans su,by rw [List.length_append,List.length_singleton];omega,?_⟩
   rw [List.take_succ,hqj,Option.toList_some,List.map_append,List.map_singleton]
   have ft:∀{a:Addr} {xs:List V},SqT K H' a xs→SqT K (upd (upd H' u (.tup [.str (eO q.1.kind),.str q.1.name,.ref a1,.ref a2,.ref a3])) Pd (.dK (cP PL))) a xs:=fun {a xs} t=>by
    rcases su.seqT t with (h | ⟨o',h⟩) | h
    ·exact .inl (.inl (by rw [aH (uA h (su _ _ hg) (by intro z;cases z))];exact h))
    ·exact .inl (.inr ⟨o',by rw [aH (uA h (su _ _ hg) (by intro z;cases z))];exact h⟩)
    ·exact .inr h
   refine(hA.imp fun _ _ h=>h.same (yJ su)).app (.cons ⟨u,a1,a2,a3,rfl,by rw [aH nuP];exact au,ft t1,ft t2,ft t3⟩ .nil)
  rintro zs H' ⟨hs,hyl,hA⟩ D2 nD2
  have hg:=hs _ _ au
  have nDP:D2≠Pd:=fun z=>by rw [z,hg] at nD2;cases nD2
  have nD2H:H1 D2=none:=Bu (hs.free nD2)
  have sD:=aD (o:=.lst zs) nD2
  refine⟨_,⟨Pd,o2,_,sD _ _ hg,(fun o' u' z=>by rw [show H Pd=_ from W.parts] at z;cases z),rfl⟩,?_⟩
  have s2:=zA h5 (hs.trans sD)
  have eD2:upd (upd H' D2 (.lst zs)) Pd (.dK (cP PL)) D2=some (.lst zs):=by rw [aH nDP];exact au
  have hA2:All2 (RowT K (upd (upd H' D2 (.lst zs)) Pd (.dK (cP PL)))) zs ps:=by
   rw [lpk,List.take_length,W.pls] at hA
   exact hA.imp fun _ _ h=>h.same (yJ sD)
  generalize upd (upd H' D2 (.lst zs)) Pd (.dK (cP PL))=H2 at s2 eD2 hA2 ⊢
  refine⟨_,rfl,_,rfl,by show 2≤sizeLine;exact szl,fun T' nT=>?_⟩
  have sT:=aD (o:=.tup [.ref D,.ref D2]) nT
  exact k T' D D2 _ (s1.trans (s2.trans sT)) nDH (s1.free nD2H) (aF eD nD2H) ⟨au,⟨ys,sT _ _ (s2 _ _ eD),hA1.imp fun _ _ h=>h.same (s2.trans sT)⟩,⟨zs,sT _ _ eD2,hA2.imp fun _ _ h=>h.same sT⟩⟩
def sp_Net___init__ (K:PySem.W.Frag) (t:Adr):Sp:=fun vs H Q _=>∃(n dx Ll Lp:Addr) (ls:List LaneD) (ps:List PD),vs=[.ref n,.ref Ll,.ref Lp]∧H n=some (.ins t.bI dx [])∧Hand K H Ll Lp ls ps∧Fit ls ps∧∀H',But n H H'→qg K t H' n ls ps→Q .non H'
theorem sc_Net___init__:FnScope ["self", "lanes", "parts", "lane", "row", "part"] ["self", "lanes", "parts"] (aA gG):=⟨rfl,rfl,rfl,by decide +kernel,rfl,by decide +kernel,by decide +kernel⟩
theorem ok_Net___init__ (T:Txt w K mg t):FnOk P w K mg base CX0 6 t.qb t.oE ["self", "lanes", "parts"] (sp_Net___init__ K t):=by
 have sc:=sc_Net___init__
 refine T.F_Net___init__.ok sc (fun vs H Q E h=>?_) (fun cdv A outer s H vs Q E hr h=>?_)
 ·obtain⟨n,dx,Ll,Lp,ls,ps,rfl,_⟩:=h
  rfl
 ·obtain⟨n,dx,Ll,Lp,ls,ps,rfl,hn,hH,hF,k⟩:=h
  refine⟨_,(aB (bF (aJ (ok_need_counts T) (hr.mono (by decide)) (by rfl) T.m_need_counts T.wK.kp T.b_need_counts .nil aO (aj (pv 1) (aj (pv 2) aq ak) ak)))
   (aB (uq (pv 0) jC rfl)
   (aB (uq (pv 0) jC rfl)
   (aB (gQ PassesOwn.never rfl (iQ (pv 1)) (dz (i:=3) sc.nd rfl (Or.inl rfl))
    (aB (bF (aJ (wM T) (hr.mono (by decide)) (by rfl) T.yE T.rW.kp T.yO .nil aO (aj (aW bT (pv 3) az (fun _ _=>rfl)) (aj (cJ (pv 0) rfl) aq bf) aK)))
    (aB (bF (aJ (ok_need_lane T) (hr.mono (by decide)) (by rfl) T.m_need_lane T.zQ.kp T.b_need_lane .nil aO (aj (aW bT (pv 3) az (fun _ _=>rfl)) (aj (aW bT (pv 3) az (fun _ _=>rfl)) (aj (aW bT (pv 3) az (fun _ _=>rfl)) aq aK) aK) aK)))
    (aB (jL hr.u1 (cJ (pv 0) rfl) (aW bT (pv 3) az (fun _ _=>rfl)) (aW bT (pv 3) az (fun _ _=>rfl)) rfl)
    (aC (jL hr.u1 (cJ (pv 0) rfl) (aW bT (pv 3) az (fun _ _=>rfl)) (eZ wj (by rfl) T.Ag yG (aj (aW bT (pv 3) az (fun _ _=>rfl)) aq aK)) rfl))))))
   (aB (uq (pv 0) jC rfl)
   (aB (uq (pv 0) jC rfl)
   (aB (uq (pv 0) jC rfl)
   (aB (gQ PassesOwn.never rfl (iQ (pv 2)) (dz (i:=4) sc.nd rfl (Or.inl rfl))
    (aB (aX (i:=5) sc.nd rfl (Or.inl rfl) (aJ (ok_fresh_part T) (hr.mono (by decide)) (by rfl) T.m_fresh_part T.yM.kp T.b_fresh_part .nil aO (aj (pv 4) (aj (cJ (pv 0) rfl) aq bf) ak)))
    (aB (bF (aJ (yw T) (hr.mono (by decide)) (by rfl) T.Aa T.vV.kp T.zM .nil aO (aj (cJ (pv 5) rfl) (aj (cJ (pv 5) rfl) (aj (cJ (pv 0) rfl) (aj (cJ (pv 0) rfl) aq bf) bf) bf) bf)))
    (aB (bF (aJ (yw T) (hr.mono (by decide)) (by rfl) T.Aa T.vV.kp T.zM .nil aO (aj (cJ (pv 5) rfl) (aj (cJ (pv 5) rfl) (aj (cJ (pv 0) rfl) (aj (cJ (pv 0) rfl) aq bf) bf) bf) bf)))
    (aC (jL hr.u1 (cJ (pv 0) rfl) (cJ (pv 5) rfl) (pv 5) rfl))))))
   (aB (bF (aJ (ok_need_ends T) (hr.mono (by decide)) (by rfl) T.m_need_ends T.Ac.kp T.b_need_ends .nil aO (aj (cJ (pv 0) rfl) (aj (cJ (pv 0) rfl) (aj (cJ (pv 0) rfl) aq bf) bf) bf)))
   (aC (bF (aJ (ok_need_joined T) (hr.mono (by decide)) (by rfl) T.m_need_joined T.wL.kp T.b_need_joined .nil aO (aj (eZ (pU rfl) (by rfl) T.Bh yp (aj (cJ (pv 0) rfl) aq bf)) (aj (cJ (pv 0) rfl) (aj (cJ (pv 0) rfl) aq bf) bf) aV))))))))))))),?_⟩
  have hl:sizeLine=16777216:=sizeLine_eq
  obtain⟨xs,hLl,aL⟩:=hH.ll
  obtain⟨ys,hLp,aP⟩:=hH.lp
  have lx:=aL.length
  have ly:=aP.length
  have l1:=hF.l1
  have l24:=hF.l24
  have p1:=hF.p1
  have p16:=hF.p16
  refine⟨_,rfl,_,rfl,Ll,Lp,_,_,rfl,hLl,hLp,by omega,by omega,by omega,by omega,?_⟩
  have T0:=Tr.start hn
  refine fun R nR=>?_
  have T1:=T0.new (o:=.dK []) nR
  have gR:=aD (o:=.dK []) nR
  generalize upd H R (.dK [])=H1 at T1 gR ⊢
  have cR:=T1.all (n,.ins t.bI dx []) (.head _)
  refine⟨_,rfl,n,_,dx,_,rfl,cR,T.cB,T.cG,Nat.lt_of_le_of_lt (show 0≤0 from Nat.le_refl 0) (by decide),?_⟩
  have T2:=T1.put (L1:=[]) (o':=.ins t.bI dx (aY "rooms" (.ref R) []))
  have wR:But n H1 (upd H1 n (.ins t.bI dx (aY "rooms" (.ref R) []))):=But.write
  generalize upd H1 n (.ins t.bI dx (aY "rooms" (.ref R) []))=H2 at T2 wR ⊢
  refine fun F nF=>?_
  have T3:=T2.new (o:=.dK []) nF
  have gF:=aD (o:=.dK []) nF
  generalize upd H2 F (.dK [])=H3 at T3 gF ⊢
  have cF:=T3.all (n,.ins t.bI dx (aY "rooms" (.ref R) [])) (.head _)
  refine⟨_,rfl,n,_,dx,_,rfl,cF,T.cB,T.eU,Nat.lt_of_le_of_lt (wC (Nat.zero_le 0)) (by decide),?_⟩
  have T4:=T3.put (L1:=[]) (o':=.ins t.bI dx (aY "firsts" (.ref F) (aY "rooms" (.ref R) [])))
  have wF:But n H3 (upd H3 n (.ins t.bI dx (aY "firsts" (.ref F) (aY "rooms" (.ref R) [])))):=But.write
  generalize upd H3 n (.ins t.bI dx (aY "firsts" (.ref F) (aY "rooms" (.ref R) [])))=H4 at T4 wF ⊢
  have kb:∀{Hk:Hp} {q:Addr} {u:HO},But n H Hk→H q=some u→(∀C d f,u≠.ins C d f)→Hk q=some u:=fun b h hu=>b _ _ (uA h hn (by intro z;exact hu _ _ _ z)) h
  refine⟨_,rfl,Ll,rfl,⟨_,T4.but.seqL hn hLl⟩,nH (K:=K) (a:=Ll) (xs:=xs) (fun j σ H'=>(∃x3,σ=[some (.ref n),some (.ref Ll),some (.ref Lp),x3,none,none])∧∃FL:List (LaneD×Addr),FL.map (·.1)=ls.take j∧Tr H n [(n,.ins t.bI dx (aY "firsts" (.ref F) (aY "rooms" (.ref R) []))),(R,.dK (dm (ls.take j))),(F,.dK (gj FL))] H'∧∀q∈FL,SqT K H' q.2 (q.1.first.map V.int)) ⟨⟨none,rfl⟩,[],rfl,T4,by simp⟩ (fun j σ H' _ ⟨_,_,_,T',_⟩=>T'.but.seqL hn hLl) ?_ ?_⟩
  ·rintro j x σ H' hx ⟨⟨x3,rfl⟩,FL,eFL,T4,hS⟩
   obtain⟨l,hlj,q,f,rfl,hq,hf⟩:=aL.get hx
   have hm:=List.mem_of_getElem? hlj
   obtain⟨v1,v2,v3,v4⟩:=hF.lok l hm
   have hnm:=hF.lnm l hm
   have hj:=(List.getElem?_eq_some_iff.mp hlj).1
   have kq:∀{Hk:Hp},But n H Hk→Hk q=some (.tup [.str l.name,.int l.room,.ref f]):=fun b=>kb b hq (by intro _ _ _ z;cases z)
   have nin:=yo hF.whole.nod hlj
   have vR:fG (dm (ls.take j)) (Sum.inr l.name)=none:=uM (by rw [vC];intro z;obtain⟨b,hb,e⟩:=List.mem_map.mp z;cases e;exact nin hb)
   have vF:fG (gj FL) (Sum.inr l.name)=none:=uM (by rw [yu,eFL];intro z;obtain⟨b,hb,e⟩:=List.mem_map.mp z;cases e;exact nin hb)
   have tk:ls.take (j+1)=ls.take j ++ [l]:=by rw [List.take_succ,hlj];rfl
   have e4:=T4.all (n,.ins t.bI dx (aY "firsts" (.ref F) (aY "rooms" (.ref R) []))) (.head _)
   refine hideG fun De hD u hu=>?_
   refine⟨_,rfl,q,_,0,_,rfl,rfl,SqT.of (kq T4.but),aN (j:=0) rfl,_,rfl,n,_,dx,_,_,rfl,e4,T.cB,T.cG,(by (repeat first | (rw [aM,if_pos rfl];done) | rw [aM,if_neg (by decide +kernel)])),l.name,R,_,rfl,T4.all (R,.dK (dm (ls.take j))) (by simp),hnm,nameB_len hnm,vR,fun H5 s5=>?_⟩
   have T5:=T4.same s5
   refine bJ (v:=u) hu fun u hu=>?_
   refine⟨_,rfl,q,_,0,_,rfl,rfl,SqT.of (kq T5.but),aN (j:=0) rfl,_,rfl,q,_,1,_,rfl,rfl,SqT.of (kq T5.but),aN (j:=1) rfl,_,rfl,q,_,2,_,rfl,rfl,SqT.of (kq T5.but),aN (j:=2) rfl,.str l.name,l.room,f,l.first,rfl,T5.but.seqA hn hf,by omega,v4,v1,v3,v2,fun H6 s6=>?_⟩
   have T6:=T5.same s6
   have e6:=T6.all (n,.ins t.bI dx (aY "firsts" (.ref F) (aY "rooms" (.ref R) []))) (.head _)
   have eR6:=T6.all (R,.dK (dm (ls.take j))) (by simp)
   refine bJ (v:=u) hu fun u hu=>?_
   refine⟨_,rfl,q,_,1,_,rfl,rfl,SqT.of (kq T6.but),aN (j:=1) rfl,_,rfl,n,_,dx,_,_,rfl,e6,T.cB,T.cG,(by (repeat first | (rw [aM,if_pos rfl];done) | rw [aM,if_neg (by decide +kernel)])),_,rfl,q,_,0,_,rfl,rfl,SqT.of (kq T6.but),aN (j:=0) rfl,R,_,rfl,sG.k (k:=Sum.inr l.name) eR6 (by unfold dm;rw [List.length_map,List.length_take];omega),?_⟩
   have e7:putK (dm (ls.take j)) (Sum.inr l.name) (.int l.room)=dm (ls.take (j+1)):=by rw [yf _ vR,tk];unfold dm;rw [List.map_append];rfl
   have T7:=T6.put (L1:=[_]) (o':=.dK (dm (ls.take (j+1))))
   rw [e7]
   have hS7:∀q∈FL,SqT K (upd H6 R (.dK (dm (ls.take (j+1))))) q.2 (q.1.first.map V.int):=fun q hq=>fW eR6 (s6.seqT (s5.seqT (hS q hq)))
   generalize upd H6 R (.dK (dm (ls.take (j+1))))=H7 at T7 hS7 ⊢
   subst hu
   refine⟨_,rfl,q,_,2,_,rfl,rfl,SqT.of (kq T7.but),aN (j:=2) rfl,f,_,rfl,T7.but.seqA hn hf,fun H8 F0 s8 t8=>?_⟩
   have T8:=T7.same s8
   have e8:=T8.all (n,.ins t.bI dx (aY "firsts" (.ref F) (aY "rooms" (.ref R) []))) (.head _)
   have eF8:=T8.all (F,.dK (gj FL)) (by simp)
   have lFL:FL.length≤24:=by have:=congrArg List.length eFL;rw [List.length_map,List.length_take] at this;omega
   refine⟨_,rfl,n,_,dx,_,_,rfl,e8,T.cB,T.eU,(by (repeat first | (rw [aM,if_pos rfl];done) | rw [aM,if_neg (by decide +kernel)])),_,rfl,q,_,0,_,rfl,rfl,SqT.of (kq T8.but),aN (j:=0) rfl,F,_,rfl,sG.k (k:=Sum.inr l.name) eF8 (by unfold gj;rw [List.length_map];omega),?_⟩
   have e9:putK (gj FL) (Sum.inr l.name) (.ref F0)=gj (FL ++ [(l,F0)]):=by rw [yf _ vF];unfold gj;rw [List.map_append];rfl
   have T9:=T8.put (L1:=[_,_]) (o':=.dK (gj (FL ++ [(l,F0)])))
   rw [e9]
   subst hD
   refine⟨⟨_,rfl⟩,FL ++ [(l,F0)],by rw [List.map_append,eFL,tk];rfl,T9,fun q hq=>?_⟩
   rcases List.mem_append.mp hq with h | h
   ·exact fW eF8 (s8.seqT (hS7 q h))
   ·rw [List.mem_singleton] at h
    subst h
    exact fW eF8 t8
  rintro σ H9 ⟨⟨x3,rfl⟩,FL,eFL,T9,t9⟩
  rw [lx,List.take_length] at eFL T9
  clear T0 T1 T2 T3 T4
  refine fun Pd nPd=>?_
  have T10:=T9.new (o:=.dK []) nPd
  have gPd:=aD (o:=.dK []) nPd
  generalize upd H9 Pd (.dK [])=H10 at T10 gPd ⊢
  have cPd:=T10.all (n,.ins t.bI dx (aY "firsts" (.ref F) (aY "rooms" (.ref R) []))) (.head _)
  refine⟨_,rfl,n,_,dx,_,rfl,cPd,T.cB,T.cT,Nat.lt_of_le_of_lt (wC (wC (Nat.zero_le 0))) (by decide),?_⟩
  have T11:=T10.put (L1:=[]) (o':=.ins t.bI dx (aY "parts" (.ref Pd) (aY "firsts" (.ref F) (aY "rooms" (.ref R) []))))
  have wPd:But n H10 (upd H10 n (.ins t.bI dx (aY "parts" (.ref Pd) (aY "firsts" (.ref F) (aY "rooms" (.ref R) []))))):=But.write
  generalize upd H10 n (.ins t.bI dx (aY "parts" (.ref Pd) (aY "firsts" (.ref F) (aY "rooms" (.ref R) []))))=H11 at T11 wPd ⊢
  refine fun Gv nGv=>?_
  have T12:=T11.new (o:=.dK []) nGv
  have gGv:=aD (o:=.dK []) nGv
  generalize upd H11 Gv (.dK [])=H12 at T12 gGv ⊢
  have cGv:=T12.all (n,.ins t.bI dx (aY "parts" (.ref Pd) (aY "firsts" (.ref F) (aY "rooms" (.ref R) [])))) (.head _)
  refine⟨_,rfl,n,_,dx,_,rfl,cGv,T.cB,T.dJ,Nat.lt_of_le_of_lt (wC (wC (wC (Nat.zero_le 0)))) (by decide),?_⟩
  have T13:=T12.put (L1:=[]) (o':=.ins t.bI dx (aY "givers" (.ref Gv) (aY "parts" (.ref Pd) (aY "firsts" (.ref F) (aY "rooms" (.ref R) [])))))
  have wGv:But n H12 (upd H12 n (.ins t.bI dx (aY "givers" (.ref Gv) (aY "parts" (.ref Pd) (aY "firsts" (.ref F) (aY "rooms" (.ref R) [])))))):=But.write
  generalize upd H12 n (.ins t.bI dx (aY "givers" (.ref Gv) (aY "parts" (.ref Pd) (aY "firsts" (.ref F) (aY "rooms" (.ref R) [])))))=H13 at T13 wGv ⊢
  refine fun Tk nTk=>?_
  have T14:=T13.new (o:=.dK []) nTk
  have gTk:=aD (o:=.dK []) nTk
  generalize upd H13 Tk (.dK [])=H14 at T14 gTk ⊢
  have cTk:=T14.all (n,.ins t.bI dx (aY "givers" (.ref Gv) (aY "parts" (.ref Pd) (aY "firsts" (.ref F) (aY "rooms" (.ref R) []))))) (.head _)
  refine⟨_,rfl,n,_,dx,_,rfl,cTk,T.cB,T.dM,Nat.lt_of_le_of_lt (wC (wC (wC (wC (Nat.zero_le 0))))) (by decide),?_⟩
  have T15:=T14.put (L1:=[]) (o':=.ins t.bI dx (aY "takers" (.ref Tk) (aY "givers" (.ref Gv) (aY "parts" (.ref Pd) (aY "firsts" (.ref F) (aY "rooms" (.ref R) []))))))
  have wTk:But n H14 (upd H14 n (.ins t.bI dx (aY "takers" (.ref Tk) (aY "givers" (.ref Gv) (aY "parts" (.ref Pd) (aY "firsts" (.ref F) (aY "rooms" (.ref R) []))))))):=But.write
  generalize upd H14 n (.ins t.bI dx (aY "takers" (.ref Tk) (aY "givers" (.ref Gv) (aY "parts" (.ref Pd) (aY "firsts" (.ref F) (aY "rooms" (.ref R) []))))))=H15 at T15 wTk ⊢
  have T15:Tr H n [(n,.ins t.bI dx (aY "takers" (.ref Tk) (aY "givers" (.ref Gv) (aY "parts" (.ref Pd) (aY "firsts" (.ref F) (aY "rooms" (.ref R) [])))))),(R,.dK (dm ls)),(F,.dK (gj FL)),(Pd,.dK []),(Gv,.dK []),(Tk,.dK [])] H15:=T15
  have t15:∀q∈FL,SqT K H15 q.2 (q.1.first.map V.int):=fun q hq=>wTk.seqT cTk (gTk.seqT (wGv.seqT cGv (gGv.seqT (wPd.seqT cPd (gPd.seqT (t9 q hq))))))
  have nod:=T15.nod
  simp only [List.map_append,List.map_cons,List.map_nil,List.nil_append,List.cons_append,List.nodup_cons,List.mem_cons,List.not_mem_nil,or_false,not_or] at nod
  have nRF:R≠F:=nod.2.1.1
  have nRT:R≠Tk:=nod.2.1.2.2.2
  have nRG:R≠Gv:=nod.2.1.2.2.1
  have nGT:Gv≠Tk:=nod.2.2.2.2.1
  clear nod
  have ono:(ps.flatMap (·.outs)).Nodup:=hF.whole.outs.nodup_iff.mpr hF.whole.nod
  have ini:(ps.flatMap (·.ins)).Nodup:=hF.whole.ins.nodup_iff.mpr hF.whole.nod
  have inR:∀z∈ls.map (·.name),(fG (dm ls) (Sum.inr z)).isSome=true:=fun z hz=>by
   obtain⟨l,hl,rfl⟩:=List.mem_map.mp hz
   have e:fG (dm ls) (Sum.inr l.name)=some (.int l.room):=vN (by rw [vC];exact rM hF.whole.nod) (List.mem_map.mpr ⟨l,hl,rfl⟩)
   rw [e]
   rfl
  have lenE:∀(f:PD→List Str) (j:Nat),(ps.flatMap f).Perm (ls.map (·.name))→(cY f (ps.take j)).length≤24:=fun f j pm=>by
   rw [endsK_len]
   have e1:((ps.take j).flatMap f).length+((ps.drop j).flatMap f).length=(ps.flatMap f).length:=by rw [←List.length_append,←List.flatMap_append,List.take_append_drop]
   have e2:=pm.length_eq
   rw [List.length_map] at e2
   omega
  refine⟨_,rfl,Lp,rfl,⟨_,T15.but.seqL hn hLp⟩,nH (K:=K) (a:=Lp) (xs:=ys) (fun j σ H'=>(∃x3 x4 x5,σ=[some (.ref n),some (.ref Ll),some (.ref Lp),x3,x4,x5])∧∃PL:List (PD×Addr),PL.map (·.1)=ps.take j∧Tr H n [(n,.ins t.bI dx (aY "takers" (.ref Tk) (aY "givers" (.ref Gv) (aY "parts" (.ref Pd) (aY "firsts" (.ref F) (aY "rooms" (.ref R) [])))))),(R,.dK (dm ls)),(F,.dK (gj FL)),(Pd,.dK (cP PL)),(Gv,.dK (cY (·.outs) (ps.take j))),(Tk,.dK (cY (·.ins) (ps.take j)))] H'∧(∀q∈FL,SqT K H' q.2 (q.1.first.map V.int))∧∀q∈PL,PartAt K t H' q.2 q.1.kind (.str q.1.name) (q.1.nums.map V.int) (q.1.ins.map V.str) (q.1.outs.map V.str)) ⟨⟨x3,none,none,rfl⟩,[],rfl,T15,t15,by simp⟩ (fun j σ H' _ ⟨_,_,_,T',_⟩=>T'.but.seqL hn hLp) ?_ ?_⟩
  ·rintro j x σ H' hx ⟨⟨x3,x4,x5,rfl⟩,PL,ePL,T15,hS,hP⟩
   obtain⟨p,hpj,r,a1,a2,a3,rfl,hr,q1,q2,q3⟩:=aP.get hx
   have hm:=List.mem_of_getElem? hpj
   have hj:=(List.getElem?_eq_some_iff.mp hpj).1
   obtain⟨o1,o2,o3,o4,o5⟩:=hF.pok p hm
   have hnm:=hF.pnm p hm
   have nin:=yo hF.pnd hpj
   have tk:ps.take (j+1)=ps.take j ++ [p]:=by rw [List.take_succ,hpj];rfl
   have vP:fG (cP PL) (Sum.inr p.name)=none:=uM (by rw [zO,ePL];intro z;obtain⟨b,hb,e⟩:=List.mem_map.mp z;cases e;exact nin hb)
   obtain⟨di,fi⟩:=flat_at ini hpj
   obtain⟨do',fo⟩:=flat_at ono hpj
   have e15:=T15.all (n,.ins t.bI dx (aY "takers" (.ref Tk) (aY "givers" (.ref Gv) (aY "parts" (.ref Pd) (aY "firsts" (.ref F) (aY "rooms" (.ref R) [])))))) (.head _)
   refine hideG fun De hD u hu=>?_
   refine⟨_,rfl,_,rfl,n,_,dx,_,_,rfl,e15,T.cB,T.cT,(by (repeat first | (rw [aM,if_pos rfl];done) | rw [aM,if_neg (by decide +kernel)])),p.kind,p.name,r,Pd,a1,a2,a3,_,_,_,_,rfl,kb T15.but hr (by intro _ _ _ z;cases z),by omega,T15.all (Pd,.dK (cP PL)) (by simp),hnm,nameB_len hnm,vP,T15.but.seqA hn q1,T15.but.seqA hn q2,T15.but.seqA hn q3,by rw [List.length_map];exact o2,by rw [List.length_map];exact o3,by rw [List.length_map];exact o4,?_,fun H16 pp s16 npp Pp=>?_⟩
   ·intro v hv
    obtain⟨i,hi,rfl⟩:=List.mem_map.mp hv
    exact⟨i,rfl,(o5 i hi).1,(o5 i hi).2⟩
   have T16:=T15.same s16
   obtain⟨dxp,tn,ti,to,z1,z2,z3,z4⟩:=id Pp.ex
   have e16:=T16.all (n,.ins t.bI dx (aY "takers" (.ref Tk) (aY "givers" (.ref Gv) (aY "parts" (.ref Pd) (aY "firsts" (.ref F) (aY "rooms" (.ref R) [])))))) (.head _)
   have eTk:=T16.all (Tk,.dK (cY (·.ins) (ps.take j))) (by simp)
   have li:=lenE (·.ins) j hF.whole.ins
   have lo:=lenE (·.outs) j hF.whole.outs
   have h3I:p.ins.length≤3:=by rw [o3];exact cI_le _
   have h3O:p.outs.length≤2:=by rw [o4];exact cO_le _
   refine bJ (v:=u) hu fun u hu=>?_
   refine⟨_,rfl,pp,_,dxp,_,_,rfl,z1,mF T p.kind,yD T p.kind,wg _ _ _ _,_,rfl,pp,_,dxp,_,_,rfl,z1,mF T p.kind,na_ins T p.kind,flds_ins _ _ _ _,_,rfl,n,_,dx,_,_,rfl,e16,T.cB,T.cG,(by (repeat first | (rw [aM,if_pos rfl];done) | rw [aM,if_neg (by decide +kernel)])),_,rfl,n,_,dx,_,_,rfl,e16,T.cB,T.dM,(by (repeat first | (rw [aM,if_pos rfl];done) | rw [aM,if_neg (by decide +kernel)])),p.name,ti,R,Tk,p.ins,_,_,rfl,z3,T16.all (R,.dK (dm ls)) (by simp),nRT,eTk,di,fun z hz=>⟨inR z (hF.whole.ins.mem_iff.mp (List.mem_flatMap.mpr ⟨p,hm,hz⟩)),BW (fi z hz)⟩,by omega,?_⟩
   rw [←Bt (·.ins) (ps.take j) p,←tk]
   have T17:=T16.put (L1:=[_,_,_,_,_]) (o':=.dK (cY (·.ins) (ps.take (j+1))))
   have Pp17:=Pp.chill (v:=.dK (cY (·.ins) (ps.take (j+1)))) eTk
   have hS17:∀q∈FL,SqT K (upd H16 Tk (.dK (cY (·.ins) (ps.take (j+1))))) q.2 (q.1.first.map V.int):=fun q hq=>fW eTk (s16.seqT (hS q hq))
   have hP17:∀q∈PL,PartAt K t (upd H16 Tk (.dK (cY (·.ins) (ps.take (j+1))))) q.2 q.1.kind (.str q.1.name) (q.1.nums.map V.int) (q.1.ins.map V.str) (q.1.outs.map V.str):=fun q hq=>((hP q hq).same s16).chill eTk
   generalize upd H16 Tk (.dK (cY (·.ins) (ps.take (j+1))))=H17 at T17 Pp17 hS17 hP17 ⊢
   clear z1 z2 z3 z4 e16
   obtain⟨dxp,tn,ti,to,z1,z2,z3,z4⟩:=id Pp17.ex
   have e17:=T17.all (n,.ins t.bI dx (aY "takers" (.ref Tk) (aY "givers" (.ref Gv) (aY "parts" (.ref Pd) (aY "firsts" (.ref F) (aY "rooms" (.ref R) [])))))) (.head _)
   have eGv:=T17.all (Gv,.dK (cY (·.outs) (ps.take j))) (by simp)
   refine bJ (v:=u) hu fun u hu=>?_
   refine⟨_,rfl,pp,_,dxp,_,_,rfl,z1,mF T p.kind,yD T p.kind,wg _ _ _ _,_,rfl,pp,_,dxp,_,_,rfl,z1,mF T p.kind,na_outs T p.kind,flds_outs _ _ _ _,_,rfl,n,_,dx,_,_,rfl,e17,T.cB,T.cG,(by (repeat first | (rw [aM,if_pos rfl];done) | rw [aM,if_neg (by decide +kernel)])),_,rfl,n,_,dx,_,_,rfl,e17,T.cB,T.dJ,(by (repeat first | (rw [aM,if_pos rfl];done) | rw [aM,if_neg (by decide +kernel)])),p.name,to,R,Gv,p.outs,_,_,rfl,z4,T17.all (R,.dK (dm ls)) (by simp),nRG,eGv,do',fun z hz=>⟨inR z (hF.whole.outs.mem_iff.mp (List.mem_flatMap.mpr ⟨p,hm,hz⟩)),BW (fo z hz)⟩,by omega,?_⟩
   rw [←Bt (·.outs) (ps.take j) p,←tk]
   have T18:=T17.put (L1:=[_,_,_,_]) (o':=.dK (cY (·.outs) (ps.take (j+1))))
   have Pp18:=Pp17.chill (v:=.dK (cY (·.outs) (ps.take (j+1)))) eGv
   have hS18:∀q∈FL,SqT K (upd H17 Gv (.dK (cY (·.outs) (ps.take (j+1))))) q.2 (q.1.first.map V.int):=fun q hq=>fW eGv (hS17 q hq)
   have hP18:∀q∈PL,PartAt K t (upd H17 Gv (.dK (cY (·.outs) (ps.take (j+1))))) q.2 q.1.kind (.str q.1.name) (q.1.nums.map V.int) (q.1.ins.map V.str) (q.1.outs.map V.str):=fun q hq=>(hP17 q hq).chill eGv
   generalize upd H17 Gv (.dK (cY (·.outs) (ps.take (j+1))))=H18 at T18 Pp18 hS18 hP18 ⊢
   clear z1 z2 z3 z4 e17
   obtain⟨dxp,tn,ti,to,z1,z2,z3,z4⟩:=id Pp18.ex
   have e18:=T18.all (n,.ins t.bI dx (aY "takers" (.ref Tk) (aY "givers" (.ref Gv) (aY "parts" (.ref Pd) (aY "firsts" (.ref F) (aY "rooms" (.ref R) [])))))) (.head _)
   have ePd:=T18.all (Pd,.dK (cP PL)) (by simp)
   have lPL:PL.length≤16:=by have:=congrArg List.length ePL;rw [List.length_map,List.length_take] at this;omega
   subst hu
   refine⟨_,rfl,_,rfl,n,_,dx,_,_,rfl,e18,T.cB,T.cT,(by (repeat first | (rw [aM,if_pos rfl];done) | rw [aM,if_neg (by decide +kernel)])),_,rfl,pp,_,dxp,_,_,rfl,z1,mF T p.kind,yD T p.kind,wg _ _ _ _,Pd,_,rfl,sG.k (k:=Sum.inr p.name) ePd (by unfold cP;rw [List.length_map];omega),?_⟩
   have e19:putK (cP PL) (Sum.inr p.name) (.ref pp)=cP (PL ++ [(p,pp)]):=by rw [yf _ vP];unfold cP;rw [List.map_append];rfl
   have T19:=T18.put (L1:=[_,_,_]) (o':=.dK (cP (PL ++ [(p,pp)])))
   rw [e19]
   subst hD
   refine⟨⟨_,_,_,rfl⟩,PL ++ [(p,pp)],by rw [List.map_append,ePL,tk];rfl,T19,fun q hq=>fW ePd (hS18 q hq),fun q hq=>?_⟩
   rcases List.mem_append.mp hq with h | h
   ·exact(hP18 q h).chill ePd
   ·rw [List.mem_singleton] at h
    subst h
    exact Pp18.chill ePd
  rintro σ H18 ⟨⟨x3,x4,x5,rfl⟩,PL,ePL,T18,hS,hP⟩
  rw [ly,List.take_length] at ePL T18
  have e18:=T18.all (n,.ins t.bI dx (aY "takers" (.ref Tk) (aY "givers" (.ref Gv) (aY "parts" (.ref Pd) (aY "firsts" (.ref F) (aY "rooms" (.ref R) [])))))) (.head _)
  have eR:=T18.all (R,.dK (dm ls)) (by simp)
  have eF:=T18.all (F,.dK (gj FL)) (by simp)
  have ePd:=T18.all (Pd,.dK (cP PL)) (by simp)
  have eGv:=T18.all (Gv,.dK (cY (·.outs) ps)) (by simp)
  have eTk:=T18.all (Tk,.dK (cY (·.ins) ps)) (by simp)
  refine⟨_,rfl,n,_,dx,_,_,rfl,e18,T.cB,T.cG,(by (repeat first | (rw [aM,if_pos rfl];done) | rw [aM,if_neg (by decide +kernel)])),_,rfl,n,_,dx,_,_,rfl,e18,T.cB,T.dJ,(by (repeat first | (rw [aM,if_pos rfl];done) | rw [aM,if_neg (by decide +kernel)])),_,rfl,n,_,dx,_,_,rfl,e18,T.cB,T.dM,(by (repeat first | (rw [aM,if_pos rfl];done) | rw [aM,if_neg (by decide +kernel)])),R,Gv,Tk,_,_,_,rfl,eR,eGv,eTk,nRG,nRT,?_,?_⟩
  ·intro q hq
   obtain⟨l,hl,rfl⟩:=List.mem_map.mp hq
   have hln:l.name∈ls.map (·.name):=List.mem_map.mpr ⟨l,hl,rfl⟩
   obtain⟨pa,ha,la⟩:=List.mem_flatMap.mp (hF.whole.outs.mem_iff.mpr hln)
   obtain⟨pb,hb,lb⟩:=List.mem_flatMap.mp (hF.whole.ins.mem_iff.mpr hln)
   exact⟨by rw [eX ono ha la];rfl,by rw [eX ini hb lb];rfl⟩
  refine⟨_,rfl,n,_,dx,_,_,rfl,e18,T.cB,T.cT,(by (repeat first | (rw [aM,if_pos rfl];done) | rw [aM,if_neg (by decide +kernel)])),Pd,_,rfl,.inl ePd,fun l nl=>?_⟩
  have s19:=aD (o:=.lst ((cP PL).map fun p=>kV p.1)) nl
  have eL:(cP PL).map (fun p=>kV p.1)=ps.map fun p=>V.str p.name:=by unfold cP;rw [List.map_map,←ePL,List.map_map];rfl
  refine⟨_,rfl,n,_,dx,_,_,rfl,(s19 _ _ e18),T.cB,T.dJ,(by (repeat first | (rw [aM,if_pos rfl];done) | rw [aM,if_neg (by decide +kernel)])),_,rfl,n,_,dx,_,_,rfl,(s19 _ _ e18),T.cB,T.dM,(by (repeat first | (rw [aM,if_pos rfl];done) | rw [aM,if_neg (by decide +kernel)])),l,Gv,Tk,ps,rfl,SqL.of (by rw [←eL];exact au),by omega,by omega,s19 _ _ eGv,s19 _ _ eTk,nGT,ono,ini,hF.whole.outs.trans hF.whole.ins.symm,hF.whole.hang,fun H20 s20=>?_⟩
  have s:=s19.trans s20
  refine k _ (fun b u hb e=>s _ _ (T18.but b u hb e)) ⟨dx,_,R,F,Pd,Gv,Tk,FL,PL,s _ _ e18,⟨?_,?_⟩,s _ _ eR,s _ _ eF,s _ _ ePd,s _ _ eGv,s _ _ eTk,eFL,ePL,fun q hq=>s.seqT (hS q hq),fun q hq=>(hP q hq).same s,hF,nRF⟩
  ·intro q hq
   simp only [List.mem_cons,List.not_mem_nil,or_false] at hq
   rcases hq with rfl | rfl | rfl | rfl | rfl <;> (dsimp only;(repeat first | (rw [aM,if_pos rfl];done) | rw [aM,if_neg (by decide +kernel)]))
  ·intro m hm
   have hne:∀m∈(["lane_names", "part_names", "odd", "need_lane_name", "room_of", "first_of", "giver_of", "taker_of", "told", "__init__"]:List Str),∀g∈(["takers", "givers", "parts", "firsts", "rooms"]:List Str),¬m=g:=by decide +kernel
   have h:=hne m hm
   rw [aM,if_neg (h _ (by simp)),aM,if_neg (h _ (by simp)),aM,if_neg (h _ (by simp)),aM,if_neg (h _ (by simp)),aM,if_neg (h _ (by simp))]
   rfl
def sp_arcs_of_lane (K:PySem.W.Frag) (t:Adr):Sp:=fun vs H Q _=>∃(n:Addr) (ls:List LaneD) (ps:List PD) (l:LaneD),vs=[.ref n,.str l.name]∧qg K t H n ls ps∧l∈ls∧∀H' L ra,aQ H H'→H L=none→ArcsR H' L ra→ra.map (·.1)=arcs2 ps l→Q (.ref L) H'
theorem sc_arcs_of_lane:FnScope ["net", "lane", "giver", "taker", "many"] ["net", "lane"] (aA gH):=⟨rfl,rfl,rfl,by decide +kernel,rfl,by decide +kernel,by decide +kernel⟩
theorem ok_arcs_of_lane (T:Txt w K mg t):FnOk P w K mg base CX0 5 t.pJ t.oN ["net", "lane"] (sp_arcs_of_lane K t):=by
 have sc:=sc_arcs_of_lane
 refine T.u5.ok sc (fun vs H Q E h=>?_) (fun cdv A outer s H vs Q E hr h=>?_)
 ·obtain⟨n,ls,ps,l,rfl,_⟩:=h
  rfl
 ·obtain⟨n,ls,ps,l,rfl,N,hl,k⟩:=h
  refine⟨_,(aB (aX (i:=2) sc.nd rfl (Or.inl rfl) (qj (pv 0) T.cB T.me_Net_giver_of (ok_Net_giver_of T) (hr.mono (by decide)) T.b_Net_giver_of .nil pass20 (aj (pv 1) aq ak)))
   (aB (aX (i:=3) sc.nd rfl (Or.inl rfl) (qj (pv 0) T.cB T.me_Net_taker_of (ok_Net_taker_of T) (hr.mono (by decide)) T.b_Net_taker_of .nil pass20 (aj (pv 1) aq ak)))
   (aB (aX (i:=4) sc.nd rfl (Or.inl rfl) (bL cj (by rfl) T.iw dX (aj (qj (pv 0) T.cB T.me_Net_first_of (ok_Net_first_of T) (hr.mono (by decide)) T.b_Net_first_of .nil pass20 (aj (pv 1) aq ak)) aq aV)))
   (aC (aZ (bA (aj (cV (aj (pv 2) (aj (pv 3) (aj (pv 4) (aj (pv 1) (aj bH aq ao) ak) ak) ak) ak)) (aj (cV (aj (pv 3) (aj (pv 2) (aj (bh tV (qj (pv 0) T.cB T.me_Net_room_of (ok_Net_room_of T) (hr.mono (by decide)) T.b_Net_room_of .nil pass20 (aj (pv 1) aq ak)) (pv 4)) (aj (pv 1) (aj bH aq ao) ak) bY) ak) ak)) aq bW) bW))))))),?_⟩
  obtain⟨dx,fs,R,F,Pd,G,Tk,FL,PL,W⟩:=id N
  have hz:sizeLine=16777216:=sizeLine_eq
  refine⟨_,rfl,n,dx,fs,rfl,W.obj,W.fl.no _ (by decide +kernel),_,rfl,n,ls,ps,l.name,rfl,N,.inl ⟨l,hl,rfl,fun p1 hp1 lp1 H1 s1=>?_⟩⟩
  have W1:=W.same s1
  refine⟨_,rfl,n,dx,fs,rfl,W1.obj,W1.fl.no _ (by decide +kernel),_,rfl,n,ls,ps,l.name,rfl,W1.s,.inl ⟨l,hl,rfl,fun p2 hp2 lp2 H2 s2=>?_⟩⟩
  have W2:=W1.same s2
  refine⟨_,rfl,n,dx,fs,rfl,W2.obj,W2.fl.no _ (by decide +kernel),_,rfl,n,ls,ps,l.name,rfl,W2.s,.inl ⟨l,hl,rfl,fun H3 u s3 nu eu=>?_⟩⟩
  have W3:=W2.same s3
  refine⟨.ref u,l.first.length,rfl,.inl ⟨_,SqL.of eu,by simp⟩,?_⟩
  refine⟨_,rfl,_,rfl,_,rfl,_,rfl,by show 5≤sizeLine;exact szl,fun q1 n1=>?_⟩
  have t1:=aD (o:=.tup [.str p1.name,.str p2.name,.int (l.first.length:Nat),.str l.name,.str "along"]) n1
  have e1:upd H3 q1 (.tup [.str p1.name,.str p2.name,.int (l.first.length:Nat),.str l.name,.str "along"]) q1=some (.tup [.str p1.name,.str p2.name,.int (l.first.length:Nat),.str l.name,.str "along"]):=au
  have s4:=s1.trans (s2.trans (s3.trans t1))
  have W4:=W3.same t1
  generalize upd H3 q1 (.tup [.str p1.name,.str p2.name,.int (l.first.length:Nat),.str l.name,.str "along"])=H4 at t1 e1 s4 W4 ⊢
  refine⟨_,rfl,_,rfl,_,rfl,n,dx,fs,rfl,W4.obj,W4.fl.no _ (by decide +kernel),_,rfl,n,ls,ps,l.name,rfl,W4.s,.inl ⟨l,hl,rfl,fun H5 s5=>?_⟩⟩
  refine⟨_,rfl,_,_,rfl,rfl,_,rfl,by show 5≤sizeLine;exact szl,fun q2 n2=>?_⟩
  have t2:=aD (o:=.tup [.str p2.name,.str p1.name,.int (l.room - (l.first.length:Nat)),.str l.name,.str "against"]) n2
  have e2:upd H5 q2 (.tup [.str p2.name,.str p1.name,.int (l.room - (l.first.length:Nat)),.str l.name,.str "against"]) q2=some (.tup [.str p2.name,.str p1.name,.int (l.room - (l.first.length:Nat)),.str l.name,.str "against"]):=au
  have s6:=s4.trans (s5.trans t2)
  have e1':=t2 _ _ (s5 _ _ e1)
  refine⟨by show 2≤sizeLine;exact szl,fun L nL=>?_⟩
  have nL0:=s6.free nL
  have t3:=aD (o:=.lst [.ref q1,.ref q2]) nL
  have g1:=Af W.ono hp1 lp1
  have g2:=Af W.ini hp2 lp2
  refine k _ L [(⟨p1.name,p2.name,(l.first.length:Nat),l.name, "along"⟩,q1),(⟨p2.name,p1.name,l.room - (l.first.length:Nat),l.name, "against"⟩,q2)] (s6.trans t3) nL0 ⟨au,fun q hq=>?_⟩ ?_
  ·simp only [List.mem_cons,List.not_mem_nil,or_false] at hq
   rcases hq with rfl | rfl
   ·exact t3 _ _ e1'
   ·exact t3 _ _ e2
  ·unfold arcs2
   rw [g1,g2]
   rfl
def sp_arcs_of (K:PySem.W.Frag) (t:Adr):Sp:=fun vs H Q E=>∃(n:Addr) (ls:List LaneD) (ps:List PD),vs=[.ref n]∧qg K t H n ls ps∧((rE ps=.non∧∀H' L ra,aQ H H'→H L=none→ArcsR H' L ra→ra.map (·.1)=zK ls ps→Q (.ref L) H')∨∃x,rE ps=.str x∧∀dx H',aQ H H'→H' dx=some (.xd [("name",.str x)])→E (.ref t.bG) (some dx) H')
theorem sc_arcs_of:FnScope ["net", "arcs", "lane"] ["net"] (aA mO):=⟨rfl,rfl,rfl,by decide +kernel,rfl,by decide +kernel,by decide +kernel⟩
theorem ok_arcs_of (T:Txt w K mg t):FnOk P w K mg base (CX2 P w) 6 t.zy t.xT ["net"] (sp_arcs_of K t):=by
 have sc:=sc_arcs_of
 refine T.F_arcs_of.ok2 sc (fun vs H Q E h=>?_) (fun cdv A outer s H vs Q E hr h=>?_)
 ·obtain⟨n,ls,ps,rfl,_⟩:=h
  rfl
 ·obtain⟨n,ls,ps,rfl,N,h⟩:=h
  refine⟨_,(aB (cg (uZ (pc_notN (lw (pv 0) T.cB T.BP (BK T) (hr.mono (by decide)) T.b_Net_odd .nil aO)))
    (aC (zq T.X_NotCalm (ok_NotCalm___init__ T) (hr.mono (by decide)) (by rfl) T.xn T.b_NotCalm___init__ aO (aj (lw (pv 0) T.cB T.BP (BK T) (hr.mono (by decide)) T.b_Net_odd .nil aO) aq aV)))
    bQ)
   (aB (aX (i:=1) sc.nd rfl (Or.inl rfl) (bA aq))
   (aB (gQ PassesOwn.leaving rfl (iQ (lw (pv 0) T.cB T.qD (qF T) (hr.mono (by decide)) T.rK .nil aO)) (dz (i:=2) sc.nd rfl (Or.inl rfl))
    (aC (bF (oU PySem.F.plainAttrs_list PySem.F.slot_list_extend PySem.F.type_list_extend yU (pv 1) (aj (aJ (ok_arcs_of_lane T) (hr.mono (by decide)) (by rfl) T.m_arcs_of_lane T.u5.kp T.b_arcs_of_lane .nil aO (aj (pv 0) (aj (pv 2) aq ak) ak)) aq aV)))))
   (aC (aZ (bh op_cat (pv 1) (oY [] ["net", "arcs", "lane"] (aA mO) rfl (iQ (lw (pv 0) T.cB T.qJ (ql T) (hr.mono (by decide)) T.rP .nil aO)) (fun _ _ _ _ _=>mL) (fun _ _ _ _ _=>(cV (aj (pv 0) (aj (pv 0) (aj az (aj bH (aj bH aq ao) ao) ao) ak) ak)))))))))),?_⟩
  obtain⟨dx,fs,R,F,Pd,G,Tk,FL,PL,W⟩:=id N
  have hz:sizeLine=16777216:=sizeLine_eq
  have l24:=W.fit.l24
  have p16:=W.fit.p16
  refine⟨_,rfl,n,dx,fs,rfl,W.obj,W.fl.no _ (by decide +kernel),n,ls,ps,rfl,N,fun H1 s1=>?_⟩
  have W1:=W.same s1
  rcases h with ⟨ho,k⟩ | ⟨x,ho,kE⟩
  ·rw [ho]
   refine⟨_,rfl,fX ?_⟩
   refine⟨by show 0≤sizeLine;exact szl,fun A nA=>?_⟩
   have tA:=aD (o:=.lst []) nA
   have eA:upd H1 A (.lst []) A=some (.lst []):=au
   have W2:=W1.same tA
   have nA0:=s1.free nA
   generalize upd H1 A (.lst [])=H2 at tA eA W2 ⊢
   refine⟨_,rfl,n,dx,fs,rfl,W2.obj,W2.fl.no _ (by decide +kernel),n,ls,ps,rfl,W2.s,fun Ln nLn=>⟨Ln,rfl,⟨_,SqL.of au⟩,?_⟩⟩
   have tN:=aD (o:=.lst (ls.map fun x=>V.str x.name)) nLn
   have eN:upd H2 Ln (.lst (ls.map fun x=>V.str x.name)) Ln=some (.lst (ls.map fun x=>V.str x.name)):=au
   have eA2:=tN _ _ eA
   have nLA:Ln≠A:=Ne.symm (aF eA nLn)
   have s3:=off_new (tA.trans tN) nA
   generalize upd H2 Ln (.lst (ls.map fun x=>V.str x.name))=B at tN eN eA2 s3 ⊢
   have eNB:bK [A] B Ln=some (.lst (ls.map fun x=>V.str x.name)):=fY eN (by rw [List.mem_singleton];exact nLA)
   have WB:=W1.same s3
   refine nH (K:=K) (a:=Ln) (xs:=ls.map fun x=>V.str x.name) (fun j σ H'=>(∃v2,σ=[some (.ref n),some (.ref A),v2])∧aQ (bK [A] B) (bK [A] H')∧∃ra:List AA,H' A=some (.lst (ra.map fun q=>V.ref q.2))∧(∀q∈ra,bK [A] H' q.2=some (.tup (arcV q.1)))∧ra.map (·.1)=(ls.take j).flatMap (arcs2 ps)) ⟨⟨_,rfl⟩,aQ.refl _,[],eA2,by simp,rfl⟩ (fun j σ H' _ h=>SqL.of (fC _ _ (h.2.1 _ _ eNB))) ?_ ?_
   ·rintro j x σ H' hx ⟨⟨v2,rfl⟩,s',ra,eA',hra,era⟩
    rw [List.getElem?_map] at hx
    obtain⟨l,hlj,rfl⟩:=Option.map_eq_some_iff.mp hx
    have hj:=(List.getElem?_eq_some_iff.mp hlj).1
    have lra:ra.length≤48:=by
     have:=congrArg List.length era
     rw [List.length_map,zc,List.length_take] at this
     omega
    refine⟨_,rfl,.inl ⟨rfl,_,SqL.of eA'⟩,_,rfl,_,rfl,n,ls,ps,l,rfl,(WB.same s').same fC |>.s,List.mem_of_getElem? hlj,fun H3 L3 r3 t3 n3 A3 e3=>?_⟩
    have l3:r3.length=2:=by have:=congrArg List.length e3;rw [List.length_map] at this;exact this
    have eA3:=t3 _ _ eA'
    refine⟨A,L3,_,_,rfl,rfl,eA3,A3.lst,by rw [List.length_map,List.length_map];omega,⟨_,rfl⟩,?_,ra ++ r3,by rw [←List.map_append];exact au,fun q hq=>?_,?_⟩
    ·rw [dF (by simp)]
     exact s'.trans (off_same t3 eA')
    ·rw [dF (by simp)]
     rcases List.mem_append.mp hq with h | h
     ·exact off_same t3 eA' _ _ (hra q h)
     ·exact lst_cut eA3 (A3.at_ q h) (by intro _ z;cases z)
    ·rw [List.map_append,era,e3,List.take_succ,hlj,Option.toList_some,List.flatMap_append]
     simp
   rintro σ H3 ⟨⟨v2,rfl⟩,s',ra,eA',hra,era⟩
   rw [List.length_map,List.take_length] at era
   have lra:ra.length≤48:=by
    have:=congrArg List.length era
    rw [List.length_map,zc] at this
    omega
   have W3:=(WB.same s').same fC
   refine⟨_,rfl,_,rfl,n,dx,fs,rfl,W3.obj,W3.fl.no _ (by decide +kernel),n,ls,ps,rfl,W3.s,fun Lp nLp=>⟨Lp,rfl,⟨_,SqL.of au⟩,?_⟩⟩
   have tP:=aD (o:=.lst (ps.map fun x=>V.str x.name)) nLp
   have eP:upd H3 Lp (.lst (ps.map fun x=>V.str x.name)) Lp=some (.lst (ps.map fun x=>V.str x.name)):=au
   generalize upd H3 Lp (.lst (ps.map fun x=>V.str x.name))=H4 at tP eP ⊢
   refine rN (K:=K) (a:=Lp) (xs:=ps.map fun x=>V.str x.name) (fun j zs H'=>aQ H4 H'∧∃rb:List AA,zs=rb.map (fun q=>V.ref q.2)∧rb.length=j∧(∀q∈rb,H' q.2=some (.tup (arcV q.1)))∧rb.map (·.1)=(ps.take j).map selfA) (by rw [List.length_map];omega) ⟨aQ.refl _,[],rfl,rfl,by simp,rfl⟩ (fun j zs H' ⟨_,rb,e,e2,_⟩=>by rw [e,List.length_map];omega) (fun j zs H' _ h=>h.1.seq (SqL.of eP)) ?_ ?_
   ·rintro j x zs H' hx ⟨s5,rb,rfl,hlen,hrb,erb⟩
    rw [List.getElem?_map] at hx
    obtain⟨p,hpj,rfl⟩:=Option.map_eq_some_iff.mp hx
    refine yes ⟨_,rfl,_,rfl,by show 5≤sizeLine;exact szl,fun q nq=>?_⟩
    have tq:=aD (o:=.tup [.str p.name,.str p.name,.int 1,.str "",.str "again"]) nq
    refine⟨s5.trans tq,rb ++ [(selfA p,q)],by rw [List.map_append];rfl,by rw [List.length_append,List.length_singleton];omega,fun z hz'=>?_,?_⟩
    ·rcases List.mem_append.mp hz' with h | h
     ·exact tq _ _ (hrb z h)
     ·rw [List.mem_singleton] at h;subst h;exact au
    ·rw [List.map_append,erb,List.take_succ,hpj,Option.toList_some,List.map_append]
     rfl
   rintro zs H5 ⟨s5,rb,rfl,hlen,hrb,erb⟩ D nD
   rw [List.length_map,List.take_length] at erb
   rw [List.length_map] at hlen
   have tD:=aD (o:=.lst (rb.map fun q=>V.ref q.2)) nD
   have s35:=tP.trans (s5.trans tD)
   refine⟨A,D,_,_,rfl,rfl,s35 _ _ eA',au,by rw [List.length_map,List.length_map];omega,fun L nL=>?_⟩
   rw [←List.map_append]
   have tL:=aD (o:=.lst ((ra ++ rb).map fun q=>V.ref q.2)) nL
   have sAll:aQ H1 H3:=fun b o e=>fC _ _ (s' _ _ (s3 _ _ e))
   refine k _ L (ra ++ rb) (s1.trans (sAll.trans (s35.trans tL))) ?_ ⟨au,fun q hq=>?_⟩ ?_
   ·exact(s1.trans (sAll.trans s35)).free nL
   ·rcases List.mem_append.mp hq with h | h
    ·exact tL _ _ (s35 _ _ (fC _ _ (hra q h)))
    ·exact tL _ _ (tD _ _ (hrb q h))
   ·rw [List.map_append,era,erb]
    rfl
  ·rw [ho]
   refine⟨_,rfl,lX ?_⟩
   refine⟨_,rfl,n,dx,fs,rfl,W1.obj,W1.fl.no _ (by decide +kernel),n,ls,ps,rfl,W1.s,fun H2 s2=>?_⟩
   rw [ho]
   refine⟨by show 1≤1000;decide,fun y ny n0=>⟨y,_,rfl,au,fun dx' nd ne=>⟨rfl,y,dx',rfl,n0,by rw [aH ne.symm];exact au,?_⟩⟩⟩
   have rz:=raised (fs:=[(("name" :Str),V.str x)]) ny nd ne
   exact kE dx' _ (s1.trans (s2.trans rz.1)) rz.2
def sp_gone_round (K:PySem.W.Frag):Sp:=fun vs H Q _=>∃(x:Str) (d:Addr) (m:List (Str×Str)),vs=[.str x,.ref d]∧H d=some (.dK (kvG V.str m))∧m.length≤1000∧∀H' L r a seen,aQ H H'→H' L=some (.lst (r.map V.str))→Rg.Gone (lkG m) x seen a→(∀y∈r,y∈seen)→((a∈seen∧Rg.Round (lkG m) r∧r≠[])∨(a∉seen∧lkG m a=none∧r=[]))→Q (.ref L) H'
theorem sc_gone_round:FnScope ["start", "leads", "seen", "at"] ["start", "leads"] (aA jr):=⟨rfl,rfl,rfl,by decide +kernel,rfl,by decide +kernel,by decide +kernel⟩
theorem ok_gone_round (T:Txt w K mg t):FnOk P w K mg base CX0 1 t.ut t.qL ["start", "leads"] (sp_gone_round K):=by
 have sc:=sc_gone_round
 refine T.yz.ok sc (fun vs H Q E h=>?_) (fun cdv A outer s H vs Q E hr h=>?_)
 ·obtain⟨x,d,m,rfl,_⟩:=h
  rfl
 ·obtain⟨x,d,m,rfl,hd,hlen,k⟩:=h
  refine⟨_,(aB (aX (i:=2) sc.nd rfl (Or.inl rfl) (bA aq))
   (aB (aX (i:=3) sc.nd rfl (Or.inl rfl) (pv 0))
   (aB (yc PassesOwn.never (PW.pt (xP (uZ (Bg hr.u1 (pv 3) (pv 1))) (vZ (bz yt (pv 3) (pv 2) (by with_unfolding_all rfl)))))
    (aB (bF (oU PySem.F.plainAttrs_list PySem.F.slot_list_append PySem.F.type_list_append j0 (pv 2) (aj (pv 3) aq ak)))
    (aC (aX (i:=3) sc.nd rfl (Or.inl rfl) (dD hr.u1 (pv 1) (pv 3) (fun _ _=>rfl))))))
   (aC (aZ (pe_ifExp (bz zj (pv 3) (pv 2) (by with_unfolding_all rfl)) (uW sl_list (pv 2) (yR (oU PySem.F.plainAttrs_list PySem.F.slot_list_index PySem.F.type_list_index mt_indexS (pv 2) (aj (pv 3) aq ak))) yQ) (bA aq))))))),?_⟩
  have hz:sizeLine=16777216:=sizeLine_eq
  refine⟨by show 0≤sizeLine;exact szl,fun S nS=>⟨_,rfl,?_⟩⟩
  refine Bq (fun σ H'=>∃seen a,σ=[some (.str x),some (.ref d),some (.ref S),some (.str a)]∧H'=upd H S (.lst (seen.map V.str))∧Rg.Gone (lkG m) x seen a) (fun σ H'=>m.length+1 - lenAt H' S) ⟨[],x,rfl,rfl,.start _ _⟩ ?_ ?_
  ·rintro σ H' ⟨seen,a,rfl,rfl,g⟩
   have ed:upd H S (.lst (seen.map V.str)) d=some (.dK (kvG V.str m)):=by rw [aH (aF hd nS)];exact hd
   have eS:upd H S (.lst (seen.map V.str)) S=some (.lst (seen.map V.str)):=au
   have sS:aQ H (upd H S (.lst (seen.map V.str))):=aD nS
   have sl:seen.length≤m.length:=by
    have:=Rg.xj g.nd (m:=m.map (·.1)) fun y hy=>by
     obtain⟨z,ez⟩:=g.mem y hy
     exact mW.mp (by rw [ez];rfl)
    rwa [List.length_map] at this
   refine⟨_,rfl,_,rfl,d,_,rfl,lK ed a,?_⟩
   cases e:lkG m a with
   | none=>
    have hm:a∉seen:=fun z=>by
     obtain⟨b,eb⟩:=g.mem a z
     rw [e] at eb
     cases eb
    refine⟨_,rfl,fX (fX ?_)⟩
    refine⟨_,rfl,_,rfl,S,_,rfl,.inl (SqL.of eS),rfl,zz _,_,rfl,?_⟩
    rw [in_strs,decide_eq_false hm]
    refine fX ⟨by show 0≤sizeLine;exact szl,fun L nL=>?_⟩
    exact k _ L [] a seen (sS.trans (aD nL)) au g (by simp) (.inr ⟨hm,e,rfl⟩)
   | some b=>
    refine⟨_,rfl,lX ?_⟩
    refine⟨_,rfl,_,rfl,S,_,rfl,.inl (SqL.of eS),rfl,zz _,_,rfl,?_⟩
    rw [in_strs]
    by_cases hm:a∈seen
    ·rw [decide_eq_true hm]
     refine fX ?_
     refine⟨_,rfl,_,rfl,S,_,rfl,.inl (SqL.of eS),rfl,zz _,_,rfl,?_⟩
     rw [in_strs,decide_eq_true hm]
     refine lX ?_
     obtain⟨j,hj,ej⟩:=List.mem_iff_getElem.mp hm
     have hja:seen[j]?=some a:=by rw [List.getElem?_eq_getElem hj,ej]
     refine⟨_,rfl,_,rfl,.inl ⟨rfl,_,SqL.of eS⟩,_,rfl,S,seen,a,j,rfl,rfl,eS,hja,fun i y hi ey z=>?_,_,rfl,S,_,rfl,SqL.of eS,fun L nL=>?_⟩
     ·subst z
      have h1:=(List.getElem?_eq_some_iff.mp ey)
      have:=(List.getElem_inj g.nd).mp (h1.2.trans ej.symm)
      omega
     ·rw [cutV_from,←List.map_drop]
      have R:=g.round hja
      exact k _ L (seen.drop j) a seen (sS.trans (aD nL)) au g (fun y hy=>List.mem_of_mem_drop hy) (.inl ⟨hm,R.1,R.2⟩)
    ·rw [decide_eq_false hm]
     refine lX ?_
     refine⟨_,rfl,.inl ⟨rfl,_,SqL.of eS⟩,_,rfl,S,_,_,rfl,rfl,eS,by rw [List.length_map];omega,?_⟩
     rw [qG]
     have ed2:upd H S (.lst (seen.map V.str ++ [.str a])) d=some (.dK (kvG V.str m)):=by rw [aH (aF hd nS)];exact hd
     have g2:=lK ed2 a
     rw [e] at g2
     refine⟨_,rfl,_,rfl,d,_,rfl,g2,?_⟩
     have G:=g.step e hm
     have es:seen.map V.str ++ [V.str a]=(seen ++ [a]).map V.str:=by rw [List.map_append];rfl
     rw [es]
     refine⟨⟨seen ++ [a],b,rfl,rfl,G⟩,?_⟩
     show m.length+1 - lenAt _ S <m.length+1 - lenAt _ S
     rw [yj (au (H:=H) (a:=S) (o:=.lst ((seen ++ [a]).map V.str))),yj eS,List.length_map,List.length_map,List.length_append,List.length_singleton]
     omega
  ·intro σ H' Q' Q'' hm hq
   obtain⟨v,e,u,e2,d',o',e3,g,b,e4,hq⟩:=hq
   refine⟨v,e,u,e2,d',o',e3,g,b,e4,?_⟩
   split at hq
   ·rename_i hb
    rw [if_pos hb]
    obtain⟨v,e,u,e2,p',xs,e3,h1,h2,h3,b',e5,hq⟩:=hq
    exact⟨v,e,u,e2,p',xs,e3,h1,h2,h3,b',e5,hm _ _ hq⟩
   ·rename_i hb
    rw [if_neg hb]
    exact hm _ _ hq
def aG (q:AA):V:=.ref q.2
def fI (ik:List (Str×AA)) (x:Str):Option Str:=(lkG ik x).map fun q=>q.1.fr
def qm (ik:List (Str×AA)):List (Str×Str):=ik.map fun q=>(q.1,q.2.1.fr)
theorem lead_lk (ik:List (Str×AA)):lkG (qm ik)=fI ik:=by
 funext x
 unfold fI
 induction ik with
 | nil=>rfl
 | cons q r ih=>
  show lkG ((q.1,q.2.1.fr):: qm r) x=_
  rw [lE,lE]
  by_cases h:q.1=x
  ·rw [if_pos h,if_pos h];rfl
  ·rw [if_neg h,if_neg h];exact ih
theorem lead_keys (ik:List (Str×AA)):(qm ik).map (·.1)=ik.map (·.1):=by unfold qm;rw [List.map_map];rfl
def sp_ring_into (K:PySem.W.Frag):Sp:=fun vs H Q _=>∃(x:Str) (d:Addr) (ik:List (Str×AA)),vs=[.str x,.ref d]∧H d=some (.dK (kvG aG ik))∧(ik.map (·.1)).Nodup∧ik.length≤100∧(∀q∈ik,H q.2.2=some (.tup (arcV q.2.1)))∧∀H' L r a seen,aQ H H'→H L=none→ArcsR H' L (r.reverse.filterMap (lkG ik))→Rg.Gone (fI ik) x seen a→(∀y∈r,∃q,lkG ik y=some q)→((a∈seen∧Rg.Round (fI ik) r∧r≠[])∨(a∉seen∧fI ik a=none∧r=[]))→Q (.ref L) H'
theorem sc_ring_into:FnScope ["start", "into", "leads", "name"] ["start", "into"] (aA iY):=⟨rfl,rfl,rfl,by decide +kernel,rfl,by decide +kernel,by decide +kernel⟩
theorem ok_ring_into (T:Txt w K mg t):FnOk P w K mg base CX0 2 t.vX t.uh ["start", "into"] (sp_ring_into K):=by
 have sc:=sc_ring_into
 refine T.z9.ok sc (fun vs H Q E h=>?_) (fun cdv A outer s H vs Q E hr h=>?_)
 ·obtain⟨x,d,ik,rfl,_⟩:=h
  rfl
 ·obtain⟨x,d,ik,rfl,hd,nd,hlen,hat,k⟩:=h
  refine⟨_,(aB (aX (i:=2) sc.nd rfl (Or.inl rfl) jC)
   (aB (nG (H0:=H) rfl (gQ PassesOwn.never rfl (oW (pv 1)) (dz (i:=3) sc.nd rfl (Or.inl rfl))
    (aC (jL hr.u1 (pv 2) (pv 3) (aW bT (dD hr.u1 (pv 1) (pv 3) (fun _ _=>rfl)) az (fun _ _=>rfl)) rfl))))
   (aC (aZ (oY [1] ["start", "into", "leads", "name"] (aA iY) rfl (pi_rev rfl T.n_reversed (aj (aJ (ok_gone_round T) (hr.mono (by decide)) (by rfl) T.m_gone_round T.yz.kp T.b_gone_round .nil aO (aj (pv 0) (aj (pv 2) aq ak) ak)) aq aV)) (fun _ _ _ _ _=>mL) (fun _ _ _ _ _=>(dD hr.u1 (pv 1) (pv 0) (fun _ _=>rfl)))))))),?_⟩
  have hz:sizeLine=16777216:=sizeLine_eq
  refine fun D nD=>?_
  have tD:=aD (o:=.dK []) nD
  have eD:upd H D (.dK []) D=some (.dK (kvG V.str (qm (ik.take 0)))):=au
  generalize upd H D (.dK [])=H0 at tD eD ⊢
  have hd0:=tD _ _ hd
  have nDd:D≠d:=Ne.symm (aF hd nD)
  refine⟨_,rfl,d,_,rfl,hd0,fun o=>rG (fun j σ H'=>(∃v3,σ=[some (.str x),some (.ref d),some (.ref D),v3])∧But d H H'∧H' d=some (.frz o (.dK (kvG aG ik)))∧H' D=some (.dK (kvG V.str (qm (ik.take j))))) ⟨⟨_,rfl⟩,fun b u hn e=>by rw [aH hn];exact tD _ _ e,au,by rw [aH nDd];exact eD⟩ (fun j σ H' _ h=>h.2.2.1) ?_ ?_⟩
  ·rintro j kk v σ H' hj ⟨⟨v3,rfl⟩,hb,hg,eD'⟩
   obtain⟨q,hq,rfl,rfl⟩:=kvG_at hj
   have hqm:=List.mem_of_getElem? hq
   have g1:=kvG_getF hg q.1
   rw [lkG_nd nd hqm] at g1
   have nin:q.1∉(qm (ik.take j)).map (·.1):=by rw [lead_keys];exact yo nd hq
   have ne:q.2.2≠d:=uA (hat q hqm) hd (by intro z;cases z)
   refine⟨_,rfl,_,rfl,d,_,rfl,g1,q.2.2,_,0,_,rfl,rfl,SqT.of (hb _ _ ne (hat q hqm)),aN (j:=0) rfl,_,rfl,_,rfl,D,_,rfl,sG.k (k:=Sum.inr q.1) eD' (by rw [lO];unfold qm;rw [List.length_map,List.length_take];omega),⟨_,rfl⟩,fun b u hn e=>?_,?_,?_⟩
   ·rw [aH (aF e nD)];exact hb b u hn e
   ·rw [aH (Ne.symm nDd)];exact hg
   ·rw [au]
    have:putK (kvG V.str (qm (ik.take j))) (Sum.inr q.1) (.str q.2.1.fr)=kvG V.str (fZ (qm (ik.take j)) q.1 q.2.1.fr):=qy _ _ _ _
    rw [this,Bp _ nin,List.take_succ,hq,Option.toList_some]
    unfold qm
    rw [List.map_append]
    rfl
  rintro σ H' ⟨⟨v3,rfl⟩,hb,hg,eD'⟩
  rw [lO,List.take_length] at eD'
  refine⟨_,⟨d,o,_,hg,(fun o' u' z=>by rw [show H d=_ from hd] at z;cases z),rfl⟩,?_⟩
  have s1:aQ H (upd H' d (.dK (kvG aG ik))):=fun b u e=>by
   by_cases h:b=d
   ·subst h;rw [au];rw [hd] at e;exact e
   ·rw [aH h];exact hb b u h e
  have eD1:upd H' d (.dK (kvG aG ik)) D=some (.dK (kvG V.str (qm ik))):=by rw [aH nDd];exact eD'
  generalize upd H' d (.dK (kvG aG ik))=H1 at s1 eD1 ⊢
  refine⟨_,rfl,_,rfl,x,D,qm ik,rfl,eD1,by unfold qm;rw [List.length_map];omega,fun H2 L r a seen s2 eL g hr hc=>⟨L,r.map V.str,rfl,SqL.of eL,?_⟩⟩
  rw [lead_lk] at g hc
  have s12:=s1.trans s2
  have hd2:=s12 _ _ hd
  have get:∀y∈r,∃q,lkG ik y=some q:=fun y hy=>by
   obtain⟨z,ez⟩:=g.mem y (hr y hy)
   obtain⟨q,hq,_⟩:=Option.map_eq_some_iff.mp ez
   exact⟨q,hq⟩
  have lr:r.length≤100:=by
   have h1:=Rg.xj g.nd (m:=ik.map (·.1)) fun y hy=>by
    obtain⟨z,ez⟩:=g.mem y hy
    obtain⟨q,hq,_⟩:=Option.map_eq_some_iff.mp ez
    exact mW.mp (by rw [hq];rfl)
   rw [List.length_map] at h1
   rcases hc with ⟨_,R,_⟩ | ⟨_,_,rfl⟩
   ·have:=Rg.xj R.nd hr
    omega
   ·exact Nat.zero_le _
  refine comp_rev (K:=K) (a:=L) (xs:=r.map V.str) (fun i ys H'=>H'=H2∧ys=((r.reverse.take i).filterMap (lkG ik)).map (fun q=>V.ref q.2)) (by rw [List.length_map];omega) ⟨rfl,rfl⟩ (fun i ys H' ⟨_,e⟩=>by rw [e,List.length_map];exact Nat.le_trans (List.length_filterMap_le _ _) (by rw [List.length_take];omega)) (fun i ys H' _ ⟨e,_⟩=>by rw [e];exact SqL.of eL) ?_ ?_
  ·rintro i y ys H' hy ⟨rfl,rfl⟩
   rw [←List.map_reverse,List.getElem?_map] at hy
   obtain⟨z,hz',rfl⟩:=Option.map_eq_some_iff.mp hy
   obtain⟨q,hq⟩:=get z (List.mem_reverse.mp (List.mem_of_getElem? hz'))
   have g2:=lK hd2 z
   rw [hq] at g2
   refine yes ⟨_,rfl,_,rfl,d,_,rfl,g2,rfl,?_⟩
   rw [List.take_succ,hz',Option.toList_some,List.filterMap_append,List.map_append]
   simp [hq,aG]
  rintro ys H9 ⟨rfl,rfl⟩ D2 nD2
  have t3:=aD (o:=.lst (((r.reverse.take (r.map V.str).length).filterMap (lkG ik)).map (fun q=>V.ref q.2))) nD2
  rw [show r.reverse.take (r.map V.str).length=r.reverse from List.take_of_length_le (by rw [List.length_map,List.length_reverse];exact Nat.le_refl _)] at t3 ⊢
  refine k _ D2 r a seen (s12.trans t3) (s12.free nD2) ⟨au,fun q hq=>?_⟩ g get hc
  obtain⟨y,_,e⟩:=List.mem_filterMap.mp hq
  exact t3 _ _ (s12 _ _ (hat _ (yS e)))
structure IntoOk (ra:List AA) (ik:List (Str×AA)):Prop where
 nd:(ik.map (·.1)).Nodup
 ok:∀e∈ik,e.2∈ra∧e.2.1.to=e.1
theorem IntoOk.put {ra:List AA} {ik:List (Str×AA)} (h:IntoOk ra ik) {q:AA} (hq:q∈ra):IntoOk ra (fZ ik q.1.to q):=⟨putG_nd h.nd,fun e he=>by
 rcases putG_mem he with h1 | h1
 ·exact h.ok e h1
 ·subst h1;exact⟨hq,rfl⟩⟩
theorem IntoOk.len {ra:List AA} {ik:List (Str×AA)} (h:IntoOk ra ik):ik.length≤ra.length:=by
 have:=Rg.xj h.nd (m:=ra.map fun q=>q.1.to) fun x hx=>by
  obtain⟨e,he,rfl⟩:=List.mem_map.mp hx
  obtain⟨h1,h2⟩:=h.ok e he
  exact List.mem_map.mpr ⟨e.2,h1,h2⟩
 rwa [List.length_map,List.length_map] at this
def cW (p q:Int) (a:AA):Int:=p - q * a.1.tk
def tF (tm:List (Str×Int)) (x:Str):Int:=(lkG tm x).getD 0
def wI (p q:Int) (ik:List (Str×AA)) (x:Str):Int:=match lkG ik x with
 | some a=>cW p q a
 | none=>0
theorem tF_put (tm:List (Str×Int)) (x:Str) (v:Int):tF (fZ tm x v)=fun y=>if y=x then v else tF tm y:=by
 funext y
 unfold tF
 rw [Ae]
 split <;> rfl
theorem fI_put (ik:List (Str×AA)) (x:Str) (a:AA):fI (fZ ik x a)=fun y=>if y=x then some a.1.fr else fI ik y:=by
 funext y
 unfold fI
 rw [Ae]
 split <;> rfl
theorem wI_put (p q:Int) (ik:List (Str×AA)) (x:Str) (a:AA):wI p q (fZ ik x a)=fun y=>if y=x then cW p q a else wI p q ik y:=by
 funext y
 unfold wI
 rw [Ae]
 by_cases h:y=x
 ·rw [if_pos h,if_pos h]
 ·rw [if_neg h,if_neg h]
structure ArcsN (N:List Str) (ra:List AA):Prop where
 fr:∀a∈ra,a.1.fr∈N
 to:∀a∈ra,a.1.to∈N
structure ArcsIn (N:List Str) (ra:List AA):Prop extends ArcsN N ra where
 tk0:∀a∈ra,0≤a.1.tk
 tk1:∀a∈ra,a.1.tk≤1000000
abbrev Rd1 (p q:Int) (ra:List AA) (N:List Str) (k j:Nat) (tm:List (Str×Int)) (ik:List (Str×AA)) (R:Str→Nat):Prop:=Rg.Rnd (fun a:AA=>a.1.fr) (fun a:AA=>a.1.to) (cW p q) ra N k j (tF tm) (fI ik) (wI p q ik) R
def sp_grow_times (K:PySem.W.Frag):Sp:=fun vs H Q _=>∃(Dt Di L W:Addr) (p q:Int) (N:List Str) (ra:List AA) (k:Nat) (tm:List (Str×Int)) (ik:List (Str×AA)) (R:Str→Nat),vs=[.ref Dt,.ref Di,.ref L,.ref W]∧H Dt=some (.dK (kvG V.int tm))∧H Di=some (.dK (kvG aG ik))∧Dt≠Di∧ArcsR H L ra∧H W=some (.tup [.int p,.int q])∧0≤q∧q≤1000000∧ra.length≤100∧N.length≤16∧ArcsN N ra∧tm.map (·.1)=N∧IntoOk ra ik∧1≤k∧Rd1 p q ra N k 0 tm ik R∧∀H' G gs tm' ik' R',aQ (bK [Dt,Di] H) (bK [Dt,Di] H')→H' Dt=some (.dK (kvG V.int tm'))→H' Di=some (.dK (kvG aG ik'))→H' G=some (.lst (gs.map V.str))→H G=none→tm'.map (·.1)=N→IntoOk ra ik'→Rd1 p q ra N k ra.length tm' ik' R'→(gs=[]→∀a∈ra,tF tm' a.1.fr+cW p q a≤tF tm' a.1.to)→(∀g∈gs,R' g=k∧g∈N)→(∀x,tF tm x≤tF tm' x)→Q (.ref G) H'
theorem sc_grow_times:FnScope ["times", "into", "arcs", "wish", "grown", "arc", "least"] ["times", "into", "arcs", "wish"] (aA jw):=⟨rfl,rfl,rfl,by decide +kernel,rfl,by decide +kernel,by decide +kernel⟩
theorem ok_grow_times (T:Txt w K mg t):FnOk P w K mg base CX0 1 t.tO t.rn ["times", "into", "arcs", "wish"] (sp_grow_times K):=by
 have sc:=sc_grow_times
 refine T.yF.ok sc (fun vs H Q E h=>?_) (fun cdv A outer s H vs Q E hr h=>?_)
 ·obtain⟨Dt,Di,L,W,p,q,N,ra,k,tm,ik,R,rfl,_⟩:=h
  rfl
 ·obtain⟨Dt,Di,L,W,p,q,N,ra,k,tm,ik,R,rfl,eDt,eDi,nDD,A,eW,q0,q1,hra,hN,AI,hk,IO,k1,rd,kk⟩:=h
  refine⟨_,(aB (aX (i:=4) sc.nd rfl (Or.inl rfl) (bA aq))
   (aB (gQ PassesOwn.never rfl (iQ (pv 2)) (dz (i:=5) sc.nd rfl (Or.inl rfl))
    (aB (aX (i:=6) sc.nd rfl (Or.inl rfl) (bh tV (bh dN (dD hr.u1 (pv 0) (aW bT (pv 5) az (fun _ _=>rfl)) (fun _ _=>rfl)) (aW bT (pv 3) az (fun _ _=>rfl))) (bh qu (aW bT (pv 3) az (fun _ _=>rfl)) (aW bT (pv 5) az (fun _ _=>rfl)))))
    (aC (gf (cg (bz wQ (dD hr.u1 (pv 0) (aW bT (pv 5) az (fun _ _=>rfl)) (fun _ _=>rfl)) (pv 6) (bU _))
     (aB (jL hr.u1 (pv 0) (aW bT (pv 5) az (fun _ _=>rfl)) (pv 6) rfl)
     (aB (jL hr.u1 (pv 1) (aW bT (pv 5) az (fun _ _=>rfl)) (pv 5) rfl)
     (aC (bF (oU PySem.F.plainAttrs_list PySem.F.slot_list_append PySem.F.type_list_append j0 (pv 4) (aj (aW bT (pv 5) az (fun _ _=>rfl)) aq aK))))))
     bQ)))))
   (aC (aZ (pv 4))))),?_⟩
  have hz:sizeLine=16777216:=sizeLine_eq
  refine⟨by show 0≤sizeLine;exact szl,fun G nG0=>?_⟩
  have tG:=aD (o:=.lst []) nG0
  have eG:upd H G (.lst []) G=some (.lst (([]:List Str).map V.str)):=au
  have nGt:G≠Dt:=Ne.symm (aF eDt nG0)
  have nGi:G≠Di:=Ne.symm (aF eDi nG0)
  have eDt0:=tG _ _ eDt
  have eDi0:=tG _ _ eDi
  have cut3:∀{H':Hp} {b:Addr} {o:HO},b≠Dt→b≠Di→b≠G→H' b=some o→bK [Dt,Di,G] H' b=some o:=fun h1 h2 h3 e=>fY e (by simp [h1,h2,h3])
  have keep:aQ (bK [Dt,Di] H) (bK [Dt,Di,G] (upd H G (.lst []))):=fun b o e=>by
   have hb:b∉[Dt,Di]∧H b=some o:=by
    unfold bK at e
    split at e
    ·cases e
    ·rename_i h;exact⟨h,e⟩
   simp only [List.mem_cons,List.not_mem_nil,or_false,not_or] at hb
   have hg:b≠G:=aF hb.2 nG0
   exact cut3 hb.1.1 hb.1.2 hg (by rw [aH hg];exact hb.2)
  generalize upd H G (.lst [])=H0 at tG eG eDt0 eDi0 keep ⊢
  have lst2:∀{b:Addr} {o:HO},H b=some o→(∀ks,o≠.dK ks)→bK [Dt,Di,G] H0 b=some o:=fun {b o} e ho=>by
   refine keep b o (fY e ?_)
   simp only [List.mem_cons,List.not_mem_nil,or_false,not_or]
   exact⟨fun z=>by rw [z,eDt] at e;exact ho _ (Option.some.inj e).symm,fun z=>by rw [z,eDi] at e;exact ho _ (Option.some.inj e).symm⟩
  have eL0:=lst2 A.lst (by intro _ z;cases z)
  refine⟨_,rfl,L,rfl,⟨_,SqL.of (tG _ _ A.lst)⟩,?_⟩
  refine nH (K:=K) (a:=L) (xs:=ra.map fun q=>V.ref q.2) (fun j σ H'=>(∃v5 v6,σ=[some (.ref Dt),some (.ref Di),some (.ref L),some (.ref W),some (.ref G),v5,v6])∧aQ (bK [Dt,Di,G] H0) (bK [Dt,Di,G] H')∧∃tm' ik' R' gs,H' Dt=some (.dK (kvG V.int tm'))∧H' Di=some (.dK (kvG aG ik'))∧H' G=some (.lst (gs.map V.str))∧tm'.map (·.1)=N∧IntoOk ra ik'∧Rd1 p q ra N k j tm' ik' R'∧(gs=[]→∀i a,i <j→ra[i]?=some a→tF tm' a.1.fr+cW p q a≤tF tm' a.1.to)∧(∀g∈gs,R' g=k∧g∈N)∧(∀x,tF tm x≤tF tm' x)∧gs.length≤j) ⟨⟨_,_,rfl⟩,aQ.refl _,tm,ik,R,[],eDt0,eDi0,eG,hk,IO,rd,fun _ i a hi=>absurd hi (Nat.not_lt_zero _),by simp,fun _=>Int.le_refl _,Nat.le_refl _⟩ (fun j σ H' _ h=>SqL.of (fC _ _ (h.2.1 _ _ eL0))) ?_ ?_
  ·rintro j x σ H' hx ⟨⟨v5,v6,rfl⟩,s',tm',ik',R',gs,eT,eI,eGs,hk',IO',rd',hgs,hR,hup,hgl⟩
   rw [List.getElem?_map] at hx
   obtain⟨a,haj,rfl⟩:=Option.map_eq_some_iff.mp hx
   have ham:=List.mem_of_getElem? haj
   have hj:=(List.getElem?_eq_some_iff.mp haj).1
   have lower:∀{b:Addr} {o:HO},H b=some o→(∀ks,o≠.dK ks)→H' b=some o:=fun e ho=>fC _ _ (s' _ _ (lst2 e ho))
   have ea:=lower (A.at_ a ham) (by intro _ z;cases z)
   have eW:=lower eW (by intro _ z;cases z)
   obtain⟨tf,htf⟩:=Option.isSome_iff_exists.mp (mW.mpr (by rw [hk'];exact AI.fr a ham))
   obtain⟨tt,htt⟩:=Option.isSome_iff_exists.mp (mW.mpr (by rw [hk'];exact AI.to a ham))
   have g1:=lK eT a.1.fr
   have g2:=lK eT a.1.to
   rw [htf] at g1
   rw [htt] at g2
   have ef:tF tm' a.1.fr=tf:=by unfold tF;rw [htf];rfl
   have et:tF tm' a.1.to=tt:=by unfold tF;rw [htt];rfl
   refine⟨_,rfl,_,rfl,a.2,_,0,_,rfl,rfl,SqT.of ea,aN (j:=0) rfl,Dt,_,rfl,g1,_,rfl,W,_,0,_,rfl,rfl,SqT.of eW,aN (j:=0) rfl,tf,p,rfl,rfl,_,rfl,W,_,1,_,rfl,rfl,SqT.of eW,aN (j:=1) rfl,_,rfl,a.2,_,2,_,rfl,rfl,SqT.of ea,aN (j:=2) rfl,q,a.1.tk,rfl,rfl,.of_left (intBits_le_64 (by omega) (by omega)),tf+p,q * a.1.tk,rfl,rfl,?_⟩
   refine⟨fun σ2 H2=>(∃v5 v6,σ2=[some (.ref Dt),some (.ref Di),some (.ref L),some (.ref W),some (.ref G),v5,v6])∧aQ (bK [Dt,Di,G] H0) (bK [Dt,Di,G] H2)∧∃tm' ik' R' gs,H2 Dt=some (.dK (kvG V.int tm'))∧H2 Di=some (.dK (kvG aG ik'))∧H2 G=some (.lst (gs.map V.str))∧tm'.map (·.1)=N∧IntoOk ra ik'∧Rd1 p q ra N k (j+1) tm' ik' R'∧(gs=[]→∀i a,i <j+1→ra[i]?=some a→tF tm' a.1.fr+cW p q a≤tF tm' a.1.to)∧(∀g∈gs,R' g=k∧g∈N)∧(∀x,tF tm x≤tF tm' x)∧gs.length≤j+1,?_,fun _ _ h=>h⟩
   refine⟨_,rfl,_,rfl,a.2,_,1,_,rfl,rfl,SqT.of ea,aN (j:=1) rfl,Dt,_,rfl,g2,_,rfl,tt,tf+p - q * a.1.tk,rfl,rfl,_,rfl,jM (fun h=>?_) (fun h=>?_)⟩
   ·have h:tt <tf+p - q * a.1.tk:=of_decide_eq_true h
    have ltm:tm'.length≤16:=by have:=congrArg List.length hk';rw [List.length_map] at this;omega
    have lik:=IO'.len
    refine⟨_,rfl,_,rfl,_,rfl,a.2,_,1,_,rfl,rfl,SqT.of ea,aN (j:=1) rfl,Dt,_,rfl,sG.k (k:=Sum.inr a.1.to) eT (by rw [lO];omega),?_⟩
    rw [qy]
    have ea2:upd H' Dt (.dK (kvG V.int (fZ tm' a.1.to (tf+p - q * a.1.tk)))) a.2=some (.tup (arcV a.1)):=mG eT ea (by intro _ z;cases z)
    have eI2:upd H' Dt (.dK (kvG V.int (fZ tm' a.1.to (tf+p - q * a.1.tk)))) Di=some (.dK (kvG aG ik')):=by rw [aH (Ne.symm nDD)];exact eI
    have eG2:upd H' Dt (.dK (kvG V.int (fZ tm' a.1.to (tf+p - q * a.1.tk)))) G=some (.lst (gs.map V.str)):=by rw [aH nGt];exact eGs
    have eT2:upd H' Dt (.dK (kvG V.int (fZ tm' a.1.to (tf+p - q * a.1.tk)))) Dt=some (.dK (kvG V.int (fZ tm' a.1.to (tf+p - q * a.1.tk)))):=au
    have c2:bK [Dt,Di,G] (upd H' Dt (.dK (kvG V.int (fZ tm' a.1.to (tf+p - q * a.1.tk)))))=bK [Dt,Di,G] H':=dF (by simp)
    generalize upd H' Dt (.dK (kvG V.int (fZ tm' a.1.to (tf+p - q * a.1.tk))))=H2 at ea2 eI2 eG2 eT2 c2 ⊢
    have ea:=ea2
    refine⟨_,rfl,_,rfl,_,rfl,a.2,_,1,_,rfl,rfl,SqT.of ea,aN (j:=1) rfl,Di,_,rfl,sG.k (k:=Sum.inr a.1.to) eI2 (by rw [lO];omega),?_⟩
    rw [show V.ref a.2=aG a from rfl,qy]
    have ea3:upd H2 Di (.dK (kvG aG (fZ ik' a.1.to a))) a.2=some (.tup (arcV a.1)):=mG eI2 ea (by intro _ z;cases z)
    have eT3:upd H2 Di (.dK (kvG aG (fZ ik' a.1.to a))) Dt=some (.dK (kvG V.int (fZ tm' a.1.to (tf+p - q * a.1.tk)))):=by rw [aH nDD];exact eT2
    have eG3:upd H2 Di (.dK (kvG aG (fZ ik' a.1.to a))) G=some (.lst (gs.map V.str)):=by rw [aH nGi];exact eG2
    have eI3:upd H2 Di (.dK (kvG aG (fZ ik' a.1.to a))) Di=some (.dK (kvG aG (fZ ik' a.1.to a))):=au
    have c3:bK [Dt,Di,G] (upd H2 Di (.dK (kvG aG (fZ ik' a.1.to a))))=bK [Dt,Di,G] H2:=dF (by simp)
    generalize upd H2 Di (.dK (kvG aG (fZ ik' a.1.to a)))=H3 at ea3 eT3 eG3 eI3 c3 ⊢
    have ea:=ea3
    refine⟨_,rfl,.inl ⟨rfl,_,SqL.of eG3⟩,_,rfl,a.2,_,1,_,rfl,rfl,SqT.of ea,aN (j:=1) rfl,G,_,_,rfl,rfl,eG3,by rw [List.length_map];omega,?_⟩
    have es:gs.map V.str ++ [V.str a.1.to]=(gs ++ [a.1.to]).map V.str:=by rw [List.map_append];rfl
    have hgrow:tF tm' a.1.to <tF tm' a.1.fr+cW p q a:=by
     rw [ef,et]
     show tt <tf+(p - q * a.1.tk)
     omega
    have rg:=rd'.grow k1 haj hgrow (AI.fr a ham) (AI.to a ham)
    have eqv:tf+p - q * a.1.tk=tF tm' a.1.fr+cW p q a:=by
     rw [ef]
     show _=tf+(p - q * a.1.tk)
     omega
    refine⟨⟨_,_,rfl⟩,?_,fZ tm' a.1.to (tf+p - q * a.1.tk),fZ ik' a.1.to a,fun x=>if x=a.1.to then k else R' x,gs ++ [a.1.to],?_,?_,?_,?_,IO'.put ham,?_,?_,?_,?_,?_⟩
    ·rw [dF (by simp),c3,c2]
     exact s'
    ·rw [aH (Ne.symm nGt)];exact eT3
    ·rw [aH (Ne.symm nGi)];exact eI3
    ·rw [au,es]
    ·rw [zr (by rw [hk'];exact AI.to a ham)];exact hk'
    ·unfold Rd1
     rw [tF_put,fI_put,wI_put,eqv]
     exact rg
    ·intro z
     exact absurd z (by simp)
    ·intro g hg
     rcases List.mem_append.mp hg with h1 | h1
     ·obtain⟨h2,h3⟩:=hR g h1
      refine⟨?_,h3⟩
      dsimp only
      split
      ·rfl
      ·exact h2
     ·rw [List.mem_singleton] at h1
      subst h1
      exact⟨if_pos rfl,AI.to a ham⟩
    ·intro x
     rw [tF_put]
     dsimp only
     split
     ·rename_i e
      have:=hup x
      rw [e] at this ⊢
      omega
     ·exact hup x
    ·rw [List.length_append,List.length_singleton];omega
   ·have h:¬tt <tf+p - q * a.1.tk:=fun z=>h (decide_eq_true z)
    have hsat:tF tm' a.1.fr+cW p q a≤tF tm' a.1.to:=by
     rw [ef,et]
     show tf+(p - q * a.1.tk)≤tt
     omega
    refine⟨⟨_,_,rfl⟩,s',tm',ik',R',gs,eT,eI,eGs,hk',IO',rd'.stay haj hsat,fun hg i b hi hb=>?_,hR,hup,by omega⟩
    by_cases e:i=j
    ·subst e
     rw [haj] at hb
     cases hb
     exact hsat
    ·exact hgs hg i b (by omega) hb
  rintro σ H' ⟨⟨v5,v6,rfl⟩,s',tm',ik',R',gs,eT,eI,eGs,hk',IO',rd',hgs,hR,hup,hgl⟩
  rw [List.length_map] at hgs rd'
  refine⟨_,rfl,kk _ G gs tm' ik' R' (fun b o e=>?_) eT eI eGs nG0 hk' IO' rd' (fun hg a ha=>?_) hR hup⟩
  ·have h1:=s' _ _ (keep b o e)
   unfold bK at h1 ⊢
   split at h1
   ·cases h1
   ·rename_i h
    simp only [List.mem_cons,List.not_mem_nil,or_false,not_or] at h
    rw [if_neg (by simp [h.1,h.2.1])]
    exact h1
  ·obtain⟨i,hi,ei⟩:=List.mem_iff_getElem.mp ha
   exact hgs hg i a hi (by rw [List.getElem?_eq_getElem hi,ei])
structure RingA (p q:Int) (N:List Str) (ra as:List AA):Prop where
 ne:as≠[]
 mem:∀a∈as,a∈ra
 len:as.length≤N.length
 pos:0 <(as.map (cW p q)).sum
theorem fm_map (p q:Int) (ik:List (Str×AA)):∀{l:List Str},(∀y∈l,∃a,lkG ik y=some a)→(l.filterMap (lkG ik)).map (cW p q)=l.map (wI p q ik)∧(l.filterMap (lkG ik)).length=l.length
 | [],_=>⟨rfl,rfl⟩
 | y:: r,h=>by
  obtain⟨a,ha⟩:=h y List.mem_cons_self
  obtain⟨h1,h2⟩:=fm_map p q ik (l:=r) fun z hz=>h z (List.mem_cons_of_mem _ hz)
  rw [List.filterMap_cons_some ha]
  refine⟨?_,by rw [List.length_cons,List.length_cons,h2]⟩
  rw [List.map_cons,List.map_cons,h1]
  congr 1
  unfold wI
  rw [ha]
theorem ringA_of {p q:Int} {N:List Str} {ra:List AA} {ik:List (Str×AA)} {r:List Str} {T:Str→Int} (g:Rg.Good T (fI ik) (wI p q ik)) (dom:∀v u,fI ik v=some u→v∈N∧u∈N) (IO:IntoOk ra ik) (get:∀y∈r,∃a,lkG ik y=some a) (R:Rg.Round (fI ik) r) (ne:r≠[]):RingA p q N ra (r.reverse.filterMap (lkG ik)):=by
 obtain⟨h1,h2⟩:=fm_map p q ik (l:=r.reverse) fun y hy=>get y (List.mem_reverse.mp hy)
 rw [List.length_reverse] at h2
 refine⟨fun z=>ne ?_,fun a ha=>?_,?_,?_⟩
 ·rw [z] at h2
  exact List.length_eq_zero_iff.mp h2.symm
 ·obtain⟨y,_,e⟩:=List.mem_filterMap.mp ha
  exact(IO.ok _ (yS e)).1
 ·rw [h2]
  refine Rg.xj R.nd fun y hy=>?_
  obtain⟨a,ha⟩:=get y hy
  exact(dom y a.1.fr (by unfold fI;rw [ha];rfl)).1
 ·rw [h1,List.map_reverse,List.sum_reverse]
  exact g.pos r ne R
def zeros (names:List Str):List (Str×Int):=names.map fun x=>(x,0)
theorem Bk (names:List Str):(zeros names).map (·.1)=names:=by unfold zeros;rw [List.map_map];exact List.map_id _
theorem zeros_tF (names:List Str):tF (zeros names)=fun _=>0:=by
 funext x
 unfold tF
 cases e:lkG (zeros names) x with
 | none=>rfl
 | some v=>
  have:=yS e
  unfold zeros at this
  obtain⟨y,_,e2⟩:=List.mem_map.mp this
  cases e2
  rfl
def sp_times_or_ring (K:PySem.W.Frag):Sp:=fun vs H Q _=>∃(Ln L W:Addr) (names:List Str) (ra:List AA) (p q:Int),vs=[.ref Ln,.ref L,.ref W]∧H Ln=some (.lst (names.map V.str))∧names.Nodup∧1≤names.length∧names.length≤16∧ArcsR H L ra∧ra.length≤100∧H W=some (.tup [.int p,.int q])∧0≤q∧q≤1000000∧ArcsN names ra∧(∀H' T D tm,aQ H H'→H' T=some (.tup [.str "times",.ref D])→H D=none→H' D=some (.dK (kvG V.int tm))→tm.map (·.1)=names→(∀a∈ra,tF tm a.1.fr+cW p q a≤tF tm a.1.to)→(∀x,0≤tF tm x)→Q (.ref T) H')∧∀H' T Lr as,aQ H H'→H' T=some (.tup [.str "ring",.ref Lr])→H Lr=none→ArcsR H' Lr as→RingA p q names ra as→Q (.ref T) H'
theorem sc_times_or_ring:FnScope ["names", "arcs", "wish", "times", "name", "into", "grown", "count"] ["names", "arcs", "wish"] (aA fL):=⟨rfl,rfl,rfl,by decide +kernel,rfl,by decide +kernel,by decide +kernel⟩
theorem rO (T:Txt w K mg t):FnOk P w K mg base CX0 3 t.oA t.mq ["names", "arcs", "wish"] (sp_times_or_ring K):=by
 have sc:=sc_times_or_ring
 refine T.ou.ok sc (fun vs H Q E h=>?_) (fun cdv A outer s H vs Q E hr h=>?_)
 ·obtain⟨Ln,L,W,names,ra,p,q,rfl,_⟩:=h
  rfl
 ·obtain⟨Ln,L,W,names,ra,p,q,rfl,eLn,nd,n1,n16,A,hra,eW,q0,q1,AI,kT,kR⟩:=h
  refine⟨_,(aB (aX (i:=3) sc.nd rfl (Or.inl rfl) jC)
   (aB (gQ PassesOwn.never rfl (iQ (pv 0)) (dz (i:=4) sc.nd rfl (Or.inl rfl))
    (aC (jL hr.u1 (pv 3) (pv 4) az rfl)))
   (aB (aX (i:=5) sc.nd rfl (Or.inl rfl) jC)
   (aB (aX (i:=6) sc.nd rfl (Or.inl rfl) (bA aq))
   (aB (gQ PassesOwn.never rfl (kO rfl T.qw (aj (bL cj (by rfl) T.iw dX (aj (pv 0) aq ak)) aq aV)) (dz (i:=7) sc.nd rfl (Or.inl rfl))
    (aB (aX (i:=6) sc.nd rfl (Or.inl rfl) (aJ (ok_grow_times T) (hr.mono (by decide)) (by rfl) T.m_grow_times T.yF.kp T.b_grow_times .nil aO (aj (pv 3) (aj (pv 5) (aj (pv 1) (aj (pv 2) aq ak) ak) ak) ak)))
    (aC (cg (bz jd (bL cj (by rfl) T.iw dX (aj (pv 6) aq ak)) az (bU _))
     (aC (aZ (cV (aj bH (aj (pv 3) aq ak) ao))))
     bQ))))
   (aC (aZ (cV (aj bH (aj (aJ (ok_ring_into T) (hr.mono (by decide)) (by rfl) T.m_ring_into T.z9.kp T.b_ring_into .nil aO (aj (aW bN (pv 6) az (fun _ _=>rfl)) (aj (pv 5) aq ak) aK)) aq aV) ao))))))))),?_⟩
  have hz:sizeLine=16777216:=sizeLine_eq
  refine fun Dt nDt=>?_
  have sT:∀{kvs:List (Key×V)},aQ H (upd H Dt (.dK kvs)):=aD nDt
  refine⟨_,rfl,Ln,rfl,⟨_,SqL.of (sT _ _ eLn)⟩,?_⟩
  refine nH (K:=K) (a:=Ln) (xs:=names.map V.str) (fun j σ H'=>H'=upd H Dt (.dK (kvG V.int (zeros (names.take j))))∧∃v4,σ=[some (.ref Ln),some (.ref L),some (.ref W),some (.ref Dt),v4,none,none,none]) ⟨rfl,none,rfl⟩ (fun j σ H' _ ⟨e,_⟩=>by rw [e];exact SqL.of (sT _ _ eLn)) ?_ ?_
  ·rintro j x σ H' hx ⟨rfl,v4,rfl⟩
   rw [List.getElem?_map] at hx
   obtain⟨y,hy,rfl⟩:=Option.map_eq_some_iff.mp hx
   have nin:y∉(zeros (names.take j)).map (·.1):=by
    rw [Bk]
    have:=yo (f:=id) (xs:=names) (by rw [List.map_id];exact nd) hy
    rwa [List.map_id] at this
   refine⟨_,rfl,_,rfl,Dt,_,rfl,sG.k (k:=Sum.inr y) au (by rw [lO];unfold zeros;rw [List.length_map,List.length_take];omega),?_,_,rfl⟩
   rw [qG,qy,Bp _ nin,List.take_succ,hy,Option.toList_some]
   unfold zeros
   rw [List.map_append]
   rfl
  rintro σ H1 ⟨rfl,v4,rfl⟩
  rw [List.length_map,List.take_length]
  have s1:aQ H (upd H Dt (.dK (kvG V.int (zeros names)))):=sT
  have eT:upd H Dt (.dK (kvG V.int (zeros names))) Dt=some (.dK (kvG V.int (zeros names))):=au
  have c1:=off_new s1 nDt
  generalize upd H Dt (.dK (kvG V.int (zeros names)))=H1 at s1 eT c1 ⊢
  refine fun Di nDi=>?_
  have tI:=aD (o:=.dK []) nDi
  have eI:upd H1 Di (.dK []) Di=some (.dK (kvG aG ([]:List (Str×AA)))):=au
  have eT2:=tI _ _ eT
  have nDD:Dt≠Di:=aF eT nDi
  have nDi0:H Di=none:=s1.free nDi
  have cc:∀{H':Hp},aQ H H'→aQ H (bK [Dt,Di] H'):=fun s b o e=>fY (s _ _ e) (by
   simp only [List.mem_cons,List.not_mem_nil,or_false,not_or]
   exact⟨aF e nDt,aF e nDi0⟩)
  have s2:=s1.trans tI
  generalize upd H1 Di (.dK [])=H2 at tI eI eT2 s2 ⊢
  refine⟨by show 0≤sizeLine;exact szl,fun G nG0=>?_⟩
  have tG:=aD (o:=.lst []) nG0
  have eG:upd H2 G (.lst []) G=some (.lst (([]:List Str).map V.str)):=au
  have eT3:=tG _ _ eT2
  have eI3:=tG _ _ eI
  have s3:=s2.trans tG
  generalize upd H2 G (.lst [])=H3 at tG eG eT3 eI3 s3 ⊢
  refine⟨_,rfl,.ref Ln,names.length,rfl,.inl ⟨_,SqL.of (s3 _ _ eLn),by simp⟩,(names.length:Int),rfl,by omega,by omega,?_⟩
  rw [Int.toNat_natCast]
  refine ww (n:=names.length) (fun j σ H'=>∃(G:Addr) (gs:List Str) (tm:List (Str×Int)) (ik:List (Str×AA)) (R:Str→Nat),(∃v4 v7,σ=[some (.ref Ln),some (.ref L),some (.ref W),some (.ref Dt),v4,some (.ref Di),some (.ref G),v7])∧aQ H (bK [Dt,Di] H')∧H' Dt=some (.dK (kvG V.int tm))∧H' Di=some (.dK (kvG aG ik))∧H' G=some (.lst (gs.map V.str))∧tm.map (·.1)=names∧IntoOk ra ik∧Rd1 p q ra names (j+1) 0 tm ik R∧(1≤j→gs≠[]∧∀g∈gs,R g=j∧g∈names)∧∀x,0≤tF tm x) ⟨G,[],zeros names,[],fun _=>0,⟨_,_,rfl⟩,cc s3,eT3,eI3,eG,Bk _,⟨by simp,by simp⟩,?_,fun h=>absurd h (by omega),fun x=>by rw [zeros_tF];exact Int.le_refl _⟩ ?_ ?_
  ·have e1:fI ([]:List (Str×AA))=fun _=>none:=rfl
   have e2:wI p q ([]:List (Str×AA))=fun _=>0:=rfl
   unfold Rd1
   rw [zeros_tF,e1,e2]
   exact .start
  ·rintro j σ H' hj ⟨G,gs,tm,ik,R,⟨v4,v7,rfl⟩,s',eT,eI,eG,hk,IO,rd,hg,h0⟩
   have sH:=s'.trans fC
   refine⟨_,rfl,_,rfl,_,rfl,_,rfl,Dt,Di,L,W,p,q,names,ra,j+1,tm,ik,R,rfl,eT,eI,nDD,A.same sH,sH _ _ eW,q0,q1,hra,n16,AI,hk,IO,by omega,rd,fun H5 G5 gs5 tm5 ik5 R5 s5 eT5 eI5 eG5 nG5 hk5 IO5 rd5 hsat hR hup=>?_⟩
   have h05:∀x,0≤tF tm5 x:=fun x=>Int.le_trans (h0 x) (hup x)
   refine⟨_,rfl,.ref G5,gs5.length,rfl,.inl ⟨_,SqL.of eG5,by simp⟩,rfl,_,rfl,?_⟩
   have s6:aQ H (bK [Dt,Di] H5):=s'.trans s5
   cases gs5 with
   | nil=>
    refine xH rfl ⟨_,rfl,by show 2≤sizeLine;exact szl,fun T' nT=>?_⟩
    have tT:=aD (o:=.tup [.str "times",.ref Dt]) nT
    exact kT _ T' Dt tm5 (s6.trans (fC.trans tT)) au nDt (tT _ _ eT5) hk5 (hsat rfl) h05
   | cons g0 gr=>
    refine dG (by show ¬V.int (((gr.length+1:Nat):Int))=V.int 0;intro z;cases z) ?_
    exact⟨G5,g0:: gr,tm5,ik5,R5,⟨_,_,rfl⟩,s6,eT5,eI5,eG5,hk5,IO5,rd5.next,fun _=>⟨by simp,hR⟩,h05⟩
  rintro σ H' ⟨G,gs,tm,ik,R,⟨v4,v7,rfl⟩,s',eT,eI,eG,hk,IO,rd,hg,h0⟩
  obtain⟨hne,hR⟩:=hg n1
  cases gs with
  | nil=>exact absurd rfl hne
  | cons g0 gr=>
   obtain⟨r0,m0⟩:=hR g0 List.mem_cons_self
   have sH:=s'.trans fC
   have A':=A.same sH
   have lik:=IO.len
   refine⟨_,rfl,G,_,0,_,rfl,rfl,SqL.of eG,aN (j:=0) rfl,_,rfl,g0,Di,ik,rfl,eI,IO.nd,by omega,fun e he=>A'.at_ _ (IO.ok e he).1,fun H6 L6 r a seen s6 nL6 A6 g get hc=>⟨by show 2≤sizeLine;exact szl,fun T' nT=>?_⟩⟩
   have tT:=aD (o:=.tup [.str "ring",.ref L6]) nT
   have stop:a∈seen:=g.deep rd.src rd.dom m0 (by rw [r0];exact Nat.le_refl _) (hc.elim (fun h=>.inl h.1) fun h=>.inr h.2.1)
   rcases hc with ⟨_,Rr,rne⟩ | ⟨hn,_,_⟩
   ·exact kR _ T' L6 _ (sH.trans (s6.trans tT)) au (sH.free nL6) (A6.same tT) (ringA_of rd.good rd.dom IO get Rr rne)
   ·exact absurd stop hn
def okW (v w:V):Prop:=∃p q:Int,v=.int p∧w=.int q∧0 <p∧p≤q∧q≤1000
theorem ty_int {H:Hp} {v:V} (h:tyN K H v "int"):∃i,v=.int i:=by
 cases v with
 | int i=>exact⟨i,rfl⟩
 | ref p=>rcases(show _∨_ from h) with ⟨z,_⟩ | ⟨z,_⟩ | ⟨z,_⟩ <;> exact absurd z (by decide)
 | non=>exact absurd (show "int" = "NoneType" from h) (by decide)
 | bl b=>exact absurd (show "int" = "bool" from h) (by decide)
 | str x=>exact absurd (show "int" = "str" from h) (by decide)
 | _=>exact(show False from h).elim
theorem ty_notW {H:Hp} {v w:V} {Tv:String} (h:tyN K H v Tv) (hn:Tv≠ "int"):¬okW v w:=by
 rintro⟨p,q,rfl,_⟩
 exact hn h
theorem ty_notW2 {H:Hp} {v w:V} {Tv:String} (h:tyN K H w Tv) (hn:Tv≠ "int"):¬okW v w:=by
 rintro⟨p,q,_,rfl,_⟩
 exact hn h
def sp_need_wish (K:PySem.W.Frag) (t:Adr):Sp:=fun vs H Q E=>∃(v w:V) (Tv Tw:String),vs=[v,w]∧tyN K H v Tv∧Tv∈fD∧tyN K H w Tw∧Tw∈fD∧((okW v w∧Q .non H)∨(¬okW v w∧E (.ref t.bR) none H))
theorem sc_need_wish:FnScope ["top", "bottom"] ["top", "bottom"] (aA jX):=⟨rfl,rfl,rfl,by decide +kernel,rfl,by decide +kernel,by decide +kernel⟩
theorem ok_need_wish (T:Txt w K mg t):FnOk P w K mg base (CX2 P w) 2 t.vL t.um ["top", "bottom"] (sp_need_wish K t):=by
 have sc:=sc_need_wish
 refine T.zR.ok2 sc (fun vs H Q E h=>?_) (fun cdv A outer s H vs Q E hr h=>?_)
 ·obtain⟨v,w,Tv,Tw,rfl,_⟩:=h
  rfl
 ·obtain⟨v,w,Tv,Tw,rfl,hv,mv,hw,mw,h⟩:=h
  refine⟨_,(aC (cg (PW.pt (zV (lR (mj (aJ (qi T) (hr.mono (by decide)) (by rfl) T.tQ T.p8.kp T.tE .nil aO (aj (pv 0) aq ak)))) (zV (lR (mj (aJ (qi T) (hr.mono (by decide)) (by rfl) T.tQ T.p8.kp T.tE .nil aO (aj (pv 1) aq ak)))) (xX (lR (pt_chain3 wQ uG uG az (pv 0) (pv 1) (lW (by rfl) T.g_MOST_BOTTOM)))))))
    (aC (ps_raise2 T.xe_BadWord T.Bl (by rfl) (aj bH aq ao)))
    bQ)),?_⟩
  have bad:¬okW v w→E (.ref t.bR) none H:=fun n=>h.elim (fun z=>absurd z.1 n) fun z=>z.2
  have good:okW v w→Q .non H:=fun n=>h.elim (fun z=>z.2) fun z=>absurd n z.1
  by_cases ev:Tv= "int"
  case neg=>
   refine⟨_,rfl,v,Tv,false,rfl,hv,mv,decide_eq_false ev,false,rfl,lX ?_⟩
   exact⟨by show 1≤1000;decide,bad (ty_notW hv ev)⟩
  subst ev
  obtain⟨p,rfl⟩:=ty_int hv
  refine⟨_,rfl,.int p, "int",true,rfl,hv,mv,by decide,true,rfl,fX ?_⟩
  by_cases ew:Tw= "int"
  case neg=>
   refine⟨_,rfl,w,Tw,false,rfl,hw,mw,decide_eq_false ew,false,rfl,lX ?_⟩
   exact⟨by show 1≤1000;decide,bad (ty_notW2 hw ew)⟩
  subst ew
  obtain⟨q,rfl⟩:=ty_int hw
  refine⟨_,rfl,.int q, "int",true,rfl,hw,mw,by decide,true,rfl,fX ?_⟩
  refine⟨_,rfl,_,_,rfl,rfl,_,rfl,jM (fun h1=>⟨_,rfl,_,_,rfl,rfl,_,rfl,jM (fun h2=>⟨_,_,rfl,rfl,_,rfl,?_⟩) (fun h2=>⟨_,rfl,lX ?_⟩)⟩) (fun h1=>⟨_,rfl,lX ?_⟩)⟩
  ·by_cases h3:q≤1000
   ·rw [decide_eq_true h3]
    exact fX (good ⟨p,q,rfl,rfl,of_decide_eq_true h1,of_decide_eq_true h2,h3⟩)
   ·rw [decide_eq_false h3]
    refine lX ⟨by show 1≤1000;decide,bad ?_⟩
    rintro⟨p',q',e1,e2,a,b,c⟩
    cases e1;cases e2
    exact h3 c
  ·refine⟨by show 1≤1000;decide,bad ?_⟩
   rintro⟨p',q',e1,e2,a,b,c⟩
   cases e1;cases e2
   exact h2 (decide_eq_true b)
  ·refine⟨by show 1≤1000;decide,bad ?_⟩
   rintro⟨p',q',e1,e2,a,b,c⟩
   cases e1;cases e2
   exact h1 (decide_eq_true a)
def sp_enough_room (K:PySem.W.Frag):Sp:=fun vs H Q _=>∃(L d W:Addr) (N:List Str) (ra:List AA) (tm:List (Str×Int)) (p q:Int),vs=[.ref L,.ref d,.ref W]∧ArcsR H L ra∧ra.length≤100∧ArcsN N ra∧H d=some (.dK (kvG V.int tm))∧tm.map (·.1)=N∧H W=some (.tup [.int p,.int q])∧0 <q∧q≤1000000∧∀H' D m,aQ H H'→H D=none→H' D=some (.dK (kvG V.int m))→m.length≤100→(m.map (·.1)).Nodup→Q (.ref D) H'
theorem sc_enough_room:FnScope ["arcs", "times", "wish", "room", "arc", "grown"] ["arcs", "times", "wish"] (aA iH):=⟨rfl,rfl,rfl,by decide +kernel,rfl,by decide +kernel,by decide +kernel⟩
theorem ok_enough_room (T:Txt w K mg t):FnOk P w K mg base CX0 1 t.rF t.pM ["arcs", "times", "wish"] (sp_enough_room K):=by
 have sc:=sc_enough_room
 refine T.wN.ok sc (fun vs H Q E h=>?_) (fun cdv A outer s H vs Q E hr h=>?_)
 ·obtain⟨L,d,W,N,ra,tm,p,q,rfl,_⟩:=h
  rfl
 ·obtain⟨L,d,W,N,ra,tm,p,q,rfl,A,hra,AI,ed,hk,eW,q0,q1,k⟩:=h
  refine⟨_,(aB (aX (i:=3) sc.nd rfl (Or.inl rfl) jC)
   (aB (gQ PassesOwn.never rfl (iQ (pv 0)) (dz (i:=4) sc.nd rfl (Or.inl rfl))
    (aC (gf (cg (bz jd (aW bT (pv 4) az (fun _ _=>rfl)) bH (bU _))
     (aB (aX (i:=5) sc.nd rfl (Or.inl rfl) (bh tV (bh dN (dD hr.u1 (pv 1) (aW bT (pv 4) az (fun _ _=>rfl)) (fun _ _=>rfl)) (aW bT (pv 2) az (fun _ _=>rfl))) (dD hr.u1 (pv 1) (aW bT (pv 4) az (fun _ _=>rfl)) (fun _ _=>rfl))))
     (aC (jL hr.u1 (pv 3) (aW bT (pv 4) az (fun _ _=>rfl)) (bL (zb rfl) (by rfl) T.n_max bt_max (aj az (aj (bh tV (bh yq (bh tV (bh dN (pv 5) (aW bT (pv 2) az (fun _ _=>rfl))) az) (aW bT (pv 2) az (fun _ _=>rfl))) (aW bT (pv 4) az (fun _ _=>rfl))) aq bY) ao)) rfl)))
     bQ))))
   (aC (aZ (pv 3))))),?_⟩
  have hz:sizeLine=16777216:=sizeLine_eq
  refine fun D nD=>?_
  have tD:=aD (o:=.dK []) nD
  refine⟨_,rfl,L,rfl,⟨_,SqL.of (tD _ _ A.lst)⟩,?_⟩
  refine nH (K:=K) (a:=L) (xs:=ra.map fun q=>V.ref q.2) (fun j σ H'=>(∃v4 v5,σ=[some (.ref L),some (.ref d),some (.ref W),some (.ref D),v4,v5])∧∃m,H'=upd H D (.dK (kvG V.int m))∧m.length≤j∧(m.map (·.1)).Nodup) ⟨⟨_,_,rfl⟩,[],rfl,Nat.le_refl _,by simp⟩ (fun j σ H' _ ⟨_,m,e,_⟩=>by rw [e];exact SqL.of (aD nD _ _ A.lst)) ?_ ?_
  ·rintro j x σ H' hx ⟨⟨v4,v5,rfl⟩,m,rfl,hm,hnd⟩
   obtain⟨a,haj,rfl,ea0⟩:=A.get hx
   have ham:=List.mem_of_getElem? haj
   have hj:=(List.getElem?_eq_some_iff.mp haj).1
   have sN:=aD (o:=.dK (kvG V.int m)) nD
   have ea:=sN _ _ ea0
   have eW:=sN _ _ eW
   obtain⟨tf,htf⟩:=Option.isSome_iff_exists.mp (mW.mpr (by rw [hk];exact AI.fr a ham))
   obtain⟨tt,htt⟩:=Option.isSome_iff_exists.mp (mW.mpr (by rw [hk];exact AI.to a ham))
   have g1:=lK (sN _ _ ed) a.1.fr
   have g2:=lK (sN _ _ ed) a.1.to
   rw [htf] at g1
   rw [htt] at g2
   refine⟨fun σ2 H2=>(∃v4 v5,σ2=[some (.ref L),some (.ref d),some (.ref W),some (.ref D),v4,v5])∧∃m',H2=upd H D (.dK (kvG V.int m'))∧m'.length≤j+1∧(m'.map (·.1)).Nodup,?_,fun _ _ h=>h⟩
   refine⟨_,rfl,a.2,_,4,_,rfl,rfl,SqT.of ea,aN (j:=4) rfl,rfl,_,rfl,jM (fun h=>?_) (fun h=>⟨⟨_,_,rfl⟩,m,rfl,by omega,hnd⟩)⟩
   refine⟨_,rfl,_,rfl,a.2,_,0,_,rfl,rfl,SqT.of ea,aN (j:=0) rfl,d,_,rfl,g1,_,rfl,W,_,0,_,rfl,rfl,SqT.of eW,aN (j:=0) rfl,tf,p,rfl,rfl,_,rfl,_,rfl,a.2,_,1,_,rfl,rfl,SqT.of ea,aN (j:=1) rfl,d,_,rfl,g2,_,_,rfl,rfl,?_⟩
   refine⟨_,rfl,_,rfl,W,_,1,_,rfl,rfl,SqT.of eW,aN (j:=1) rfl,_,_,rfl,rfl,_,_,rfl,rfl,_,rfl,W,_,1,_,rfl,rfl,SqT.of eW,aN (j:=1) rfl,_,_,rfl,rfl,?_,_,rfl,a.2,_,2,_,rfl,rfl,SqT.of ea,aN (j:=2) rfl,_,_,rfl,rfl,_,_,rfl,?_⟩
   ·exact divOk q0 (Nat.lt_of_lt_of_le (by omega:q.natAbs <2 ^ 20) (Nat.pow_le_pow_right (by decide) (by decide)))
   refine⟨_,rfl,_,rfl,a.2,_,3,_,rfl,rfl,SqT.of ea,aN (j:=3) rfl,D,_,rfl,sG.k (k:=Sum.inr a.1.ln) au (by rw [lO];omega),⟨_,_,rfl⟩,fZ m a.1.ln _,by rw [qG,qy],?_,putG_nd hnd⟩
   exact Nat.le_trans (putG_len _ _ _) (by omega)
  rintro σ H' ⟨⟨v4,v5,rfl⟩,m,rfl,hm,hnd⟩
  rw [List.length_map] at hm
  exact⟨_,rfl,k _ D m (aD nD) nD au (by omega) hnd⟩
def uQ (m:List (Str×Int)) (a:Arc):Arc:=if a.wy= "against" then⟨a.fr,a.to,a.tk+(lkG m a.ln).getD 0,a.ln,a.wy⟩ else a
theorem roomA_fr (m:List (Str×Int)) (a:Arc):(uQ m a).fr=a.fr:=by unfold uQ;split <;> rfl
theorem roomA_to (m:List (Str×Int)) (a:Arc):(uQ m a).to=a.to:=by unfold uQ;split <;> rfl
def sp_arc_with_room (K:PySem.W.Frag):Sp:=fun vs H Q _=>∃(a:AA) (d:Addr) (m:List (Str×Int)),vs=[.ref a.2,.ref d]∧H a.2=some (.tup (arcV a.1))∧H d=some (.dK (kvG V.int m))∧∀H' b,aQ H H'→H' b=some (.tup (arcV (uQ m a.1)))→Q (.ref b) H'
theorem sc_arc_with_room:FnScope ["arc", "room"] ["arc", "room"] (aA fJ):=⟨rfl,rfl,rfl,by decide +kernel,rfl,by decide +kernel,by decide +kernel⟩
theorem ok_arc_with_room (T:Txt w K mg t):FnOk P w K mg base CX0 1 t.oH t.mH ["arc", "room"] (sp_arc_with_room K):=by
 have sc:=sc_arc_with_room
 refine T.ux.ok sc (fun vs H Q E h=>?_) (fun cdv A outer s H vs Q E hr h=>?_)
 ·obtain⟨a,d,m,rfl,_⟩:=h
  rfl
 ·obtain⟨a,d,m,rfl,ea,ed,k⟩:=h
  refine⟨_,(aB (cg (bz op_ne (aW bT (pv 0) az (fun _ _=>rfl)) bH (bU _))
    (aC (aZ (pv 0)))
    bQ)
   (aC (aZ (cV (aj (aW bT (pv 0) az (fun _ _=>rfl)) (aj (aW bT (pv 0) az (fun _ _=>rfl)) (aj (bh dN (aW bT (pv 0) az (fun _ _=>rfl)) (pe_dget2 hr.u1 (pv 1) (aW bT (pv 0) az (fun _ _=>rfl)) az ⟨rfl,rfl,rfl,rfl⟩)) (aj (aW bT (pv 0) az (fun _ _=>rfl)) (aj (aW bT (pv 0) az (fun _ _=>rfl)) aq aK) aK) bY) aK) aK))))),?_⟩
  have hz:sizeLine=16777216:=sizeLine_eq
  refine⟨_,rfl,a.2,_,4,_,rfl,rfl,SqT.of ea,aN (j:=4) rfl,rfl,_,rfl,jM (fun h=>?_) (fun h=>?_)⟩
  ·have hn:a.1.wy≠ "against" :=fun z=>by rw [z] at h;simp at h
   exact⟨_,rfl,k H a.2 (aQ.refl _) (by rw [uQ,if_neg hn];exact ea)⟩
  ·have hw:a.1.wy= "against" :=Classical.byContradiction fun z=>h (by simp [z])
   refine⟨_,rfl,a.2,_,0,_,rfl,rfl,SqT.of ea,aN (j:=0) rfl,_,rfl,a.2,_,1,_,rfl,rfl,SqT.of ea,aN (j:=1) rfl,_,rfl,a.2,_,2,_,rfl,rfl,SqT.of ea,aN (j:=2) rfl,_,rfl,d,rfl,.inl ⟨_,.inl ed⟩,_,rfl,a.2,_,3,_,rfl,rfl,SqT.of ea,aN (j:=3) rfl,_,lK ed a.1.ln,a.1.tk,(lkG m a.1.ln).getD 0,rfl,(by cases lkG m a.1.ln <;> rfl),_,rfl,a.2,_,3,_,rfl,rfl,SqT.of ea,aN (j:=3) rfl,_,rfl,a.2,_,4,_,rfl,rfl,SqT.of ea,aN (j:=4) rfl,by show 5≤sizeLine;exact szl,fun b nb=>?_⟩
   exact k _ b (aD nb) (by rw [uQ,if_pos hw];exact au)
def sp_ring_without_one (K:PySem.W.Frag):Sp:=fun vs H Q _=>∃(Ln L d W:Addr) (x:Str) (names:List Str) (ra:List AA) (m:List (Str×Int)) (p q:Int),vs=[.ref Ln,.ref L,.ref d,.str x,.ref W]∧H Ln=some (.lst (names.map V.str))∧names.Nodup∧1≤names.length∧names.length≤16∧ArcsR H L ra∧ra.length≤100∧H W=some (.tup [.int p,.int q])∧0≤q∧q≤1000000∧ArcsN names ra∧Rd H d (.dK (kvG V.int m))∧x∈m.map (·.1)∧m.length≤100∧∀H' R as,aQ H H'→ArcsR H' R as→Q (.ref R) H'
theorem sc_ring_without_one:FnScope ["names", "arcs", "room", "lane", "wish", "less", "told"] ["names", "arcs", "room", "lane", "wish"] (aA dj):=⟨rfl,rfl,rfl,by decide +kernel,rfl,by decide +kernel,by decide +kernel⟩
theorem oR (T:Txt w K mg t):FnOk P w K mg base CX0 4 t.jO t.jy ["names", "arcs", "room", "lane", "wish"] (sp_ring_without_one K):=by
 have sc:=sc_ring_without_one
 refine T.jU.ok sc (fun vs H Q E h=>?_) (fun cdv A outer s H vs Q E hr h=>?_)
 ·obtain⟨Ln,L,d,W,x,names,ra,m,p,q,rfl,_⟩:=h
  rfl
 ·obtain⟨Ln,L,d,W,x,names,ra,m,p,q,rfl,eLn,nd,n1,n16,A,hra,eW,q0,q1,AI,rd,hx,hm,k⟩:=h
  refine⟨_,(aB (aX (i:=5) sc.nd rfl (Or.inr rfl) (eZ yN (by rfl) T.n_dict bt_dict (aj (pv 2) aq ak)))
   (aB (ps_daug hr.u1 (pv 5) (pv 3) az iop_sub (fun _ _ _=>rfl))
   (aB (aX (i:=6) sc.nd rfl (Or.inl rfl) (aJ (rO T) (hr.mono (by decide)) (by rfl) T.uz T.ou.kp T.uy .nil aO (aj (pv 0) (aj (oY [5] ["names", "arcs", "room", "lane", "wish", "less", "told"] (aA dj) rfl (iQ (pv 1)) (fun _ _ _ _ _=>mL) (fun _ _ _ _ _=>(aJ (ok_arc_with_room T) (hr.mono (by decide)) (by rfl) T.m_arc_with_room T.ux.kp T.b_arc_with_room .nil aO (aj (pv 0) (aj (pv 1) aq ak) ak)))) (aj (pv 4) aq ak) fV) ak)))
   (aC (aZ (pe_ifExp (bz jd (aW bT (pv 6) az (fun _ _=>rfl)) bH (bU _)) (aW bT (pv 6) az (fun _ _=>rfl)) (bA aq))))))),?_⟩
  have hz:sizeLine=16777216:=sizeLine_eq
  refine⟨_,rfl,d,_,rfl,rd,fun D nD=>?_⟩
  have tD:=aD (o:=.dK (kvG V.int m)) nD
  obtain⟨v,hv⟩:=Option.isSome_iff_exists.mp (mW.mpr hx)
  have g:=lK (au (H:=H) (a:=D) (o:=.dK (kvG V.int m))) x
  rw [hv] at g
  refine⟨_,rfl,_,rfl,D,V.int v,rfl,g,v,1,rfl,rfl,_,sG.k (k:=Sum.inr x) au (by rw [lO];omega),?_⟩
  rw [qG,qy]
  have s1:=aD (o:=.dK (kvG V.int (fZ m x (v - 1)))) nD
  have e1:upd H D (.dK (kvG V.int (fZ m x (v - 1)))) D=some (.dK (kvG V.int (fZ m x (v - 1)))):=au
  generalize fZ m x (v - 1)=m1 at s1 e1 ⊢
  generalize upd H D (.dK (kvG V.int m1))=H1 at s1 e1 ⊢
  refine⟨_,rfl,_,rfl,L,rfl,⟨_,SqL.of (s1 _ _ A.lst)⟩,?_⟩
  refine rN (K:=K) (a:=L) (xs:=ra.map fun q=>V.ref q.2) (fun j zs H2=>aQ H1 H2∧∃rb:List AA,zs=rb.map (fun q=>V.ref q.2)∧rb.length=j∧(∀q∈rb,H2 q.2=some (.tup (arcV q.1)))∧rb.map (·.1)=((ra.take j).map (·.1)).map (uQ m1)) (by rw [List.length_map];omega) ⟨aQ.refl _,[],rfl,rfl,by simp,rfl⟩ (fun j zs H2 ⟨_,rb,e,e2,_⟩=>by rw [e,List.length_map];omega) (fun j zs H2 _ ⟨s2,_⟩=>SqL.of (s2 _ _ (s1 _ _ A.lst))) ?_ ?_
  ·rintro j y zs H2 hy ⟨s2,rb,rfl,hrb,ab,erb⟩
   obtain⟨a,haj,rfl,ea⟩:=A.get hy
   refine yes ⟨_,rfl,_,rfl,a,D,m1,rfl,s2 _ _ (s1 _ _ ea),s2 _ _ e1,fun H3 b s3 eb=>⟨s2.trans s3,rb ++ [(uQ m1 a.1,b)],by rw [List.map_append];rfl,by rw [List.length_append,List.length_singleton];omega,fun q hq=>?_,?_⟩⟩
   ·rcases List.mem_append.mp hq with h | h
    ·exact s3 _ _ (ab q h)
    ·rw [List.mem_singleton] at h;subst h;exact eb
   ·rw [List.map_append,erb,List.take_succ,haj,Option.toList_some,List.map_append,List.map_append]
    rfl
  rintro zs H2 ⟨s2,rb,rfl,hrb,ab,erb⟩ L2 nL2
  rw [List.length_map] at hrb erb
  rw [List.take_length] at erb
  have t2:=aD (o:=.lst (rb.map fun q=>V.ref q.2)) nL2
  have AB:ArcsR (upd H2 L2 (.lst (rb.map fun q=>V.ref q.2))) L2 rb:=⟨au,fun q hq=>t2 _ _ (ab q hq)⟩
  have sH:=s1.trans (s2.trans t2)
  generalize upd H2 L2 (.lst (rb.map fun q=>V.ref q.2))=H3 at t2 AB sH ⊢
  have key:∀b∈rb,∃a∈ra,b.1=uQ m1 a.1:=fun b hb=>by
   have:b.1∈(ra.map (·.1)).map (uQ m1):=by rw [←erb];exact List.mem_map.mpr ⟨b,hb,rfl⟩
   obtain⟨a',ha',e⟩:=List.mem_map.mp this
   obtain⟨a,ha,rfl⟩:=List.mem_map.mp ha'
   exact⟨a,ha,e.symm⟩
  have AN:ArcsN names rb:=⟨fun b hb=>by obtain⟨a,ha,e⟩:=key b hb;rw [e,roomA_fr];exact AI.fr a ha,fun b hb=>by obtain⟨a,ha,e⟩:=key b hb;rw [e,roomA_to];exact AI.to a ha⟩
  refine⟨_,rfl,Ln,L2,W,names,rb,p,q,rfl,sH _ _ eLn,nd,n1,n16,AB,by omega,sH _ _ eW,q0,q1,AN,fun H4 T' D' tm s4 eT _ _ _ _ _=>?_,fun H4 T' R as s4 eT nR AR RA=>?_⟩
  ·refine⟨_,rfl,T',_,0,_,rfl,rfl,SqT.of eT,aN (j:=0) rfl,rfl,_,rfl,?_⟩
   refine fX ⟨by show 0≤sizeLine;exact szl,fun u nu=>?_⟩
   exact k _ u [] (sH.trans (s4.trans (aD nu))) ⟨au,by simp⟩
  ·refine⟨_,rfl,T',_,0,_,rfl,rfl,SqT.of eT,aN (j:=0) rfl,rfl,_,rfl,?_⟩
   refine lX ⟨_,rfl,T',_,1,_,rfl,rfl,SqT.of eT,aN (j:=1) rfl,?_⟩
   exact k _ R as (sH.trans s4) AR
def sp_spared_room (K:PySem.W.Frag):Sp:=fun vs H Q _=>∃(Ln L d W:Addr) (names:List Str) (ra:List AA) (m:List (Str×Int)) (p q:Int),vs=[.ref Ln,.ref L,.ref d,.ref W]∧H Ln=some (.lst (names.map V.str))∧names.Nodup∧1≤names.length∧names.length≤16∧ArcsR H L ra∧ra.length≤100∧H W=some (.tup [.int p,.int q])∧0≤q∧q≤1000000∧ArcsN names ra∧H d=some (.dK (kvG V.int m))∧m.length≤100∧(m.map (·.1)).Nodup∧∀H' D m',aQ H H'→H D=none→H' D=some (.dK (kvG V.int m'))→m'.map (·.1)=m.map (·.1)→Q (.ref D) H'
theorem sc_spared_room:FnScope ["names", "arcs", "room", "wish", "left", "lane"] ["names", "arcs", "room", "wish"] (aA iG):=⟨rfl,rfl,rfl,by decide +kernel,rfl,by decide +kernel,by decide +kernel⟩
theorem ok_spared_room (T:Txt w K mg t):FnOk P w K mg base CX0 5 t.qW t.pX ["names", "arcs", "room", "wish"] (sp_spared_room K):=by
 have sc:=sc_spared_room
 refine T.wJ.ok sc (fun vs H Q E h=>?_) (fun cdv A outer s H vs Q E hr h=>?_)
 ·obtain⟨Ln,L,d,W,names,ra,m,p,q,rfl,_⟩:=h
  rfl
 ·obtain⟨Ln,L,d,W,names,ra,m,p,q,rfl,eLn,nd,n1,n16,A,hra,eW,q0,q1,AI,ed,hm,hnd,k⟩:=h
  refine⟨_,(aB (aX (i:=4) sc.nd rfl (Or.inl rfl) (eZ yN (by rfl) T.n_dict bt_dict (aj (pv 2) aq ak)))
   (aB (nG (H0:=H) rfl (gQ PassesOwn.never rfl (oW (pv 2)) (dz (i:=5) sc.nd rfl (Or.inl rfl))
    (aC (yc PassesOwn.never (PW.pt (xP (bz op_gt (dD hr.u1 (pv 4) (pv 5) (fun _ _=>rfl)) az (bU _)) (vZ (bz jd (bL cj (by rfl) T.iw dX (aj (aJ (oR T) (hr.mono (by decide)) (by rfl) T.pK T.jU.kp T.qe .nil aO (aj (pv 0) (aj (pv 1) (aj (pv 4) (aj (pv 5) (aj (pv 3) aq ak) ak) ak) ak) ak)) aq aV)) az (bU _)))))
     (aC (ps_daug hr.u1 (pv 4) (pv 5) az iop_sub (fun _ _ _=>rfl)))))))
   (aC (aZ (pv 4))))),?_⟩
  have hz:sizeLine=16777216:=sizeLine_eq
  refine⟨_,rfl,d,_,rfl,.inl ed,fun D nD=>?_⟩
  have tD:=aD (o:=.dK (kvG V.int m)) nD
  have eD:upd H D (.dK (kvG V.int m)) D=some (.dK (kvG V.int m)):=au
  have nDd:D≠d:=(aF ed nD).symm
  generalize upd H D (.dK (kvG V.int m))=H0 at tD eD ⊢
  have ed0:=tD _ _ ed
  have lens:∀{m2:List (Str×Int)},m2.map (·.1)=m.map (·.1)→m2.length≤100:=fun h=>by
   have:=congrArg List.length h
   rw [List.length_map,List.length_map] at this
   omega
  refine⟨_,rfl,d,_,rfl,ed0,fun o=>rG (fun j σ H'=>But d H H'∧H' d=some (.frz o (.dK (kvG V.int m)))∧(∃v5,σ=[some (.ref Ln),some (.ref L),some (.ref d),some (.ref W),some (.ref D),v5])∧∃m',H' D=some (.dK (kvG V.int m'))∧m'.map (·.1)=m.map (·.1)) ⟨fun b u hn e=>by rw [aH hn];exact tD _ _ e,au,⟨_,rfl⟩,m,by rw [aH nDd];exact eD,rfl⟩ (fun j σ H' _ h=>h.2.1) ?_ ?_⟩
  ·rintro j kk w σ H' hj ⟨hb,hg,⟨v5,rfl⟩,m',eD',hk⟩
   obtain⟨y,hy,rfl,rfl⟩:=kvG_at hj
   have hyk:y.1∈m.map (·.1):=List.mem_map.mpr ⟨y,List.mem_of_getElem? hy,rfl⟩
   refine⟨fun k' σ' H2=>But d H H2∧H2 d=some (.frz o (.dK (kvG V.int m)))∧σ'=[some (.ref Ln),some (.ref L),some (.ref d),some (.ref W),some (.ref D),some (.str y.1)]∧∃m2 v,H2 D=some (.dK (kvG V.int m2))∧m2.map (·.1)=m.map (·.1)∧lkG m2 y.1=some v∧v.toNat=k',?_,?_⟩
   ·obtain⟨v,hv⟩:=Option.isSome_iff_exists.mp (mW.mpr (show y.1∈m'.map (·.1) by rw [hk];exact hyk))
    exact⟨v.toNat,hb,hg,rfl,m',v,eD',hk,hv,rfl⟩
   ·rintro k' σ' H2 ⟨hb2,hg2,rfl,m2,v,eD2,hk2,hv,hvk⟩
    have g:=lK eD2 y.1
    rw [hv] at g
    refine⟨_,rfl,_,rfl,D,V.int v,rfl,g,v,0,rfl,rfl,_,rfl,jM (fun h1=>?_) (fun h1=>fX ⟨hb2,hg2,⟨_,rfl⟩,m2,eD2,hk2⟩)⟩
    have h1:0 <v:=of_decide_eq_true h1
    have low:∀{b:Addr} {u:HO},H b=some u→(∀ks,u≠.dK ks)→H2 b=some u:=fun e hu=>hb2 _ _ (fun z=>by rw [z,ed] at e;cases e;exact hu _ rfl) e
    have A2:ArcsR H2 L ra:=⟨low A.lst (by intro _ z;cases z),fun b hb=>low (A.at_ b hb) (by intro _ z;cases z)⟩
    refine⟨_,rfl,_,rfl,_,rfl,_,rfl,_,rfl,Ln,L,D,W,y.1,names,ra,m2,p,q,rfl,low eLn (by intro _ z;cases z),nd,n1,n16,A2,hra,low eW (by intro _ z;cases z),q0,q1,AI,.inl eD2,(by rw [hk2];exact hyk),lens hk2,fun H3 R as s3 AR=>?_⟩
    have hb3:But d H H3:=fun b u hn e=>s3 _ _ (hb2 b u hn e)
    have hg3:=s3 _ _ hg2
    have eD3:=s3 _ _ eD2
    refine⟨.ref R,as.length,rfl,.inl ⟨_,SqL.of AR.lst,by simp⟩,rfl,_,rfl,jM (fun _=>?_) (fun _=>⟨hb3,hg3,⟨_,rfl⟩,m2,eD3,hk2⟩)⟩
    refine⟨_,fun σ' H4 h=>⟨(v - 1).toNat,by omega,h⟩,?_⟩
    have g3:=lK eD3 y.1
    rw [hv] at g3
    refine⟨_,rfl,_,rfl,D,V.int v,rfl,g3,v,1,rfl,rfl,_,sG.k (k:=Sum.inr y.1) eD3 (by rw [lO];have:=lens hk2;omega),fun b u hn e=>?_,?_,rfl,fZ m2 y.1 (v - 1),v - 1,?_,?_,?_,rfl⟩
    ·rw [aH (aF e nD)]
     exact hb3 b u hn e
    ·rw [aH nDd.symm]
     exact hg3
    ·rw [au,qy]
    ·rw [zr (by rw [hk2];exact hyk)]
     exact hk2
    ·rw [Ae,if_pos rfl]
  rintro σ H' ⟨hb,hg,⟨v5,rfl⟩,m',eD',hk⟩
  refine⟨_,⟨d,o,_,hg,(fun o' u' z=>by rw [show H d=_ from ed] at z;cases z),rfl⟩,?_⟩
  refine⟨_,rfl,k _ D m' (fun b u e=>?_) nD (by rw [aH nDd];exact eD') hk⟩
  by_cases h:b=d
  ·subst h
   rw [au]
   rw [ed] at e
   exact e
  ·rw [aH h]
   exact hb b u h e
theorem arcsIn_of {ls:List LaneD} {ps:List PD} {ra:List AA} (F:Fit ls ps) (era:ra.map (·.1)=zK ls ps):ArcsIn (ps.map (·.name)) ra:=by
 have ono:(ps.flatMap (·.outs)).Nodup:=F.whole.outs.nodup_iff.mpr F.whole.nod
 have ini:(ps.flatMap (·.ins)).Nodup:=F.whole.ins.nodup_iff.mpr F.whole.nod
 have eo:∀l∈ls,endF (·.outs) ps l.name∈ps.map (·.name):=fun l hl=>by
  obtain⟨p,hp,lp⟩:=List.mem_flatMap.mp (F.whole.outs.mem_iff.mpr (List.mem_map.mpr ⟨l,hl,rfl⟩))
  rw [Af ono hp lp]
  exact List.mem_map.mpr ⟨p,hp,rfl⟩
 have ei:∀l∈ls,endF (·.ins) ps l.name∈ps.map (·.name):=fun l hl=>by
  obtain⟨p,hp,lp⟩:=List.mem_flatMap.mp (F.whole.ins.mem_iff.mpr (List.mem_map.mpr ⟨l,hl,rfl⟩))
  rw [Af ini hp lp]
  exact List.mem_map.mpr ⟨p,hp,rfl⟩
 have key:∀a∈ra,a.1.fr∈ps.map (·.name)∧a.1.to∈ps.map (·.name)∧0≤a.1.tk∧a.1.tk≤1000000:=fun a ha=>by
  have h1:a.1∈zK ls ps:=by rw [←era];exact List.mem_map.mpr ⟨a,ha,rfl⟩
  unfold zK at h1
  rcases List.mem_append.mp h1 with h | h
  ·obtain⟨l,hl,h⟩:=List.mem_flatMap.mp h
   obtain⟨r1,r2,r3,_⟩:=F.lok l hl
   unfold arcs2 at h
   simp only [List.mem_cons,List.not_mem_nil,or_false] at h
   rcases h with h | h <;> rw [h]
   ·exact⟨eo l hl,ei l hl,by show(0:Int)≤(l.first.length:Nat);omega,by show((l.first.length:Nat):Int)≤_;omega⟩
   ·exact⟨ei l hl,eo l hl,by show(0:Int)≤l.room - (l.first.length:Nat);omega,by show l.room - ((l.first.length:Nat):Int)≤_;omega⟩
  ·obtain⟨p,hp,h⟩:=List.mem_map.mp h
   rw [←h]
   exact⟨List.mem_map.mpr ⟨p,hp,rfl⟩,List.mem_map.mpr ⟨p,hp,rfl⟩,by show(0:Int)≤1;decide,by show(1:Int)≤1000000;decide⟩
 exact⟨⟨fun a ha=>(key a ha).1,fun a ha=>(key a ha).2.1⟩,fun a ha=>(key a ha).2.2.1,fun a ha=>(key a ha).2.2.2⟩
def sp_plan (K:PySem.W.Frag) (t:Adr):Sp:=fun vs H Q E=>∃(n:Addr) (v w:V) (Tv Tw:String) (ls:List LaneD) (ps:List PD),vs=[.ref n,v,w]∧qg K t H n ls ps∧tyN K H v Tv∧Tv∈fD∧tyN K H w Tw∧Tw∈fD∧((¬okW v w∧E (.ref t.bR) none H)∨okW v w∧((rE ps=.non∧(∀H' u,aQ H H'→Q u H')∧∀dx L H',aQ H H'→H' dx=some (.xd [("ring",.ref L)])→E (.ref t.bO) (some dx) H')∨∃x,rE ps=.str x∧∀dx H',aQ H H'→H' dx=some (.xd [("name",.str x)])→E (.ref t.bG) (some dx) H'))
theorem sc_plan:FnScope ["net", "top", "bottom", "wish", "arcs", "names", "told", "room", "more", "lane"] ["net", "top", "bottom"] (aA vG):=⟨rfl,rfl,rfl,by decide +kernel,rfl,by decide +kernel,by decide +kernel⟩
theorem ok_plan (T:Txt w K mg t):FnOk P w K mg base (CX2 P w) 7 t.f_plan t.fd_plan ["net", "top", "bottom"] (sp_plan K t):=by
 have sc:=sc_plan
 refine T.F_plan.ok2 sc (fun vs H Q E h=>?_) (fun cdv A outer s H vs Q E hr h=>?_)
 ·obtain⟨n,v,w,Tv,Tw,ls,ps,rfl,_⟩:=h
  rfl
 ·obtain⟨n,v,w,Tv,Tw,ls,ps,rfl,N,hv,mv,hw,mw,h⟩:=h
  refine⟨_,(aB (bF (aJ (ok_need_wish T) (hr.mono (by decide)) (by rfl) T.m_need_wish T.zR.kp T.b_need_wish .nil (pass2 fun _ _ _ h=>h) (aj (pv 1) (aj (pv 2) aq ak) ak)))
   (aB (aX (i:=3) sc.nd rfl (Or.inr rfl) (cV (aj (pv 1) (aj (pv 2) aq ak) ak)))
   (aB (aX (i:=4) sc.nd rfl (Or.inr rfl) (aJ (ok_arcs_of T) (hr.mono (by decide)) (by rfl) T.m_arcs_of T.F_arcs_of.kp T.b_arcs_of .nil (pass2 fun _ _ _ h=>h) (aj (pv 0) aq ak)))
   (aB (aX (i:=5) sc.nd rfl (Or.inr rfl) (lw (pv 0) T.cB T.qJ (ql T) (hr.mono (by decide)) T.rP .nil aO))
   (aB (aX (i:=6) sc.nd rfl (Or.inl rfl) (aJ (rO T) (hr.mono (by decide)) (by rfl) T.uz T.ou.kp T.uy .nil aO (aj (pv 5) (aj (oY [] ["net", "top", "bottom", "wish", "arcs", "names", "told", "room", "more", "lane"] (aA vG) rfl (iQ (pv 4)) (fun _ _ _ _ _=>(pf_one (bz op_ne (aW (ix_tupK (K:=K) rfl) (pv 0) az (fun _ _=>rfl)) bH (bU _)))) (fun _ _ _ _ _=>(pv 0))) (aj (pv 3) aq ak) fV) ak)))
   (aB (cg (bz jd (aW bT (pv 6) az (fun _ _=>rfl)) bH (bU _))
    (aC (zq T.X_TooFast (ok_TooFast___init__ T) (hr.mono (by decide)) (by rfl) T.Ba T.b_TooFast___init__ aO (aj (aW bT (pv 6) az (fun _ _=>rfl)) aq aK)))
    bQ)
   (aB (aX (i:=7) sc.nd rfl (Or.inl rfl) (aJ (ok_spared_room T) (hr.mono (by decide)) (by rfl) T.m_spared_room T.wJ.kp T.b_spared_room .nil aO (aj (pv 5) (aj (pv 4) (aj (aJ (ok_enough_room T) (hr.mono (by decide)) (by rfl) T.m_enough_room T.wN.kp T.b_enough_room .nil aO (aj (pv 4) (aj (aW bT (pv 6) az (fun _ _=>rfl)) (aj (pv 3) aq ak) aK) ak)) (aj (pv 3) aq ak) aV) ak) ak)))
   (aB (aX (i:=8) sc.nd rfl (Or.inr rfl) jC)
   (aB (nG (H0:=H) rfl (gQ PassesOwn.leaving rfl (oW (pv 7)) (dz (i:=9) sc.nd rfl (Or.inl rfl))
    (aC (gf (cg (bz op_gt (dD hr.u1 (pv 7) (pv 9) (fun _ _=>rfl)) az (bU _))
     (aC (jL hr.u1 (pv 8) (pv 9) (dD hr.u1 (pv 7) (pv 9) (fun _ _=>rfl)) rfl))
     bQ)))))
   (aC (aZ (cV (aj (pv 8) (aj (pe_melt (H0:=H) rfl (oY [3,4,5,8] ["net", "top", "bottom", "wish", "arcs", "names", "told", "room", "more", "lane"] (aA vG) rfl (oW (pv 8)) (fun _ _ _ _ _=>mL) (fun _ _ _ _ _=>(cV (aj (pv 0) (aj (aJ (oR T) (hr.mono (by decide)) (by rfl) T.pK T.jU.kp T.qe .nil aO (aj (pv 3) (aj (pv 2) (aj (pv 4) (aj (pv 0) (aj (pv 1) aq ak) ak) ak) ak) ak)) aq aV) ak))))) aq fV) ak))))))))))))),?_⟩
  obtain⟨dx,fs,R,F,Pd,G,Tk,FL,PL,W⟩:=id N
  have hz:sizeLine=16777216:=sizeLine_eq
  refine hide fun u hu=>?_
  rcases h with ⟨hb,kE⟩ | ⟨ok,h⟩
  ·exact⟨_,rfl,_,rfl,v,w,Tv,Tw,rfl,hv,mv,hw,mw,.inr ⟨hb,kE⟩⟩
  refine⟨_,rfl,_,rfl,v,w,Tv,Tw,rfl,hv,mv,hw,mw,.inl ⟨ok,?_⟩⟩
  obtain⟨p,q,rfl,rfl,p0,pq,q1⟩:=ok
  refine bJ (v:=u) hu fun u hu=>?_
  refine⟨_,rfl,_,rfl,by show 2≤sizeLine;exact szl,fun W' nW=>?_⟩
  have tW:=aD (o:=.tup [.int p,.int q]) nW
  have eW:upd H W' (.tup [.int p,.int q]) W'=some (.tup [.int p,.int q]):=au
  have NW:=W.same tW
  generalize upd H W' (.tup [.int p,.int q])=H0 at tW eW NW ⊢
  refine bJ (v:=u) hu fun u hu=>?_
  rcases h with ⟨ho,kQ,kE⟩ | ⟨x,ho,kE⟩
  rotate_left
  ·exact⟨_,rfl,n,ls,ps,rfl,NW.s,.inr ⟨x,ho,fun dx H' s' e=>kE dx H' (tW.trans s') e⟩⟩
  refine⟨_,rfl,n,ls,ps,rfl,NW.s,.inl ⟨ho,fun H1 L ra s1 nL A era=>?_⟩⟩
  have p16:=W.fit.p16
  have p1:=W.fit.p1
  have hra:ra.length≤100:=by
   have:=congrArg List.length era
   rw [List.length_map] at this
   rw [this]
   exact Nat.le_trans (arcsOf_len _ _ W.fit.l24 p16) (by decide)
  have AI:=(arcsIn_of W.fit era).toArcsN
  have en:ps.map (fun x=>V.str x.name)=(ps.map (·.name)).map V.str:=by rw [List.map_map];rfl
  obtain⟨ns,hns⟩:∃ns,ps.map (·.name)=ns:=⟨_,rfl⟩
  have n16:ns.length≤16:=by rw [←hns,List.length_map];exact p16
  have n1:1≤ns.length:=by rw [←hns,List.length_map];exact p1
  have nnd:ns.Nodup:=by rw [←hns];exact W.fit.pnd
  rw [hns] at AI en
  have W1:=NW.same s1
  refine bJ (v:=u) hu fun u hu=>?_
  refine⟨_,rfl,n,dx,fs,rfl,W1.obj,W1.fl.no _ (by decide +kernel),n,ls,ps,rfl,W1.s,fun Ln nLn=>?_⟩
  rw [en]
  have tn:=aD (o:=.lst (ns.map V.str)) nLn
  have A1:=A.same tn
  have eLn:upd H1 Ln (.lst (ns.map V.str)) Ln=some (.lst (ns.map V.str)):=au
  have s2:=tW.trans (s1.trans tn)
  have eW:=(s1.trans tn) _ _ eW
  generalize upd H1 Ln (.lst (ns.map V.str))=Hn at tn A1 eLn s2 eW ⊢
  refine bJ (v:=u) hu fun u hu=>?_
  refine⟨_,rfl,_,rfl,L,rfl,⟨_,SqL.of A1.lst⟩,?_⟩
  refine rN (K:=K) (a:=L) (xs:=ra.map fun q=>V.ref q.2) (fun j zs H2=>H2=Hn∧zs=((ra.take j).filter fun a=>!decide (a.1.wy=("against" :Str))).map fun q=>V.ref q.2) (by rw [List.length_map];omega) ⟨rfl,rfl⟩ (fun j zs H2 ⟨_,e⟩=>by rw [e,List.length_map];exact Nat.le_trans (List.length_filter_le _ _) (by rw [List.length_take];omega)) (fun j zs H2 _ ⟨e,_⟩=>by rw [e];exact SqL.of A1.lst) ?_ ?_
  ·rintro j y zs H2 hy ⟨rfl,rfl⟩
   obtain⟨a,haj,rfl,ea⟩:=A1.get hy
   rw [List.take_succ,haj,Option.toList_some,List.filter_append]
   refine⟨_,rfl,a.2,_,4,_,rfl,rfl,SqT.of ea,aN (j:=4) rfl,rfl,_,rfl,jM (fun h=>?_) (fun h=>?_)⟩
   ·have hm:¬a.1.wy=("against" :Str):=fun z=>by rw [z] at h;simp at h
    rw [f1T (p:=fun a:AA=>!decide (a.1.wy=("against" :Str))) (by simp [hm]),List.map_append]
    exact⟨_,rfl,rfl,rfl⟩
   ·have hm:a.1.wy=("against" :Str):=Classical.byContradiction fun z=>h (by simp [z])
    rw [f1F (p:=fun a:AA=>!decide (a.1.wy=("against" :Str))) (by simp [hm]),List.append_nil]
    exact⟨rfl,rfl⟩
  rintro zs H2 ⟨rfl,rfl⟩ Lf nLf
  rw [List.length_map,List.take_length]
  obtain⟨rf,hrf⟩:∃rf,(ra.filter fun a=>!decide (a.1.wy=("against" :Str)))=rf:=⟨_,rfl⟩
  rw [hrf]
  have mf:∀a∈rf,a∈ra:=fun a h=>by rw [←hrf] at h;exact(List.mem_filter.mp h).1
  have lf:rf.length≤100:=by rw [←hrf];exact Nat.le_trans (List.length_filter_le _ _) hra
  have tf:=aD (o:=.lst (rf.map fun q=>V.ref q.2)) nLf
  have AF:ArcsR (upd H2 Lf (.lst (rf.map fun q=>V.ref q.2))) Lf rf:=⟨au,fun a h=>tf _ _ (A1.at_ a (mf a h))⟩
  have A2:=A1.same tf
  have eLn:=tf _ _ eLn
  have eW:=tf _ _ eW
  have s3:=s2.trans tf
  generalize upd H2 Lf (.lst (rf.map fun q=>V.ref q.2))=H3 at tf AF A2 eLn eW s3 ⊢
  refine⟨_,rfl,Ln,Lf,W',ns,rf,p,q,rfl,eLn,nnd,n1,n16,AF,lf,eW,by omega,by omega,⟨fun a h=>AI.fr a (mf a h),fun a h=>AI.to a (mf a h)⟩,fun H4 Td D tm s4 eT nD eD hk hsat h0=>?_,fun H4 Td Lr as s4 eT nLr AR RA=>?_⟩
  rotate_left
  ·subst hu
   refine⟨_,rfl,Td,_,0,_,rfl,rfl,SqT.of eT,aN (j:=0) rfl,rfl,_,rfl,lX ?_⟩
   refine⟨_,rfl,Td,_,1,_,rfl,rfl,SqT.of eT,aN (j:=1) rfl,by show 1≤1000;decide,fun y ny n0=>⟨y,Lr,as,rfl,au,AR.same (aD ny),Nat.le_trans RA.len (by omega),fun H5 dx' L2 s5 nd ne A5 neL=>⟨rfl,y,dx',rfl,n0,by rw [aH ne.symm];exact au,?_⟩⟩⟩
   exact kE dx' L2 _ (fun b o e=>by
    have e4:=s4 _ _ (s3 _ _ e)
    have e5:=s5 _ _ (aD ny _ _ e4)
    rw [wY (aF e4 ny),aH (aF e5 nd),aH (aF e4 ny)]
    exact e5) (by rw [wY ne];exact au)
  refine bJ (v:=u) hu fun u hu=>?_
  refine⟨_,rfl,Td,_,0,_,rfl,rfl,SqT.of eT,aN (j:=0) rfl,rfl,_,rfl,fX ?_⟩
  have A4:=A2.same s4
  have eLn:=s4 _ _ eLn
  have eW:=s4 _ _ eW
  have s4':=s3.trans s4
  refine bJ (v:=u) hu fun u hu=>?_
  refine⟨_,rfl,_,rfl,_,rfl,_,rfl,Td,_,1,_,rfl,rfl,SqT.of eT,aN (j:=1) rfl,_,rfl,L,D,W',ns,ra,tm,p,q,rfl,A4,hra,AI,eD,hk,eW,by omega,by omega,fun H5 Dr m s5 nDr eDr lm nm=>?_⟩
  refine⟨_,rfl,Ln,L,Dr,W',ns,ra,m,p,q,rfl,s5 _ _ eLn,nnd,n1,n16,A4.same s5,hra,s5 _ _ eW,by omega,by omega,AI,eDr,lm,nm,fun H6 D6 m' s6 nD6 eD6 hk6=>?_⟩
  have A6:=A4.same (s5.trans s6)
  have eLn:=(s5.trans s6) _ _ eLn
  have eW:=(s5.trans s6) _ _ eW
  have sH6:=s4'.trans (s5.trans s6)
  have lm':m'.length≤100:=by
   have:=congrArg List.length hk6
   rw [List.length_map,List.length_map] at this
   omega
  refine bJ (v:=u) hu fun u hu=>?_
  refine fun M nM=>?_
  have tM:=aD (o:=.dK []) nM
  have eM:upd H6 M (.dK []) M=some (.dK (kvG V.int ([]:List (Str×Int)))):=au
  have nMD:M≠D6:=(aF eD6 nM).symm
  generalize upd H6 M (.dK [])=H7 at tM eM ⊢
  have nHM:H M=none:=sH6.free nM
  have nHD6:H D6=none:=(s4'.trans s5).free nD6
  refine bJ (v:=u) hu fun u hu=>?_
  refine⟨_,rfl,D6,_,rfl,tM _ _ eD6,fun o=>rG (fun j σ H'=>But D6 H6 H'∧H' D6=some (.frz o (.dK (kvG V.int m')))∧(∃v9,σ=[some (.ref n),some (.int p),some (.int q),some (.ref W'),some (.ref L),some (.ref Ln),some (.ref Td),some (.ref D6),some (.ref M),v9])∧∃mm,H' M=some (.dK (kvG V.int mm))∧mm.length≤j) ⟨fun b u hn e=>by rw [aH hn];exact tM _ _ e,au,⟨_,rfl⟩,[],by rw [aH nMD];exact eM,Nat.le_refl _⟩ (fun j σ H' _ h=>h.2.1) ?_ ?_⟩
  ·rintro j kk w2 σ H' hj ⟨hb,hg,⟨v9,rfl⟩,mm,eM',lmm⟩
   obtain⟨y,hy,rfl,rfl⟩:=kvG_at hj
   have hjl:j <m'.length:=(List.getElem?_eq_some_iff.mp hy).1
   have hyk:y.1∈m'.map (·.1):=List.mem_map.mpr ⟨y,List.mem_of_getElem? hy,rfl⟩
   obtain⟨v1,hv1⟩:=Option.isSome_iff_exists.mp (mW.mpr hyk)
   have g:=kvG_getF hg y.1
   rw [hv1] at g
   refine⟨fun σ2 H2=>But D6 H6 H2∧H2 D6=some (.frz o (.dK (kvG V.int m')))∧(∃v9,σ2=[some (.ref n),some (.int p),some (.int q),some (.ref W'),some (.ref L),some (.ref Ln),some (.ref Td),some (.ref D6),some (.ref M),v9])∧∃mm,H2 M=some (.dK (kvG V.int mm))∧mm.length≤j+1,?_,fun _ _ h=>h⟩
   refine⟨_,rfl,_,rfl,D6,V.int v1,rfl,g,v1,0,rfl,rfl,_,rfl,jM (fun _=>?_) (fun _=>⟨hb,hg,⟨_,rfl⟩,mm,eM',by omega⟩)⟩
   refine⟨_,rfl,_,rfl,D6,V.int v1,rfl,g,_,rfl,_,rfl,M,_,rfl,sG.k (k:=Sum.inr y.1) eM' (by rw [lO];omega),fun b u hn e=>?_,?_,⟨_,rfl⟩,fZ mm y.1 v1,?_,Nat.le_trans (putG_len _ _ _) (by omega)⟩
   ·rw [aH (aF e nM)]
    exact hb b u hn e
   ·rw [aH nMD.symm]
    exact hg
   ·rw [au,qy]
  rintro σ H' ⟨hb,hg,⟨v9,rfl⟩,mm,eM',lmm⟩
  rw [lO] at lmm
  refine⟨_,⟨D6,o,_,hg,(fun o' u' z=>by rw [nHD6] at z;cases z),rfl⟩,?_⟩
  have s8:aQ H6 (upd H' D6 (.dK (kvG V.int m'))):=fun b u e=>by
   by_cases h:b=D6
   ·subst h
    rw [au]
    rw [eD6] at e
    exact e
   ·rw [aH h]
    exact hb b u h e
  have eM8:upd H' D6 (.dK (kvG V.int m')) M=some (.dK (kvG V.int mm)):=by rw [aH nMD];exact eM'
  generalize upd H' D6 (.dK (kvG V.int m'))=H8 at s8 eM8 ⊢
  subst hu
  refine⟨_,rfl,_,rfl,M,_,rfl,eM8,fun o2=>?_⟩
  refine zE (fun j ys H'=>aQ (upd H8 M (.frz o2 (.dK (kvG V.int mm)))) H'∧ys.length≤j) (by rw [lO];omega) ⟨aQ.refl _,Nat.le_refl _⟩ ?_ ?_ ?_ ?_
  ·rintro j ys H' ⟨_,h⟩
   exact h
  ·rintro j ys H' _ h
   exact h.1 _ _ au
  ·rintro j kk v2 ys H' hj ⟨hs,hyl⟩
   obtain⟨y,hy,rfl,rfl⟩:=kvG_at hj
   have hyk:y.1∈mm.map (·.1):=List.mem_map.mpr ⟨y,List.mem_of_getElem? hy,rfl⟩
   have hg:=hs _ _ au
   have low:∀{b:Addr} {u:HO},H6 b=some u→H' b=some u:=fun e=>hs _ _ (by rw [aH (aF e nM)];exact s8 _ _ e)
   refine yes ⟨_,rfl,_,rfl,_,rfl,_,rfl,_,rfl,_,rfl,Ln,L,M,W',y.1,ns,ra,mm,p,q,rfl,low eLn,nnd,n1,n16,⟨low A6.lst,fun a h=>low (A6.at_ a h)⟩,hra,low eW,by omega,by omega,AI,.inr ⟨o2,hg⟩,hyk,by omega,fun H'' R as s'' _=>⟨by show 2≤sizeLine;exact szl,fun u nu=>⟨hs.trans (s''.trans (aD nu)),by rw [List.length_append,List.length_singleton];omega⟩⟩⟩
  ·rintro ys H' ⟨hs,hyl⟩ D2 nD2
   have hg:=hs _ _ au
   refine⟨_,⟨M,o2,kvG V.int mm,?_,?_,rfl⟩,?_⟩
   ·rw [aH (aF hg nD2)]
    exact hg
   ·intro o' u' z
    rw [nHM] at z
    cases z
   ·refine⟨by show 2≤sizeLine;exact szl,fun T' nT=>kQ _ _ fun b u e=>?_⟩
    have bM:=aF e nHM
    have e':H' b=some u:=hs _ _ (by rw [aH bM];exact s8 _ _ (sH6 _ _ e))
    have e2:upd (upd H' D2 (.lst ys)) M (.dK (kvG V.int mm)) b=some u:=by rw [aH bM,aH (aF e' nD2)];exact e'
    rw [aH (aF e2 nT)]
    exact e2
def Aj (v w:V) (ps:List PD) (bs:List Bool):Prop:=(¬okW v w∧bs=[true,false,false])∨okW v w∧((rE ps=.non∧(bs=[]∨bs=[false,false,true]))∨((∃x,rE ps=.str x)∧bs=[false,true,false]))
theorem yg {H H':Hp} {v:V} {Tv:String} (s:aQ H H') (h:tyN K H v Tv):tyN K H' v Tv:=by
 cases v with
 | ref p=>
  rcases(show _∨_ from h) with ⟨z,xs,h⟩ | ⟨z,xs,h⟩ | ⟨z,kvs,h⟩
  ·exact .inl ⟨z,xs,s.seq h⟩
  ·exact .inr (.inl ⟨z,xs,s.seqT h⟩)
  ·exact .inr (.inr ⟨z,kvs,s _ _ h⟩)
 | _=>exact h
theorem okW_em (v w:V):okW v w∨¬okW v w:=Classical.em _
def sp__law_kinds (K:PySem.W.Frag) (t:Adr):Sp:=fun vs H Q _=>∃(n:Addr) (v w:V) (Tv Tw:String) (ls:List LaneD) (ps:List PD),vs=[.ref n,v,w]∧qg K t H n ls ps∧tyN K H v Tv∧Tv∈fD∧tyN K H w Tw∧Tw∈fD∧(rE ps=.non∨∃x,rE ps=.str x)∧∀H' L bs,aQ H H'→H' L=some (.lst (bs.map V.bl))→Aj v w ps bs→Q (.ref L) H'
theorem sc__law_kinds:FnScope ["_law_net_one", "_law_top", "_law_bottom", "_law_kinds_here", "e"] ["_law_net_one", "_law_top", "_law_bottom"] (aA jx):=⟨rfl,rfl,rfl,by decide +kernel,rfl,by decide +kernel,by decide +kernel⟩
theorem wV (T:Txt w K mg t):FnOk P w K mg base CX0 8 t.uc t.qN ["_law_net_one", "_law_top", "_law_bottom"] (sp__law_kinds K t):=by
 have sc:=sc__law_kinds
 refine T.rY.ok sc (fun vs H Q E h=>?_) (fun cdv A outer s H vs Q E hr h=>?_)
 ·obtain⟨n,v,w,Tv,Tw,ls,ps,rfl,_⟩:=h
  rfl
 ·obtain⟨n,v,w,Tv,Tw,ls,ps,rfl,N,hv,mv,hw,mw,ho,k⟩:=h
  refine⟨_,(aB (aX (i:=3) sc.nd rfl (Or.inl rfl) (bA aq))
   (aB (gf (ps_try2 rfl rfl rfl (fun _ _ _ hx=>(aC (bF (pe_callR (ok_plan T) (hr.mono (by decide)) (by rfl) T.m_plan T.F_plan.kp T.b_plan hx (aj (pv 0) (aj (pv 1) (aj (pv 2) aq ak) ak) ak)))))
    (ph_u (K:=K) (i:=4) rfl sc.nd rfl rfl (by rfl) T.oX T.xa_LaneError (fun _=>(aC (aX (i:=3) sc.nd rfl (Or.inl rfl) (bA (aj (bL (zm (K:=K) rfl) (by rfl) T.jt iz (aj (pv 4) (aj (wB (v:=.ref _) (by rfl) T.Bl rfl) aq ak) ak)) (aj (bL (zm (K:=K) rfl) (by rfl) T.jt iz (aj (pv 4) (aj (wB (v:=.ref _) (by rfl) T.xn rfl) aq ak) ak)) (aj (bL (zm (K:=K) rfl) (by rfl) T.jt iz (aj (pv 4) (aj (wB (v:=.ref _) (by rfl) T.Ba rfl) aq ak) ak)) aq aV) aV) aV))))))))
   (aC (aZ (pv 3))))),?_⟩
  have hz:sizeLine=16777216:=sizeLine_eq
  refine⟨by show 0≤sizeLine;exact szl,fun L0 nL0=>?_⟩
  have t0:=aD (o:=.lst []) nL0
  have e0:upd H L0 (.lst []) L0=some (.lst (([]:List Bool).map V.bl)):=au
  have N0:=N.same t0
  generalize upd H L0 (.lst [])=H0 at t0 e0 N0 ⊢
  have key:∀(bs:List Bool) (H':Hp) (L:Addr),aQ H H'→H' L=some (.lst (bs.map V.bl))→Aj v w ps bs→(fun σ (H':Hp)=>∃L bs,σ=[some (.ref n),some v,some w,some (.ref L),none]∧aQ H H'∧H' L=some (.lst (bs.map V.bl))∧Aj v w ps bs) ([some (.ref n),some v,some w,some (.ref L),none]) H':=fun bs H' L a b c=>⟨L,bs,rfl,a,b,c⟩
  refine⟨fun σ H'=>∃L bs,σ=[some (.ref n),some v,some w,some (.ref L),none]∧aQ H H'∧H' L=some (.lst (bs.map V.bl))∧Aj v w ps bs,?_,?_⟩
  ·refine⟨fun σ' cls d H'=>σ'=[some (.ref n),some v,some w,some (.ref L0),none]∧aQ H0 H'∧((cls=.ref t.bR∧d=none∧¬okW v w)∨(cls=.ref t.bG∧(∃dx,d=some dx)∧okW v w∧∃x,rE ps=.str x)∨(cls=.ref t.bO∧(∃dx,d=some dx)∧okW v w∧rE ps=.non)),?_,?_⟩
   ·rintro σ' cls d H' ⟨rfl,s',h⟩
    rcases h with ⟨rfl,rfl,hn⟩ | ⟨rfl,⟨dx,rfl⟩,hw',hx⟩ | ⟨rfl,⟨dx,rfl⟩,hw',hx⟩
    ·refine⟨_,rfl,T.up_BadWord_LaneError,fun y ny=>?_⟩
     refine⟨_,rfl,y,_,none,_,true,rfl,au,T.xK,T.ko_BadWord_BadWord,_,rfl,y,_,none,_,false,rfl,au,T.xK,T.ko_BadWord_NotCalm,_,rfl,y,_,none,_,false,rfl,au,T.xK,T.ko_BadWord_TooFast,by show 3≤sizeLine;exact szl,fun u nu=>?_⟩
     exact key [true,false,false] _ u (t0.trans (s'.trans ((aD ny).trans (aD nu)))) au (.inl ⟨hn,rfl⟩)
    ·refine⟨_,rfl,T.up_NotCalm_LaneError,fun y ny=>?_⟩
     refine⟨_,rfl,y,_,some dx,_,false,rfl,au,T.pN.xc,T.ko_NotCalm_BadWord,_,rfl,y,_,some dx,_,true,rfl,au,T.pN.xc,T.ko_NotCalm_NotCalm,_,rfl,y,_,some dx,_,false,rfl,au,T.pN.xc,T.ko_NotCalm_TooFast,by show 3≤sizeLine;exact szl,fun u nu=>?_⟩
     exact key [false,true,false] _ u (t0.trans (s'.trans ((aD ny).trans (aD nu)))) au (.inr ⟨hw',.inr ⟨hx,rfl⟩⟩)
    ·refine⟨_,rfl,T.up_TooFast_LaneError,fun y ny=>?_⟩
     refine⟨_,rfl,y,_,some dx,_,false,rfl,au,T.sJ.xc,T.ko_TooFast_BadWord,_,rfl,y,_,some dx,_,false,rfl,au,T.sJ.xc,T.ko_TooFast_NotCalm,_,rfl,y,_,some dx,_,true,rfl,au,T.sJ.xc,T.ko_TooFast_TooFast,by show 3≤sizeLine;exact szl,fun u nu=>?_⟩
     exact key [false,false,true] _ u (t0.trans (s'.trans ((aD ny).trans (aD nu)))) au (.inr ⟨hw',.inl ⟨hx,.inr rfl⟩⟩)
   ·refine⟨_,rfl,_,rfl,_,rfl,n,v,w,Tv,Tw,ls,ps,rfl,N0,yg t0 hv,mv,yg t0 hw,mw,?_⟩
    rcases okW_em v w with ok | bad
    ·refine .inr ⟨ok,?_⟩
     rcases ho with ho | ⟨x,ho⟩
     ·exact .inl ⟨ho,fun H' u s'=>⟨L0,[],rfl,t0.trans s',s' _ _ e0,.inr ⟨ok,.inl ⟨ho,.inl rfl⟩⟩⟩,fun dx L H' s' _=>⟨rfl,s',.inr (.inr ⟨rfl,⟨dx,rfl⟩,ok,ho⟩)⟩⟩
     ·exact .inr ⟨x,ho,fun dx H' s' _=>⟨rfl,s',.inr (.inl ⟨rfl,⟨dx,rfl⟩,ok,x,ho⟩)⟩⟩
    ·exact .inl ⟨bad,rfl,aQ.refl _,.inl ⟨rfl,rfl,bad⟩⟩
  ·rintro σ H' ⟨L,bs,rfl,s',eL,kk⟩
   exact⟨_,rfl,k _ L bs s' eL kk⟩
def sp__law_odd_name (K:PySem.W.Frag) (t:Adr):Sp:=fun vs H Q _=>∃(n:Addr) (ls:List LaneD) (ps:List PD) (x:Str),vs=[.ref n]∧qg K t H n ls ps∧rE ps=.str x∧∀H',aQ H H'→Q (.str x) H'
theorem sc__law_odd_name:FnScope ["_law_net_one", "_law_name", "e"] ["_law_net_one"] (aA fH):=⟨rfl,rfl,rfl,by decide +kernel,rfl,by decide +kernel,by decide +kernel⟩
theorem ok__law_odd_name (T:Txt w K mg t):FnOk P w K mg base CX0 8 t.oJ t.mK ["_law_net_one"] (sp__law_odd_name K t):=by
 have sc:=sc__law_odd_name
 refine T.uw.ok sc (fun vs H Q E h=>?_) (fun cdv A outer s H vs Q E hr h=>?_)
 ·obtain⟨n,ls,ps,x,rfl,_⟩:=h
  rfl
 ·obtain⟨n,ls,ps,x,rfl,N,ho,k⟩:=h
  refine⟨_,(aB (aX (i:=1) sc.nd rfl (Or.inl rfl) pe_non)
   (aB (gf (ps_try2 rfl rfl rfl (fun _ _ _ hx=>(aC (bF (pe_callR (ok_plan T) (hr.mono (by decide)) (by rfl) T.m_plan T.F_plan.kp T.b_plan hx (aj (pv 0) (aj az (aj az aq ao) ao) ak)))))
    (ph_c (K:=K) (i:=2) rfl sc.nd rfl rfl (by rfl) T.xn T.xa_NotCalm (fun _=>(aC (aX (i:=1) sc.nd rfl (Or.inl rfl) (pe_fldG (K:=K) rfl (pv 2) rfl))))
    ph_none)))
   (aC (aZ (pv 1))))),?_⟩
  have hz:sizeLine=16777216:=sizeLine_eq
  refine⟨fun σ H'=>σ=[some (.ref n),some (.str x),none]∧aQ H H',?_,?_⟩
  ·refine⟨fun σ' cls d H'=>σ'=[some (.ref n),some .non,none]∧∃dx,d=some dx∧cls=.ref t.bG∧aQ H H'∧H' dx=some (.xd [("name",.str x)]),?_,?_⟩
   ·rintro σ' cls d H' ⟨rfl,dx,rfl,rfl,s',ed⟩
    refine .inl ⟨rfl,fun y ny=>?_⟩
    have e1:(upd H' y (caught y t.bG (some dx))) dx=some (.xd [("name",.str x)]):=by rw [aH (aF ed ny)];exact ed
    exact⟨_,rfl,y,_,dx,_,_,rfl,au,e1,T.pN,T.Bj,rfl,rfl,s'.trans (aD ny)⟩
   ·exact⟨_,rfl,n,.int 1,.int 1, "int", "int",ls,ps,rfl,N,rfl,by decide,rfl,by decide,.inr ⟨⟨1,1,rfl,rfl,by decide,by decide,by decide⟩,.inr ⟨x,ho,fun dx H' s' e=>⟨rfl,dx,rfl,rfl,s',e⟩⟩⟩⟩
  ·rintro σ H' ⟨rfl,s'⟩
   exact⟨_,rfl,k _ s'⟩
def uB (K:PySem.W.Frag) (H:Hp) (x:V):Prop:=∃a v w Tv Tw,x=.ref a∧H a=some (.tup [v,w])∧tyN K H v Tv∧Tv∈fD∧tyN K H w Tw∧Tw∈fD∧¬okW v w
theorem uB.same {H H':Hp} {x:V} (h:uB K H x) (s:aQ H H'):uB K H' x:=by
 obtain⟨a,v,w,Tv,Tw,e,ea,h1,m1,h2,m2,n⟩:=h
 exact⟨a,v,w,Tv,Tw,e,s _ _ ea,yg s h1,m1,yg s h2,m2,n⟩
def sp__law_spoilt (K:PySem.W.Frag):Sp:=fun vs H Q _=>∃(c p q:Int),vs=[.int c,.int p,.int q]∧0≤c∧1≤p∧p≤q∧q≤9∧∀H' T v w Tv Tw,aQ H H'→H' T=some (.tup [v,w])→tyN K H' v Tv→Tv∈fD→tyN K H' w Tw→Tw∈fD→¬okW v w→Q (.ref T) H'
theorem sc__law_spoilt:FnScope ["_law_cell_here", "_law_top", "_law_bottom", "_law_some"] ["_law_cell_here", "_law_top", "_law_bottom"] (aA iD):=⟨rfl,rfl,rfl,by decide +kernel,rfl,by decide +kernel,by decide +kernel⟩
theorem ok__law_spoilt (T:Txt w K mg t):FnOk P w K mg base CX0 1 t.qR t.pQ ["_law_cell_here", "_law_top", "_law_bottom"] (sp__law_spoilt K):=by
 have sc:=sc__law_spoilt
 refine T.wH.ok sc (fun vs H Q E h=>?_) (fun cdv A outer s H vs Q E hr h=>?_)
 ·obtain⟨c,p,q,rfl,_⟩:=h
  rfl
 ·obtain⟨c,p,q,rfl,c0,p1,pq,q9,k⟩:=h
  refine⟨_,(aB (aX (i:=3) sc.nd rfl (Or.inl rfl) (bA (aj (cV (aj az (aj (pv 2) aq ak) ao)) (aj (cV (aj (bh tV az (pv 1)) (aj (pv 2) aq ak) bY)) (aj (cV (aj (bh dN (pv 2) az) (aj (pv 2) aq ak) bY)) (aj (cV (aj (pv 1) (aj (bh dN az (bh cQ (bh yq (pv 0) az) (bh op_pow az az))) aq bY) ak)) (aj (cV (aj iT (aj (pv 2) aq ak) ao)) aq bW) bW) bW) bW) bW)))
   (aB (aX (i:=3) sc.nd rfl (Or.inl rfl) (bh op_cat (pv 3) (bA (aj (cV (aj pe_non (aj (pv 2) aq ak) ao)) (aj (cV (aj (eZ xY (by rfl) T.n_str bt_str (aj (pv 1) aq ak)) (aj (pv 2) aq ak) aV)) (aj (cV (aj (pv 1) (aj az aq ao) ak)) (aj (cV (aj (pv 1) (aj pe_non aq ao) ak)) (aj (cV (aj (cV (aj (pv 1) (aj (pv 1) aq ak) ak)) (aj (pv 2) aq ak) bW)) (aj (cV (aj az (aj iT aq ao) ao)) aq bW) bW) bW) bW) bW) bW))))
   (aB (aX (i:=3) sc.nd rfl (Or.inl rfl) (bh op_cat (pv 3) (bA (aj (cV (aj (pv 1) (aj (bh tV az (pv 2)) aq bY) ak)) (aj (cV (aj az (aj az aq ao) ao)) (aj (cV (aj az (aj az aq ao) ao)) aq bW) bW) bW))))
   (aC (aZ (aW bN (pv 3) (bh cQ (pv 0) az) (fun _ _=>rfl))))))),?_⟩
  have hz:sizeLine=16777216:=sizeLine_eq
  have p_small:p.natAbs.log2 <1920:=(Nat.log2_lt (by omega)).mpr (Nat.lt_of_lt_of_le (by omega:p.natAbs <2 ^ 10) (Nat.pow_le_pow_right (by decide) (by decide)))
  refine⟨_,rfl,by show 2≤sizeLine;exact szl,fun a1 n1=>?_⟩
  have t1:=aD (o:=.tup [.int 0,.int q]) n1
  have x1:upd H a1 (.tup [.int 0,.int q]) a1=some (.tup [.int 0,.int q]):=au
  generalize upd H a1 (.tup [.int 0,.int q])=H1 at t1 x1 ⊢
  have b1:uB K H1 (.ref a1):=(⟨a1,.int 0,.int q, "int", "int",rfl,x1,rfl,by decide,rfl,by decide,(fun⟨p2,q2,e1,e2,h1,h2,h3⟩=>by cases e1 <;> cases e2 <;> omega)⟩)
  refine⟨_,rfl,_,_,rfl,rfl,_,rfl,by show 2≤sizeLine;exact szl,fun a2 n2=>?_⟩
  have t2:=aD (o:=.tup [.int (0 - p),.int q]) n2
  have x2:upd H1 a2 (.tup [.int (0 - p),.int q]) a2=some (.tup [.int (0 - p),.int q]):=au
  generalize upd H1 a2 (.tup [.int (0 - p),.int q])=H2 at t2 x2 ⊢
  have b2:uB K H2 (.ref a2):=(⟨a2,.int (0 - p),.int q, "int", "int",rfl,x2,rfl,by decide,rfl,by decide,(fun⟨p2,q2,e1,e2,h1,h2,h3⟩=>by cases e1 <;> cases e2 <;> omega)⟩)
  refine⟨_,rfl,_,_,rfl,rfl,_,rfl,by show 2≤sizeLine;exact szl,fun a3 n3=>?_⟩
  have t3:=aD (o:=.tup [.int (q+1),.int q]) n3
  have x3:upd H2 a3 (.tup [.int (q+1),.int q]) a3=some (.tup [.int (q+1),.int q]):=au
  generalize upd H2 a3 (.tup [.int (q+1),.int q])=H3 at t3 x3 ⊢
  have b3:uB K H3 (.ref a3):=(⟨a3,.int (q+1),.int q, "int", "int",rfl,x3,rfl,by decide,rfl,by decide,(fun⟨p2,q2,e1,e2,h1,h2,h3⟩=>by cases e1 <;> cases e2 <;> omega)⟩)
  refine⟨_,rfl,_,rfl,_,_,rfl,rfl,divOk (by decide) (by decide),_,_,rfl,rfl,⟨by decide,by decide,by decide⟩,_,_,rfl,rfl,by show(0:Int) <10 ^ (9:Int).toNat;decide,_,_,rfl,rfl,by show 2≤sizeLine;exact szl,fun a4 n4=>?_⟩
  have t4:=aD (o:=.tup [.int p,.int (1001+c / 20 % 10 ^ (9:Int).toNat)]) n4
  have x4:upd H3 a4 (.tup [.int p,.int (1001+c / 20 % 10 ^ (9:Int).toNat)]) a4=some (.tup [.int p,.int (1001+c / 20 % 10 ^ (9:Int).toNat)]):=au
  generalize upd H3 a4 (.tup [.int p,.int (1001+c / 20 % 10 ^ (9:Int).toNat)])=H4 at t4 x4 ⊢
  have b4:uB K H4 (.ref a4):=(⟨a4,.int p,.int (1001+c / 20 % 10 ^ (9:Int).toNat), "int", "int",rfl,x4,rfl,by decide,rfl,by decide,(fun⟨p2,q2,e1,e2,h1,h2,h3⟩=>by cases e1 <;> cases e2 <;> omega)⟩)
  refine⟨_,rfl,by show 2≤sizeLine;exact szl,fun a5 n5=>?_⟩
  have t5:=aD (o:=.tup [.bl true,.int q]) n5
  have x5:upd H4 a5 (.tup [.bl true,.int q]) a5=some (.tup [.bl true,.int q]):=au
  generalize upd H4 a5 (.tup [.bl true,.int q])=H5 at t5 x5 ⊢
  have b5:uB K H5 (.ref a5):=(⟨a5,.bl true,.int q, "bool", "int",rfl,x5,rfl,by decide,rfl,by decide,(fun⟨p2,q2,e1,e2,h1,h2,h3⟩=>by cases e1 <;> cases e2 <;> omega)⟩)
  refine⟨by show 5≤sizeLine;exact szl,fun L6 n6=>?_⟩
  have t6:=aD (o:=.lst [.ref a1,.ref a2,.ref a3,.ref a4,.ref a5]) n6
  have x6:upd H5 L6 (.lst [.ref a1,.ref a2,.ref a3,.ref a4,.ref a5]) L6=some (.lst [.ref a1,.ref a2,.ref a3,.ref a4,.ref a5]):=au
  generalize upd H5 L6 (.lst [.ref a1,.ref a2,.ref a3,.ref a4,.ref a5])=H6 at t6 x6 ⊢
  refine⟨_,rfl,_,rfl,by show 2≤sizeLine;exact szl,fun a7 n7=>?_⟩
  have t7:=aD (o:=.tup [.non,.int q]) n7
  have x7:upd H6 a7 (.tup [.non,.int q]) a7=some (.tup [.non,.int q]):=au
  generalize upd H6 a7 (.tup [.non,.int q])=H7 at t7 x7 ⊢
  have b7:uB K H7 (.ref a7):=(⟨a7,.non,.int q, "NoneType", "int",rfl,x7,rfl,by decide,rfl,by decide,(fun⟨p2,q2,e1,e2,h1,h2,h3⟩=>by cases e1 <;> cases e2 <;> omega)⟩)
  refine⟨_,rfl,_,rfl,p_small,_,rfl,by show 2≤sizeLine;exact szl,fun a8 n8=>?_⟩
  have t8:=aD (o:=.tup [.str (Str.ofString (toString p)),.int q]) n8
  have x8:upd H7 a8 (.tup [.str (Str.ofString (toString p)),.int q]) a8=some (.tup [.str (Str.ofString (toString p)),.int q]):=au
  generalize upd H7 a8 (.tup [.str (Str.ofString (toString p)),.int q])=H8 at t8 x8 ⊢
  have b8:uB K H8 (.ref a8):=(⟨a8,.str (Str.ofString (toString p)),.int q, "str", "int",rfl,x8,rfl,by decide,rfl,by decide,(fun⟨p2,q2,e1,e2,h1,h2,h3⟩=>by cases e1 <;> cases e2 <;> omega)⟩)
  refine⟨_,rfl,by show 2≤sizeLine;exact szl,fun a9 n9=>?_⟩
  have t9:=aD (o:=.tup [.int p,.int 0]) n9
  have x9:upd H8 a9 (.tup [.int p,.int 0]) a9=some (.tup [.int p,.int 0]):=au
  generalize upd H8 a9 (.tup [.int p,.int 0])=H9 at t9 x9 ⊢
  have b9:uB K H9 (.ref a9):=(⟨a9,.int p,.int 0, "int", "int",rfl,x9,rfl,by decide,rfl,by decide,(fun⟨p2,q2,e1,e2,h1,h2,h3⟩=>by cases e1 <;> cases e2 <;> omega)⟩)
  refine⟨_,rfl,by show 2≤sizeLine;exact szl,fun a10 n10=>?_⟩
  have t10:=aD (o:=.tup [.int p,.non]) n10
  have x10:upd H9 a10 (.tup [.int p,.non]) a10=some (.tup [.int p,.non]):=au
  generalize upd H9 a10 (.tup [.int p,.non])=H10 at t10 x10 ⊢
  have b10:uB K H10 (.ref a10):=(⟨a10,.int p,.non, "int", "NoneType",rfl,x10,rfl,by decide,rfl,by decide,(fun⟨p2,q2,e1,e2,h1,h2,h3⟩=>by cases e1 <;> cases e2 <;> omega)⟩)
  refine⟨_,rfl,_,rfl,by show 2≤sizeLine;exact szl,fun aa n11=>?_⟩
  have t11:=aD (o:=.tup [.int p,.int p]) n11
  have x11:upd H10 aa (.tup [.int p,.int p]) aa=some (.tup [.int p,.int p]):=au
  generalize upd H10 aa (.tup [.int p,.int p])=H11 at t11 x11 ⊢
  refine⟨_,rfl,by show 2≤sizeLine;exact szl,fun a12 n12=>?_⟩
  have t12:=aD (o:=.tup [.ref aa,.int q]) n12
  have x12:upd H11 a12 (.tup [.ref aa,.int q]) a12=some (.tup [.ref aa,.int q]):=au
  generalize upd H11 a12 (.tup [.ref aa,.int q])=H12 at t12 x12 ⊢
  have b12:uB K H12 (.ref a12):=(⟨a12,.ref aa,.int q, "tuple", "int",rfl,x12,.inr (.inl ⟨rfl,_,SqT.of (t12 _ _ x11)⟩),by decide,rfl,by decide,(fun⟨p2,q2,e1,e2,h1,h2,h3⟩=>by cases e1 <;> cases e2 <;> omega)⟩)
  refine⟨by show 2≤sizeLine;exact szl,fun a13 n13=>?_⟩
  have t13:=aD (o:=.tup [.int 1,.bl true]) n13
  have x13:upd H12 a13 (.tup [.int 1,.bl true]) a13=some (.tup [.int 1,.bl true]):=au
  generalize upd H12 a13 (.tup [.int 1,.bl true])=H13 at t13 x13 ⊢
  have b13:uB K H13 (.ref a13):=(⟨a13,.int 1,.bl true, "int", "bool",rfl,x13,rfl,by decide,rfl,by decide,(fun⟨p2,q2,e1,e2,h1,h2,h3⟩=>by cases e1 <;> cases e2 <;> omega)⟩)
  refine⟨by show 6≤sizeLine;exact szl,fun L14 n14=>?_⟩
  have t14:=aD (o:=.lst [.ref a7,.ref a8,.ref a9,.ref a10,.ref a12,.ref a13]) n14
  have x14:upd H13 L14 (.lst [.ref a7,.ref a8,.ref a9,.ref a10,.ref a12,.ref a13]) L14=some (.lst [.ref a7,.ref a8,.ref a9,.ref a10,.ref a12,.ref a13]):=au
  generalize upd H13 L14 (.lst [.ref a7,.ref a8,.ref a9,.ref a10,.ref a12,.ref a13])=H14 at t14 x14 ⊢
  refine⟨L6,L14,_,_,rfl,rfl,(t7.trans (t8.trans (t9.trans (t10.trans (t11.trans (t12.trans (t13.trans (t14)))))))) _ _ x6,(aQ.refl _) _ _ x14,by show 11≤sizeLine;exact szl,fun L15 n15=>?_⟩
  have t15:=aD (o:=.lst ([.ref a1,.ref a2,.ref a3,.ref a4,.ref a5] ++ [.ref a7,.ref a8,.ref a9,.ref a10,.ref a12,.ref a13])) n15
  have x15:upd H14 L15 (.lst ([.ref a1,.ref a2,.ref a3,.ref a4,.ref a5] ++ [.ref a7,.ref a8,.ref a9,.ref a10,.ref a12,.ref a13])) L15=some (.lst ([.ref a1,.ref a2,.ref a3,.ref a4,.ref a5] ++ [.ref a7,.ref a8,.ref a9,.ref a10,.ref a12,.ref a13])):=au
  generalize upd H14 L15 (.lst ([.ref a1,.ref a2,.ref a3,.ref a4,.ref a5] ++ [.ref a7,.ref a8,.ref a9,.ref a10,.ref a12,.ref a13]))=H15 at t15 x15 ⊢
  have x15:H15 L15=some (.lst [.ref a1,.ref a2,.ref a3,.ref a4,.ref a5,.ref a7,.ref a8,.ref a9,.ref a10,.ref a12,.ref a13]):=x15
  refine⟨_,rfl,_,rfl,_,rfl,_,_,rfl,rfl,by show 2≤sizeLine;exact szl,fun a16 n16=>?_⟩
  have t16:=aD (o:=.tup [.int p,.int (0 - q)]) n16
  have x16:upd H15 a16 (.tup [.int p,.int (0 - q)]) a16=some (.tup [.int p,.int (0 - q)]):=au
  generalize upd H15 a16 (.tup [.int p,.int (0 - q)])=H16 at t16 x16 ⊢
  have b16:uB K H16 (.ref a16):=(⟨a16,.int p,.int (0 - q), "int", "int",rfl,x16,rfl,by decide,rfl,by decide,(fun⟨p2,q2,e1,e2,h1,h2,h3⟩=>by cases e1 <;> cases e2 <;> omega)⟩)
  refine⟨by show 2≤sizeLine;exact szl,fun a17 n17=>?_⟩
  have t17:=aD (o:=.tup [.int 1001,.int 1001]) n17
  have x17:upd H16 a17 (.tup [.int 1001,.int 1001]) a17=some (.tup [.int 1001,.int 1001]):=au
  generalize upd H16 a17 (.tup [.int 1001,.int 1001])=H17 at t17 x17 ⊢
  have b17:uB K H17 (.ref a17):=(⟨a17,.int 1001,.int 1001, "int", "int",rfl,x17,rfl,by decide,rfl,by decide,(fun⟨p2,q2,e1,e2,h1,h2,h3⟩=>by cases e1 <;> cases e2 <;> omega)⟩)
  refine⟨by show 2≤sizeLine;exact szl,fun a18 n18=>?_⟩
  have t18:=aD (o:=.tup [.int 0,.int 0]) n18
  have x18:upd H17 a18 (.tup [.int 0,.int 0]) a18=some (.tup [.int 0,.int 0]):=au
  generalize upd H17 a18 (.tup [.int 0,.int 0])=H18 at t18 x18 ⊢
  have b18:uB K H18 (.ref a18):=(⟨a18,.int 0,.int 0, "int", "int",rfl,x18,rfl,by decide,rfl,by decide,(fun⟨p2,q2,e1,e2,h1,h2,h3⟩=>by cases e1 <;> cases e2 <;> omega)⟩)
  refine⟨by show 3≤sizeLine;exact szl,fun L19 n19=>?_⟩
  have t19:=aD (o:=.lst [.ref a16,.ref a17,.ref a18]) n19
  have x19:upd H18 L19 (.lst [.ref a16,.ref a17,.ref a18]) L19=some (.lst [.ref a16,.ref a17,.ref a18]):=au
  generalize upd H18 L19 (.lst [.ref a16,.ref a17,.ref a18])=H19 at t19 x19 ⊢
  refine⟨L15,L19,_,_,rfl,rfl,(t16.trans (t17.trans (t18.trans (t19)))) _ _ x15,(aQ.refl _) _ _ x19,by show 14≤sizeLine;exact szl,fun L20 n20=>?_⟩
  have t20:=aD (o:=.lst ([.ref a1,.ref a2,.ref a3,.ref a4,.ref a5,.ref a7,.ref a8,.ref a9,.ref a10,.ref a12,.ref a13] ++ [.ref a16,.ref a17,.ref a18])) n20
  have x20:upd H19 L20 (.lst ([.ref a1,.ref a2,.ref a3,.ref a4,.ref a5,.ref a7,.ref a8,.ref a9,.ref a10,.ref a12,.ref a13] ++ [.ref a16,.ref a17,.ref a18])) L20=some (.lst ([.ref a1,.ref a2,.ref a3,.ref a4,.ref a5,.ref a7,.ref a8,.ref a9,.ref a10,.ref a12,.ref a13] ++ [.ref a16,.ref a17,.ref a18])):=au
  generalize upd H19 L20 (.lst ([.ref a1,.ref a2,.ref a3,.ref a4,.ref a5,.ref a7,.ref a8,.ref a9,.ref a10,.ref a12,.ref a13] ++ [.ref a16,.ref a17,.ref a18]))=H20 at t20 x20 ⊢
  have x20:H20 L20=some (.lst [.ref a1,.ref a2,.ref a3,.ref a4,.ref a5,.ref a7,.ref a8,.ref a9,.ref a10,.ref a12,.ref a13,.ref a16,.ref a17,.ref a18]):=x20
  have r20:aQ H20 H20:=aQ.refl _
  have r19:=t20.trans r20
  have r18:=t19.trans r19
  have r17:=t18.trans r18
  have r16:=t17.trans r17
  have r15:=t16.trans r16
  have r14:=t15.trans r15
  have r13:=t14.trans r14
  have r12:=t13.trans r13
  have r11:=t12.trans r12
  have r10:=t11.trans r11
  have r9:=t10.trans r10
  have r8:=t9.trans r9
  have r7:=t8.trans r8
  have r6:=t7.trans r7
  have r5:=t6.trans r6
  have r4:=t5.trans r5
  have r3:=t4.trans r4
  have r2:=t3.trans r3
  have r1:=t2.trans r2
  have r0:=t1.trans r1
  have l20:∀x∈[V.ref a1,V.ref a2,V.ref a3,V.ref a4,V.ref a5,V.ref a7,V.ref a8,V.ref a9,V.ref a10,V.ref a12,V.ref a13,V.ref a16,V.ref a17,V.ref a18],uB K H20 x:=fun x hx=>by
   simp only [List.mem_cons,List.not_mem_nil,or_false] at hx
   rcases hx with rfl | rfl | rfl | rfl | rfl | rfl | rfl | rfl | rfl | rfl | rfl | rfl | rfl | rfl
   ·exact b1.same r1
   ·exact b2.same r2
   ·exact b3.same r3
   ·exact b4.same r4
   ·exact b5.same r5
   ·exact b7.same r7
   ·exact b8.same r8
   ·exact b9.same r9
   ·exact b10.same r10
   ·exact b12.same r12
   ·exact b13.same r13
   ·exact b16.same r16
   ·exact b17.same r17
   ·exact b18.same r18
  obtain⟨j,hj,ej⟩:∃j:Nat,j <14∧c % 14=(j:Nat):=⟨(c % 14).toNat,by omega,by omega⟩
  obtain⟨z,hz'⟩:∃z,([.ref a1,.ref a2,.ref a3,.ref a4,.ref a5,.ref a7,.ref a8,.ref a9,.ref a10,.ref a12,.ref a13,.ref a16,.ref a17,.ref a18]:List V)[j]?=some z:=⟨_,List.getElem?_eq_getElem (by show j <14;exact hj)⟩
  obtain⟨a,v,w,Tv,Tw,rfl,ea,h1,m1,h2,m2,no⟩   :=l20 z (List.mem_of_getElem? hz')
  exact⟨_,rfl,_,rfl,_,_,rfl,rfl,by show(0:Int) <14;decide,L20,_,j,_,rfl,congrArg V.int ej,SqL.of x20,aN (j:=j) hz',k _ a v w Tv Tw r0 ea h1 m1 h2 m2 no⟩
def sp_law (K:PySem.W.Frag):Sp:=fun vs H Q _=>∃(a:Addr) (ns:List Int),vs=[.ref a]∧SqL K H a (ns.map V.int)∧ns.length≤63∧∀H',Q (.bl true) H'
theorem sc_law:FnScope ["_law_script", "_law_lanes", "_law_parts", "_law_net_one", "_law_before", "_law_bottom", "_law_top", "_law_k", "_law_one", "_law_other", "_law_odds", "_law_kinds_here"] ["_law_script"] (aA Bf):=⟨rfl,rfl,rfl,by decide +kernel,rfl,by decide +kernel,by decide +kernel⟩
theorem ok_law (T:Txt w K mg t):FnOk P w K mg base CX0 9 t.f_law t.fd_law ["_law_script"] (sp_law K):=by
 have sc:=sc_law
 refine T.F_law.ok sc (fun vs H Q E h=>?_) (fun cdv A outer s H vs Q E hr h=>?_)
 ·obtain⟨a,ns,rfl,_⟩:=h
  rfl
 ·obtain⟨a,ns,rfl,hS,hlen,k⟩:=h
  refine⟨_,(aB (ps_asg (aJ (ok__law_net T) (hr.mono (by decide)) (by rfl) T.m__law_net T.Bv.kp T.b__law_net .nil aO (aj (pv 0) (aj az (aj (bh cQ (aJ (fU T) (hr.mono (by decide)) (by rfl) T.gM T.fP.kp T.gK .nil aO (aj (pv 0) (aj az aq ao) ak)) az) (aj (oV op_gt (bh cQ (aJ (fU T) (hr.mono (by decide)) (by rfl) T.gM T.fP.kp T.gK .nil aO (aj (pv 0) (aj az aq ao) ak)) az) az (bU _)) aq star_Compare) bY) ao) ak)) (pg_tup rfl (yh (dz (i:=1) sc.nd rfl (Or.inl rfl)) (yh (dz (i:=2) sc.nd rfl (Or.inl rfl)) pgs_nil))))
   (aB (aX (i:=3) sc.nd rfl (Or.inl rfl) (jK T.M_Net (ok_Net___init__ T) (hr.mono (by decide)) (by rfl) T.mc_Net T.b_Net___init__ .nil aO (aj (pv 1) (aj (pv 2) aq ak) ak)))
   (aB (aX (i:=4) sc.nd rfl (Or.inl rfl) (lw (pv 3) T.cB T.vY (vK T) (hr.mono (by decide)) T.xN .nil aO))
   (aB (aX (i:=5) sc.nd rfl (Or.inl rfl) (bh dN az (bh cQ (aJ (fU T) (hr.mono (by decide)) (by rfl) T.gM T.fP.kp T.gK .nil aO (aj (pv 0) (aj az aq ao) ak)) az)))
   (aB (aX (i:=6) sc.nd rfl (Or.inl rfl) (bh dN az (bh cQ (bh yq (aJ (fU T) (hr.mono (by decide)) (by rfl) T.gM T.fP.kp T.gK .nil aO (aj (pv 0) (aj az aq ao) ak)) az) (pv 5))))
   (aB (gQ PassesOwn.never rfl (kO rfl T.qw (aj az aq ao)) (dz (i:=7) sc.nd rfl (Or.inl rfl))
    (aB (ps_asg (aJ (ok__law_spoilt T) (hr.mono (by decide)) (by rfl) T.m__law_spoilt T.wH.kp T.b__law_spoilt .nil aO (aj (aJ (bj T) (hr.mono (by decide)) (by rfl) T.bC T.bx.kp T.bD .nil aO (aj (aJ (fU T) (hr.mono (by decide)) (by rfl) T.gM T.fP.kp T.gK .nil aO (aj (pv 0) (aj az aq ao) ak)) (aj (pv 7) aq ak) aV)) (aj (pv 6) (aj (pv 5) aq ak) ak) aV)) (pg_tup rfl (yh (dz (i:=8) sc.nd rfl (Or.inl rfl)) (yh (dz (i:=9) sc.nd rfl (Or.inl rfl)) pgs_nil))))
    (aC (cg (bz (op_neD hr.units) (aJ (wV T) (hr.mono (by decide)) (by rfl) T.yH T.rY.kp T.yC .nil aO (aj (pv 3) (aj (pv 8) (aj (pv 9) aq ak) ak) ak)) (bA (aj iT (aj iT (aj iT aq ao) ao) ao)) (bU _))
     (aC (aZ iT))
     bQ))))
   (aB (wk (i:=10) [] ["_law_script", "_law_lanes", "_law_parts", "_law_net_one", "_law_before", "_law_bottom", "_law_top", "_law_k", "_law_one", "_law_other", "_law_odds", "_law_kinds_here"] (aA Bf) rfl sc.nd rfl (iQ (pv 2)) (fun _ _ _ _ _=>(pf_one (bz (op_in_seqK (K:=K) rfl) (aW (ix_tupK (K:=K) rfl) (pv 0) az (fun _ _=>rfl)) (bA (aj bH (aj bH aq ao) ao)) (by with_unfolding_all rfl)))) (fun _ _ _ _ _=>(aW (ix_tupK (K:=K) rfl) (pv 0) az (fun _ _=>rfl))))
   (aB (aX (i:=11) sc.nd rfl (Or.inl rfl) (aJ (wV T) (hr.mono (by decide)) (by rfl) T.yH T.rY.kp T.yC .nil aO (aj (pv 3) (aj (pv 6) (aj (pv 5) aq ak) ak) ak)))
   (aB (cg (bz (op_eqD hr.units) (pv 10) (bA aq) (bU _))
    (aC (aZ (zf (oV (op_inD hr.u100) (pv 11) (bA (aj (bA aq) (aj (bA (aj iT (aj iT (aj iT aq ao) ao) ao)) aq bw) bw)) (by with_unfolding_all rfl)) (yX (oV (op_eqD hr.units) (lw (pv 3) T.cB T.vY (vK T) (hr.mono (by decide)) T.xN .nil aO) (pv 4) (bU _))))))
    bQ)
   (aC (aZ (zf (oV (op_eqD hr.units) (pv 11) (bA (aj iT (aj iT (aj iT aq ao) ao) ao)) (bU _)) (zf (oV jd (aJ (ok__law_odd_name T) (hr.mono (by decide)) (by rfl) T.m__law_odd_name T.uw.kp T.b__law_odd_name .nil aO (aj (pv 3) aq ak)) (aW bN (pv 10) az (fun _ _=>rfl)) (bU _)) (yX (oV (op_eqD hr.units) (lw (pv 3) T.cB T.vY (vK T) (hr.mono (by decide)) T.xN .nil aO) (pv 4) (bU _)))))))))))))))),?_⟩
  have hz:sizeLine=16777216:=sizeLine_eq
  have c0:=Int.emod_nonneg (gO ns 0) (show(5:Int)≠0 by decide)
  have c1:=Int.emod_lt_of_pos (gO ns 0) (show(0:Int) <5 by decide)
  obtain⟨st,hst,hst4⟩:∃st:Nat,gO ns 0 % 5=(st:Int)∧st≤4:=⟨(gO ns 0 % 5).toNat,by omega,by omega⟩
  refine hide fun u hu=>?_
  refine⟨_,rfl,_,rfl,a,ns,0,rfl,hS,_,_,rfl,rfl,by show(0:Int) <5;decide,?_⟩
  dsimp only
  rw [hst]
  refine⟨_,rfl,a,ns,1,rfl,hS,_,_,rfl,rfl,by show(0:Int) <4;decide,_,_,rfl,rfl,a,ns,4,st,_,rfl,hS,hst4,fun T' L P ls ps H1 s1 nL nP nLP eT A D=>?_⟩
  refine⟨T',_,rfl,SqT.of eT,rfl,_,_,rfl,_,_,rfl,rfl,?_⟩
  have hF:=D.fit
  have l24:=hF.l24
  have p16:=hF.p16
  refine bJ (v:=u) hu fun u hu=>?_
  refine⟨_,rfl,_,rfl,fun n dxn nn ndn nen=>?_⟩
  have g4:aQ H1 (upd (upd H1 dxn (.own n)) n (.ins t.bI dxn [])):=fun b o e=>by rw [aH (aF e nn),aH (aF e ndn)];exact e
  have hH:Hand K (upd (upd H1 dxn (.own n)) n (.ins t.bI dxn [])) L P ls ps:=by
   obtain⟨⟨x1,x2,x3⟩,⟨y1,y2,y3⟩⟩:=A.same g4
   refine⟨⟨x1,SqL.of x2,x3.imp fun _ _ h=>?_⟩,⟨y1,SqL.of y2,y3.imp fun _ _ h=>?_⟩⟩
   ·obtain⟨q,f,e,h1,h2⟩:=h
    exact⟨q,f,e,h1,.inl (SqL.of h2)⟩
   ·obtain⟨q,a1,a2,a3,e,h1,h2,h3,h4⟩:=h
    exact⟨q,a1,a2,a3,e,h1,.inl (SqL.of h2),.inl (SqL.of h3),.inl (SqL.of h4)⟩
  refine⟨n,dxn,L,P,ls,ps,rfl,au,hH,hF,fun H2 b2 N2=>⟨rfl,?_⟩⟩
  have s12:aQ H1 H2:=fun b o e=>b2 b o (aF e nn) (g4 b o e)
  have A2:=A.same s12
  have hS2:=(s1.trans s12).seq hS
  obtain⟨dx,fs,R,F,Pd,G,Tk,FL,PL,W⟩:=id N2
  refine bJ (v:=u) hu fun u hu=>?_
  refine⟨_,rfl,n,dx,fs,rfl,W.obj,W.fl.no _ (by decide +kernel),n,ls,ps,rfl,W.s,fun T2 c1' c2' H3 s3 _ _ _ TB=>?_⟩
  have hS3:=s3.seq hS2
  have N3:=N2.same s3
  have A3:=A2.same s3
  refine bJ (v:=u) hu fun u hu=>?_
  refine⟨_,rfl,a,ns,2,rfl,hS3,_,_,rfl,rfl,by show(0:Int) <9;decide,_,_,rfl,rfl,?_⟩
  obtain⟨q,hq,q1,q9⟩:∃q:Int,1+gO ns 2 % 9=q∧1≤q∧q≤9:=⟨_,rfl,by have:=Int.emod_nonneg (gO ns 2) (show(9:Int)≠0 by decide);omega,by have:=Int.emod_lt_of_pos (gO ns 2) (show(0:Int) <9 by decide);omega⟩
  dsimp only
  rw [hq]
  refine bJ (v:=u) hu fun u hu=>?_
  refine⟨_,rfl,a,ns,2,rfl,hS3,_,_,rfl,rfl,divOk (by decide) (by decide),_,rfl,_,_,rfl,rfl,by show(0:Int) <q;omega,_,_,rfl,rfl,?_⟩
  obtain⟨p,hp,p1,pq⟩:∃p:Int,1+gO ns 2 / 9 % q=p∧1≤p∧p≤q:=⟨_,rfl,by have:=Int.emod_nonneg (gO ns 2 / 9) (show q≠0 by omega);omega,by have:=Int.emod_lt_of_pos (gO ns 2 / 9) (show 0 <q by omega);omega⟩
  dsimp only
  rw [hp]
  have hodd:rE ps=.non∨∃x,rE ps=.str x:=by
   rcases oddN_head ps with ⟨_,h⟩ | ⟨x,r,_,h⟩
   ·exact .inl h
   ·exact .inr ⟨x,h⟩
  refine bJ (v:=u) hu fun u hu=>?_
  refine⟨3,rfl,by decide,by decide,?_⟩
  refine ww (n:=3) (fun j σ H'=>(∃v7 v8 v9,σ=[some (.ref a),some (.ref L),some (.ref P),some (.ref n),some (.ref T2),some (.int q),some (.int p),v7,v8,v9,none,none])∧aQ H3 H') ⟨⟨_,_,_,rfl⟩,aQ.refl _⟩ ?_ ?_
  ·rintro j σ H' hj ⟨⟨v7,v8,v9,rfl⟩,s'⟩
   refine hideG fun De hD u hu=>?_
   refine⟨_,rfl,a,ns,3,rfl,s'.seq hS3,_,rfl,_,_,rfl,_,rfl,_,rfl,_,p,q,rfl,uN _ _,p1,pq,q9,fun H4 T4 v w Tv Tw s4 e4 h1 m1 h2 m2 no=>?_⟩
   refine⟨T4,_,rfl,SqT.of e4,rfl,_,_,rfl,_,_,rfl,rfl,?_⟩
   subst hu
   refine⟨_,rfl,_,rfl,_,rfl,n,v,w,Tv,Tw,ls,ps,rfl,N3.same (s'.trans s4),h1,m1,h2,m2,hodd,fun H5 Lk bs s5 eL kk=>?_⟩
   have hbs:bs=[true,false,false]:=kk.elim (fun z=>z.2) fun z=>absurd z.1 no
   subst hbs
   refine⟨by show 3≤sizeLine;exact szl,fun u nu=>?_⟩
   have tu:=aD (o:=.lst [.bl true,.bl false,.bl false]) nu
   have g:=Gd.bls [true,false,false]
   refine⟨_,_,.list (SqL.of (tu _ _ eL)) (xr _),.list (SqL.of au) (xr [true,false,false]),g.shaped (by decide),g.shaped (by decide),_,rfl,?_⟩
   rw [g.eq]
   subst hD
   exact fX ⟨⟨_,_,_,rfl⟩,s'.trans (s4.trans (s5.trans tu))⟩
  rintro σ H4 ⟨⟨v7,v8,v9,rfl⟩,s4⟩
  have N4:=N3.same s4
  have A4:=A3.same s4
  have TB4:=TB.same s4
  obtain⟨⟨xs,eL2,aL2⟩,⟨ys,eP2,aP2⟩⟩:=id A4
  have ly:=aP2.length
  refine bJ (v:=u) hu fun u hu=>?_
  refine⟨_,rfl,P,rfl,⟨_,SqL.of eP2⟩,?_⟩
  refine rN (K:=K) (a:=P) (xs:=ys) (fun j zs H'=>aQ H4 H'∧zs=(fj (ps.take j)).map V.str) (by omega) ⟨aQ.refl _,rfl⟩ (fun j zs H' ⟨_,e⟩=>by rw [e,List.length_map];unfold fj;rw [List.length_map];exact Nat.le_trans (List.length_filter_le _ _) (by rw [List.length_take];omega)) (fun j zs H' _ h=>h.1.seq (SqL.of eP2)) ?_ ?_
  ·rintro j x zs H' hx ⟨s',rfl⟩
   obtain⟨p',hpj,q',a1,a2,a3,rfl,hq',x1,x2,x3⟩:=aP2.get hx
   have eq:=s' _ _ hq'
   refine⟨_,rfl,q',_,0,_,rfl,rfl,SqT.of eq,aN (j:=0) rfl,by show 2≤sizeLine;exact szl,fun u nu=>?_⟩
   have tu:=aD (o:=.lst [.str "choose",.str "split"]) nu
   refine⟨u,_,rfl,.inl (SqL.of au),rfl,by simp [rJ],_,rfl,?_⟩
   rw [oddB_in,List.take_succ,hpj,Option.toList_some,oddNames_snoc]
   refine jM (fun e=>?_) (fun e=>?_)
   ·have e:ym p'=true:=by simpa using e
    rw [if_pos e,List.map_append]
    exact⟨_,rfl,q',_,1,_,rfl,rfl,SqT.of (tu _ _ eq),aN (j:=1) rfl,s'.trans tu,rfl⟩
   ·have e:¬ym p'=true:=by simpa using e
    rw [if_neg e]
    exact⟨s'.trans tu,rfl⟩
  rintro zs H5 ⟨s5,rfl⟩ Lo nLo
  rw [ly,List.take_length]
  have to:=aD (o:=.lst ((fj ps).map V.str)) nLo
  have eLo:upd H5 Lo (.lst ((fj ps).map V.str)) Lo=some (.lst ((fj ps).map V.str)):=au
  have s6:=s5.trans to
  generalize upd H5 Lo (.lst ((fj ps).map V.str))=H6 at to eLo s6 ⊢
  refine bJ (v:=u) hu fun u hu=>?_
  refine⟨_,rfl,_,rfl,_,rfl,n,.int p,.int q, "int", "int",ls,ps,rfl,N4.same s6,rfl,by decide,rfl,by decide,hodd,fun H7 Lk bs s7 eLk kk=>?_⟩
  have s47:=s6.trans s7
  have eLo:=s7 _ _ eLo
  subst hu
  refine⟨_,rfl,by show 0≤sizeLine;exact szl,fun u nu=>?_⟩
  have tu:=aD (o:=.lst []) nu
  have on:∀x∈fj ps,PyData.strOk x=true:=fun x hx=>by
   unfold fj at hx
   obtain⟨p',hp',rfl⟩:=List.mem_map.mp hx
   exact Ad (hF.pnm p' (List.mem_filter.mp hp').1)
  have g1:=Gd.list (Gd.strs 0 on)
  have g0:Gd 1 (.list []):=Gd.list (n:=0) (by simp)
  refine⟨_,_,.list (SqL.of (tu _ _ eLo)) (Ah _),.list (SqL.of au) .nil,g1.shaped (by decide),g0.shaped (by decide),_,rfl,?_⟩
  have N8:=N4.same (s47.trans tu)
  have TB8:=TB4.same (s47.trans tu)
  have eLo8:=tu _ _ eLo
  have eLk8:=tu _ _ eLk
  generalize upd H7 u (.lst [])=H8 at tu N8 TB8 eLo8 eLk8 ⊢
  have okpq:okW (.int p) (.int q):=⟨p,q,rfl,rfl,by omega,pq,by omega⟩
  have gt:=hF.told
  obtain⟨dx,fs,R,F,Pd,G,Tk,FL,PL,W⟩:=id N8
  rcases oddN_head ps with ⟨h1,ho⟩ | ⟨x,r,h1,ho⟩
  ·rw [h1]
   refine lX ?_
   have hb:bs=[]∨bs=[false,false,true]:=by
    rcases kk with ⟨z,_⟩ | ⟨_,⟨_,z⟩ | ⟨⟨x,z⟩,_⟩⟩
    ·exact absurd okpq z
    ·exact z
    ·rw [ho] at z;cases z
   refine⟨_,rfl,by show 0≤sizeLine;exact szl,fun u1 m1=>?_⟩
   have t1:=aD (o:=.lst []) m1
   have e1:upd H8 u1 (.lst []) u1=some (.lst []):=au
   generalize upd H8 u1 (.lst [])=G1 at t1 e1 ⊢
   refine⟨by show 3≤sizeLine;exact szl,fun u2 m2=>?_⟩
   have t2:=aD (o:=.lst [.bl false,.bl false,.bl true]) m2
   have e2:upd G1 u2 (.lst [.bl false,.bl false,.bl true]) u2=some (.lst [.bl false,.bl false,.bl true]):=au
   generalize upd G1 u2 (.lst [.bl false,.bl false,.bl true])=G2 at t2 e2 ⊢
   refine⟨by show 2≤sizeLine;exact szl,fun u3 m3=>?_⟩
   have t3:=aD (o:=.lst [.ref u1,.ref u2]) m3
   have e3:upd G2 u3 (.lst [.ref u1,.ref u2]) u3=some (.lst [.ref u1,.ref u2]):=au
   generalize upd G2 u3 (.lst [.ref u1,.ref u2])=G3 at t3 e3 ⊢
   have t83:=t1.trans (t2.trans t3)
   have gb:=Gd.bls bs
   have gl:Gd 2 (.list [.list [],.list [.bool false,.bool false,.bool true]]):=Gd.list fun d hd=>by
    simp only [List.mem_cons,List.not_mem_nil,or_false] at hd
    rcases hd with rfl | rfl
    ·exact g0
    ·exact Gd.bls [false,false,true]
   refine⟨.list (bs.map .bool),[.list [],.list [.bool false,.bool false,.bool true]],.list (SqL.of (t83 _ _ eLk8)) (xr _),.list (SqL.of e3) (.cons (.list (SqL.of (t3 _ _ (t2 _ _ e1))) .nil) (.cons (.list (SqL.of (t3 _ _ e2)) (xr [false,false,true])) .nil)),gb.shaped (by decide),gl.shaped (by decide),true,?_,lX ?_⟩
   ·rcases hb with rfl | rfl <;> simp [PyData.eqv,PyData.eqvAll]
   ·have W9:=W.same t83
    refine⟨_,rfl,n,dx,fs,rfl,W9.obj,W9.fl.no _ (by decide +kernel),n,ls,ps,rfl,W9.s,fun T9 c9 d9 H9 s9 _ _ _ TC=>?_⟩
    refine⟨_,rfl,_,_,TC.dt,(TB8.same (t83.trans s9)).dt,gt.shaped (by decide),gt.shaped (by decide),?_⟩
    rw [gt.eq]
    exact k _
  ·rw [h1]
   have ef:PyData.eqv (.list ((x:: r).map PyData.str)) (.list [])=false:=by simp [PyData.eqv,PyData.eqvAll]
   rw [ef]
   refine fX ?_
   have hb:bs=[false,true,false]:=by
    rcases kk with ⟨z,_⟩ | ⟨_,⟨z,_⟩ | ⟨_,z⟩⟩
    ·exact absurd okpq z
    ·rw [ho] at z;cases z
    ·exact z
   subst hb
   refine⟨_,rfl,by show 3≤sizeLine;exact szl,fun u1 m1=>?_⟩
   have t1:=aD (o:=.lst [.bl false,.bl true,.bl false]) m1
   have gb:=Gd.bls [false,true,false]
   refine⟨_,_,.list (SqL.of (t1 _ _ eLk8)) (xr _),.list (SqL.of au) (xr [false,true,false]),gb.shaped (by decide),gb.shaped (by decide),?_⟩
   rw [gb.eq]
   refine⟨true,rfl,lX ?_⟩
   generalize upd H8 u1 (.lst [.bl false,.bl true,.bl false])=G1 at t1 ⊢
   refine⟨_,rfl,n,ls,ps,x,rfl,N8.same t1,ho,fun G2 t2=>?_⟩
   have eLo9:=(t1.trans t2) _ _ eLo8
   rw [h1] at eLo9
   refine⟨_,rfl,Lo,_,0,_,rfl,rfl,SqL.of eLo9,aN (j:=0) rfl,rfl,true,by simp,lX ?_⟩
   have W9:=W.same (t1.trans t2)
   refine⟨_,rfl,n,dx,fs,rfl,W9.obj,W9.fl.no _ (by decide +kernel),n,ls,ps,rfl,W9.s,fun T9 c9 d9 H9 s9 _ _ _ TC=>?_⟩
   refine⟨_,rfl,_,_,TC.dt,(TB8.same ((t1.trans t2).trans s9)).dt,gt.shaped (by decide),gt.shaped (by decide),?_⟩
   rw [gt.eq]
   exact k _
end
theorem p7 {α:Type} {P:List α→Prop} (h:∀a0,P [a0]):∀us:List α,us.length=1→P us
 | [a0],_=>h a0
theorem rC {α:Type} {P:List α→Prop} (h:∀a0 a1,P [a0,a1]):∀us:List α,us.length=2→P us
 | [a0,a1],_=>h a0 a1
theorem yK {α:Type} {P:List α→Prop} (h:∀a0 a1 a2,P [a0,a1,a2]):∀us:List α,us.length=3→P us
 | [a0,a1,a2],_=>h a0 a1 a2
theorem us_4 {α:Type} {P:List α→Prop} (h:∀a0 a1 a2 a3,P [a0,a1,a2,a3]):∀us:List α,us.length=4→P us
 | [a0,a1,a2,a3],_=>h a0 a1 a2 a3
theorem us_5 {α:Type} {P:List α→Prop} (h:∀a0 a1 a2 a3 a4,P [a0,a1,a2,a3,a4]):∀us:List α,us.length=5→P us
 | [a0,a1,a2,a3,a4],_=>h a0 a1 a2 a3 a4
theorem us_6 {α:Type} {P:List α→Prop} (h:∀a0 a1 a2 a3 a4 a5,P [a0,a1,a2,a3,a4,a5]):∀us:List α,us.length=6→P us
 | [a0,a1,a2,a3,a4,a5],_=>h a0 a1 a2 a3 a4 a5
theorem all_mk {l:PySem.W.OpenLaw} {w:World} {K:PySem.W.Frag} {h:Heap} {mg:Str→Option Value} {fa:Addr} (X:K.In h) (G:h.Ns mainGlobals mg) (hfa:mg "law" =some (.ref fa))
  {f0:Addr} {od0 an0:Option Addr} {sl0:Array (Option Value)} {oc0 kV0 dc0 pm0 cd0 ct0:Value}
  {f1:Addr} {od1 an1:Option Addr} {sl1:Array (Option Value)} {oc1 kV1 dc1 pm1 cd1 ct1:Value}
  {f2:Addr} {od2 an2:Option Addr} {sl2:Array (Option Value)} {oc2 kV2 dc2 pm2 cd2 ct2:Value}
  {f3:Addr} {od3 an3:Option Addr} {sl3:Array (Option Value)} {oc3 kV3 dc3 pm3 cd3 ct3:Value}
  {f4:Addr} {od4 an4:Option Addr} {sl4:Array (Option Value)} {oc4 kV4 dc4 pm4 cd4 ct4:Value}
  {f5:Addr} {od5 an5:Option Addr} {sl5:Array (Option Value)} {oc5 kV5 dc5 pm5 cd5 ct5:Value}
  {f6:Addr} {od6 an6:Option Addr} {sl6:Array (Option Value)} {oc6 kV6 dc6 pm6 cd6 ct6:Value}
  {f7:Addr} {od7 an7:Option Addr} {sl7:Array (Option Value)} {oc7 kV7 dc7 pm7 cd7 ct7:Value}
  {f8:Addr} {od8 an8:Option Addr} {sl8:Array (Option Value)} {oc8 kV8 dc8 pm8 cd8 ct8:Value}
  {f9:Addr} {od9 an9:Option Addr} {sl9:Array (Option Value)} {oc9 kV9 dc9 pm9 cd9 ct9:Value}
  {f10:Addr} {od10 an10:Option Addr} {sl10:Array (Option Value)} {oc10 kV10 dc10 pm10 cd10 ct10:Value}
  {f11:Addr} {od11 an11:Option Addr} {sl11:Array (Option Value)} {oc11 kV11 dc11 pm11 cd11 ct11:Value}
  {f12:Addr} {od12 an12:Option Addr} {sl12:Array (Option Value)} {oc12 kV12 dc12 pm12 cd12 ct12:Value}
  {f13:Addr} {od13 an13:Option Addr} {sl13:Array (Option Value)} {oc13 kV13 dc13 pm13 cd13 ct13:Value}
  {f14:Addr} {od14 an14:Option Addr} {sl14:Array (Option Value)} {oc14 kV14 dc14 pm14 cd14 ct14:Value}
  {f15:Addr} {od15 an15:Option Addr} {sl15:Array (Option Value)} {oc15 kV15 dc15 pm15 cd15 ct15:Value}
  {f16:Addr} {od16 an16:Option Addr} {sl16:Array (Option Value)} {oc16 kV16 dc16 pm16 cd16 ct16:Value}
  {f17:Addr} {od17 an17:Option Addr} {sl17:Array (Option Value)} {oc17 kV17 dc17 pm17 cd17 ct17:Value}
  {f18:Addr} {od18 an18:Option Addr} {sl18:Array (Option Value)} {oc18 kV18 dc18 pm18 cd18 ct18:Value}
  {f19:Addr} {od19 an19:Option Addr} {sl19:Array (Option Value)} {oc19 kV19 dc19 pm19 cd19 ct19:Value}
  {f20:Addr} {od20 an20:Option Addr} {sl20:Array (Option Value)} {oc20 kV20 dc20 pm20 cd20 ct20:Value}
  {f21:Addr} {od21 an21:Option Addr} {sl21:Array (Option Value)} {oc21 kV21 dc21 pm21 cd21 ct21:Value}
  {f22:Addr} {od22 an22:Option Addr} {sl22:Array (Option Value)} {oc22 kV22 dc22 pm22 cd22 ct22:Value}
  {f23:Addr} {od23 an23:Option Addr} {sl23:Array (Option Value)} {oc23 kV23 dc23 pm23 cd23 ct23:Value}
  {f24:Addr} {od24 an24:Option Addr} {sl24:Array (Option Value)} {oc24 kV24 dc24 pm24 cd24 ct24:Value}
  {f25:Addr} {od25 an25:Option Addr} {sl25:Array (Option Value)} {oc25 kV25 dc25 pm25 cd25 ct25:Value}
  {f26:Addr} {od26 an26:Option Addr} {sl26:Array (Option Value)} {oc26 kV26 dc26 pm26 cd26 ct26:Value}
  {f27:Addr} {od27 an27:Option Addr} {sl27:Array (Option Value)} {oc27 kV27 dc27 pm27 cd27 ct27:Value}
  {f28:Addr} {od28 an28:Option Addr} {sl28:Array (Option Value)} {oc28 kV28 dc28 pm28 cd28 ct28:Value}
  {f29:Addr} {od29 an29:Option Addr} {sl29:Array (Option Value)} {oc29 kV29 dc29 pm29 cd29 ct29:Value}
  {f30:Addr} {od30 an30:Option Addr} {sl30:Array (Option Value)} {oc30 kV30 dc30 pm30 cd30 ct30:Value}
  {f31:Addr} {od31 an31:Option Addr} {sl31:Array (Option Value)} {oc31 kV31 dc31 pm31 cd31 ct31:Value}
  {f32:Addr} {od32 an32:Option Addr} {sl32:Array (Option Value)} {oc32 kV32 dc32 pm32 cd32 ct32:Value}
  {f33:Addr} {od33 an33:Option Addr} {sl33:Array (Option Value)} {oc33 kV33 dc33 pm33 cd33 ct33:Value}
  {f34:Addr} {od34 an34:Option Addr} {sl34:Array (Option Value)} {oc34 kV34 dc34 pm34 cd34 ct34:Value}
  {f35:Addr} {od35 an35:Option Addr} {sl35:Array (Option Value)} {oc35 kV35 dc35 pm35 cd35 ct35:Value}
  {f36:Addr} {od36 an36:Option Addr} {sl36:Array (Option Value)} {oc36 kV36 dc36 pm36 cd36 ct36:Value}
  {f37:Addr} {od37 an37:Option Addr} {sl37:Array (Option Value)} {oc37 kV37 dc37 pm37 cd37 ct37:Value}
  {f38:Addr} {od38 an38:Option Addr} {sl38:Array (Option Value)} {oc38 kV38 dc38 pm38 cd38 ct38:Value}
  {f39:Addr} {od39 an39:Option Addr} {sl39:Array (Option Value)} {oc39 kV39 dc39 pm39 cd39 ct39:Value}
  {f40:Addr} {od40 an40:Option Addr} {sl40:Array (Option Value)} {oc40 kV40 dc40 pm40 cd40 ct40:Value}
  {f41:Addr} {od41 an41:Option Addr} {sl41:Array (Option Value)} {oc41 kV41 dc41 pm41 cd41 ct41:Value}
  {f42:Addr} {od42 an42:Option Addr} {sl42:Array (Option Value)} {oc42 kV42 dc42 pm42 cd42 ct42:Value}
  {f43:Addr} {od43 an43:Option Addr} {sl43:Array (Option Value)} {oc43 kV43 dc43 pm43 cd43 ct43:Value}
  {f44:Addr} {od44 an44:Option Addr} {sl44:Array (Option Value)} {oc44 kV44 dc44 pm44 cd44 ct44:Value}
  {f45:Addr} {od45 an45:Option Addr} {sl45:Array (Option Value)} {oc45 kV45 dc45 pm45 cd45 ct45:Value}
  {f46:Addr} {od46 an46:Option Addr} {sl46:Array (Option Value)} {oc46 kV46 dc46 pm46 cd46 ct46:Value}
  {f47:Addr} {od47 an47:Option Addr} {sl47:Array (Option Value)} {oc47 kV47 dc47 pm47 cd47 ct47:Value}
  {f48:Addr} {od48 an48:Option Addr} {sl48:Array (Option Value)} {oc48 kV48 dc48 pm48 cd48 ct48:Value}
  {f49:Addr} {od49 an49:Option Addr} {sl49:Array (Option Value)} {oc49 kV49 dc49 pm49 cd49 ct49:Value}
  {f50:Addr} {od50 an50:Option Addr} {sl50:Array (Option Value)} {oc50 kV50 dc50 pm50 cd50 ct50:Value}
  {f51:Addr} {od51 an51:Option Addr} {sl51:Array (Option Value)} {oc51 kV51 dc51 pm51 cd51 ct51:Value}
  {f52:Addr} {od52 an52:Option Addr} {sl52:Array (Option Value)} {oc52 kV52 dc52 pm52 cd52 ct52:Value}
  {f53:Addr} {od53 an53:Option Addr} {sl53:Array (Option Value)} {oc53 kV53 dc53 pm53 cd53 ct53:Value}
  {f54:Addr} {od54 an54:Option Addr} {sl54:Array (Option Value)} {oc54 kV54 dc54 pm54 cd54 ct54:Value}
  {f55:Addr} {od55 an55:Option Addr} {sl55:Array (Option Value)} {oc55 kV55 dc55 pm55 cd55 ct55:Value}
  {f56:Addr} {od56 an56:Option Addr} {sl56:Array (Option Value)} {oc56 kV56 dc56 pm56 cd56 ct56:Value}
  {f57:Addr} {od57 an57:Option Addr} {sl57:Array (Option Value)} {oc57 kV57 dc57 pm57 cd57 ct57:Value}
  {f58:Addr} {od58 an58:Option Addr} {sl58:Array (Option Value)} {oc58 kV58 dc58 pm58 cd58 ct58:Value}
  {f59:Addr} {od59 an59:Option Addr} {sl59:Array (Option Value)} {oc59 kV59 dc59 pm59 cd59 ct59:Value}
  {f60:Addr} {od60 an60:Option Addr} {sl60:Array (Option Value)} {oc60 kV60 dc60 pm60 cd60 ct60:Value}
  {f61:Addr} {od61 an61:Option Addr} {sl61:Array (Option Value)} {oc61 kV61 dc61 pm61 cd61 ct61:Value}
  {f62:Addr} {od62 an62:Option Addr} {sl62:Array (Option Value)} {oc62 kV62 dc62 pm62 cd62 ct62:Value}
  {f63:Addr} {od63 an63:Option Addr} {sl63:Array (Option Value)} {oc63 kV63 dc63 pm63 cd63 ct63:Value}
  {f64:Addr} {od64 an64:Option Addr} {sl64:Array (Option Value)} {oc64 kV64 dc64 pm64 cd64 ct64:Value}
  {f65:Addr} {od65 an65:Option Addr} {sl65:Array (Option Value)} {oc65 kV65 dc65 pm65 cd65 ct65:Value}
  {f66:Addr} {od66 an66:Option Addr} {sl66:Array (Option Value)} {oc66 kV66 dc66 pm66 cd66 ct66:Value}
  {f67:Addr} {od67 an67:Option Addr} {sl67:Array (Option Value)} {oc67 kV67 dc67 pm67 cd67 ct67:Value}
  {f68:Addr} {od68 an68:Option Addr} {sl68:Array (Option Value)} {oc68 kV68 dc68 pm68 cd68 ct68:Value}
  {dW:Addr}
  {dU:Addr}
  {dR:Addr}
  {eE:Addr}
  {dZ:Addr}
  {dY:Addr}
  {gW:Addr}
  {d8:Addr}
  {dg:Addr}
  {cz:Addr}
  {dh:Addr}
  {bI:Addr}
  {cC:Addr}
  {bR:Addr}
  {dB:Addr}
  {bG:Addr}
  {bO:Addr}
  {u_VALUES:Value}
  {u_LETTERS:Value}
  {u_LONGEST_NAME:Value}
  {u_FIGURES:Value}
  {u_MOST_LANES:Value}
  {u_MOST_PARTS:Value}
  {u_MOST_ROOM:Value}
  {u_MOST_BOTTOM:Value}
  {mY:Addr}
  (aC_Give:PySem.W.nsIn K mainGlobals "Give" =some (some (.ref dW)))
  (pg_Give:PySem.W.plainGet K dW Str.empty=true)
  (hd_Give:PySem.W.hasDictIn K dW=true)
  (po_Give:PySem.W.plainOver K dW=true)
  (sa_Give:PySem.W.findIn K (.ref dW) "__setattr__" =some (some (.builtin "object.__setattr__")))
  (mk_Give:PySem.W.makesIn K dW=true)
  (kc_Give:PySem.W.keepIn K (.ref dW)=true)
  (fm_Give___init__:PySem.W.findIn K (.ref dW) "__init__" =some (some (.ref f5)))
  (fm_Give_kind:PySem.W.findIn K (.ref dW) "kind" =some (some (.ref f6)))
  (lH:PySem.W.findIn K (.ref dW) "name" =some none)
  (ie:PySem.W.findIn K (.ref dW) "numbers" =some none)
  (m8:PySem.W.findIn K (.ref dW) "ins" =some none)
  (lz:PySem.W.findIn K (.ref dW) "outs" =some none)
  (aC_Take:PySem.W.nsIn K mainGlobals "Take" =some (some (.ref dU)))
  (pg_Take:PySem.W.plainGet K dU Str.empty=true)
  (hd_Take:PySem.W.hasDictIn K dU=true)
  (po_Take:PySem.W.plainOver K dU=true)
  (sa_Take:PySem.W.findIn K (.ref dU) "__setattr__" =some (some (.builtin "object.__setattr__")))
  (mk_Take:PySem.W.makesIn K dU=true)
  (kc_Take:PySem.W.keepIn K (.ref dU)=true)
  (fm_Take___init__:PySem.W.findIn K (.ref dU) "__init__" =some (some (.ref f5)))
  (fm_Take_kind:PySem.W.findIn K (.ref dU) "kind" =some (some (.ref f7)))
  (lD:PySem.W.findIn K (.ref dU) "name" =some none)
  (gY:PySem.W.findIn K (.ref dU) "numbers" =some none)
  (mZ:PySem.W.findIn K (.ref dU) "ins" =some none)
  (lA:PySem.W.findIn K (.ref dU) "outs" =some none)
  (aC_Pass:PySem.W.nsIn K mainGlobals "Pass" =some (some (.ref dR)))
  (pg_Pass:PySem.W.plainGet K dR Str.empty=true)
  (hd_Pass:PySem.W.hasDictIn K dR=true)
  (po_Pass:PySem.W.plainOver K dR=true)
  (sa_Pass:PySem.W.findIn K (.ref dR) "__setattr__" =some (some (.builtin "object.__setattr__")))
  (mk_Pass:PySem.W.makesIn K dR=true)
  (kc_Pass:PySem.W.keepIn K (.ref dR)=true)
  (fm_Pass___init__:PySem.W.findIn K (.ref dR) "__init__" =some (some (.ref f5)))
  (fm_Pass_kind:PySem.W.findIn K (.ref dR) "kind" =some (some (.ref f8)))
  (lV:PySem.W.findIn K (.ref dR) "name" =some none)
  (gZ:PySem.W.findIn K (.ref dR) "numbers" =some none)
  (oh:PySem.W.findIn K (.ref dR) "ins" =some none)
  (lg:PySem.W.findIn K (.ref dR) "outs" =some none)
  (aC_Copy:PySem.W.nsIn K mainGlobals "Copy" =some (some (.ref eE)))
  (pg_Copy:PySem.W.plainGet K eE Str.empty=true)
  (hd_Copy:PySem.W.hasDictIn K eE=true)
  (po_Copy:PySem.W.plainOver K eE=true)
  (sa_Copy:PySem.W.findIn K (.ref eE) "__setattr__" =some (some (.builtin "object.__setattr__")))
  (mk_Copy:PySem.W.makesIn K eE=true)
  (kc_Copy:PySem.W.keepIn K (.ref eE)=true)
  (fm_Copy___init__:PySem.W.findIn K (.ref eE) "__init__" =some (some (.ref f5)))
  (fm_Copy_kind:PySem.W.findIn K (.ref eE) "kind" =some (some (.ref f9)))
  (lL:PySem.W.findIn K (.ref eE) "name" =some none)
  (ig:PySem.W.findIn K (.ref eE) "numbers" =some none)
  (nC:PySem.W.findIn K (.ref eE) "ins" =some none)
  (lJ:PySem.W.findIn K (.ref eE) "outs" =some none)
  (aC_Turn:PySem.W.nsIn K mainGlobals "Turn" =some (some (.ref dZ)))
  (pg_Turn:PySem.W.plainGet K dZ Str.empty=true)
  (hd_Turn:PySem.W.hasDictIn K dZ=true)
  (po_Turn:PySem.W.plainOver K dZ=true)
  (sa_Turn:PySem.W.findIn K (.ref dZ) "__setattr__" =some (some (.builtin "object.__setattr__")))
  (mk_Turn:PySem.W.makesIn K dZ=true)
  (kc_Turn:PySem.W.keepIn K (.ref dZ)=true)
  (fm_Turn___init__:PySem.W.findIn K (.ref dZ) "__init__" =some (some (.ref f5)))
  (fm_Turn_kind:PySem.W.findIn K (.ref dZ) "kind" =some (some (.ref f10)))
  (lM:PySem.W.findIn K (.ref dZ) "name" =some none)
  (ir:PySem.W.findIn K (.ref dZ) "numbers" =some none)
  (nU:PySem.W.findIn K (.ref dZ) "ins" =some none)
  (kW:PySem.W.findIn K (.ref dZ) "outs" =some none)
  (aC_Heap:PySem.W.nsIn K mainGlobals "Heap" =some (some (.ref dY)))
  (pg_Heap:PySem.W.plainGet K dY Str.empty=true)
  (hd_Heap:PySem.W.hasDictIn K dY=true)
  (po_Heap:PySem.W.plainOver K dY=true)
  (sa_Heap:PySem.W.findIn K (.ref dY) "__setattr__" =some (some (.builtin "object.__setattr__")))
  (mk_Heap:PySem.W.makesIn K dY=true)
  (kc_Heap:PySem.W.keepIn K (.ref dY)=true)
  (fm_Heap___init__:PySem.W.findIn K (.ref dY) "__init__" =some (some (.ref f5)))
  (fm_Heap_kind:PySem.W.findIn K (.ref dY) "kind" =some (some (.ref f11)))
  (kY:PySem.W.findIn K (.ref dY) "name" =some none)
  (iu:PySem.W.findIn K (.ref dY) "numbers" =some none)
  (m5:PySem.W.findIn K (.ref dY) "ins" =some none)
  (lU:PySem.W.findIn K (.ref dY) "outs" =some none)
  (aC_Add:PySem.W.nsIn K mainGlobals "Add" =some (some (.ref gW)))
  (pg_Add:PySem.W.plainGet K gW Str.empty=true)
  (hd_Add:PySem.W.hasDictIn K gW=true)
  (po_Add:PySem.W.plainOver K gW=true)
  (sa_Add:PySem.W.findIn K (.ref gW) "__setattr__" =some (some (.builtin "object.__setattr__")))
  (mk_Add:PySem.W.makesIn K gW=true)
  (kc_Add:PySem.W.keepIn K (.ref gW)=true)
  (fm_Add___init__:PySem.W.findIn K (.ref gW) "__init__" =some (some (.ref f5)))
  (fm_Add_kind:PySem.W.findIn K (.ref gW) "kind" =some (some (.ref f12)))
  (nZ:PySem.W.findIn K (.ref gW) "name" =some none)
  (jj:PySem.W.findIn K (.ref gW) "numbers" =some none)
  (pR:PySem.W.findIn K (.ref gW) "ins" =some none)
  (nQ:PySem.W.findIn K (.ref gW) "outs" =some none)
  (aC_Less:PySem.W.nsIn K mainGlobals "Less" =some (some (.ref d8)))
  (pg_Less:PySem.W.plainGet K d8 Str.empty=true)
  (hd_Less:PySem.W.hasDictIn K d8=true)
  (po_Less:PySem.W.plainOver K d8=true)
  (sa_Less:PySem.W.findIn K (.ref d8) "__setattr__" =some (some (.builtin "object.__setattr__")))
  (mk_Less:PySem.W.makesIn K d8=true)
  (kc_Less:PySem.W.keepIn K (.ref d8)=true)
  (fm_Less___init__:PySem.W.findIn K (.ref d8) "__init__" =some (some (.ref f5)))
  (fm_Less_kind:PySem.W.findIn K (.ref d8) "kind" =some (some (.ref f13)))
  (lu:PySem.W.findIn K (.ref d8) "name" =some none)
  (il:PySem.W.findIn K (.ref d8) "numbers" =some none)
  (m7:PySem.W.findIn K (.ref d8) "ins" =some none)
  (lC:PySem.W.findIn K (.ref d8) "outs" =some none)
  (aC_Order:PySem.W.nsIn K mainGlobals "Order" =some (some (.ref dg)))
  (pg_Order:PySem.W.plainGet K dg Str.empty=true)
  (hd_Order:PySem.W.hasDictIn K dg=true)
  (po_Order:PySem.W.plainOver K dg=true)
  (sa_Order:PySem.W.findIn K (.ref dg) "__setattr__" =some (some (.builtin "object.__setattr__")))
  (mk_Order:PySem.W.makesIn K dg=true)
  (kc_Order:PySem.W.keepIn K (.ref dg)=true)
  (fm_Order___init__:PySem.W.findIn K (.ref dg) "__init__" =some (some (.ref f5)))
  (fm_Order_kind:PySem.W.findIn K (.ref dg) "kind" =some (some (.ref f14)))
  (jG:PySem.W.findIn K (.ref dg) "name" =some none)
  (gB:PySem.W.findIn K (.ref dg) "numbers" =some none)
  (lN:PySem.W.findIn K (.ref dg) "ins" =some none)
  (jD:PySem.W.findIn K (.ref dg) "outs" =some none)
  (aC_Choose:PySem.W.nsIn K mainGlobals "Choose" =some (some (.ref cz)))
  (pg_Choose:PySem.W.plainGet K cz Str.empty=true)
  (hd_Choose:PySem.W.hasDictIn K cz=true)
  (po_Choose:PySem.W.plainOver K cz=true)
  (sa_Choose:PySem.W.findIn K (.ref cz) "__setattr__" =some (some (.builtin "object.__setattr__")))
  (mk_Choose:PySem.W.makesIn K cz=true)
  (kc_Choose:PySem.W.keepIn K (.ref cz)=true)
  (fm_Choose___init__:PySem.W.findIn K (.ref cz) "__init__" =some (some (.ref f5)))
  (fm_Choose_kind:PySem.W.findIn K (.ref cz) "kind" =some (some (.ref f15)))
  (jc:PySem.W.findIn K (.ref cz) "name" =some none)
  (fM:PySem.W.findIn K (.ref cz) "numbers" =some none)
  (jH:PySem.W.findIn K (.ref cz) "ins" =some none)
  (iZ:PySem.W.findIn K (.ref cz) "outs" =some none)
  (aC_Split:PySem.W.nsIn K mainGlobals "Split" =some (some (.ref dh)))
  (pg_Split:PySem.W.plainGet K dh Str.empty=true)
  (hd_Split:PySem.W.hasDictIn K dh=true)
  (po_Split:PySem.W.plainOver K dh=true)
  (sa_Split:PySem.W.findIn K (.ref dh) "__setattr__" =some (some (.builtin "object.__setattr__")))
  (mk_Split:PySem.W.makesIn K dh=true)
  (kc_Split:PySem.W.keepIn K (.ref dh)=true)
  (fm_Split___init__:PySem.W.findIn K (.ref dh) "__init__" =some (some (.ref f5)))
  (fm_Split_kind:PySem.W.findIn K (.ref dh) "kind" =some (some (.ref f16)))
  (jE:PySem.W.findIn K (.ref dh) "name" =some none)
  (gq:PySem.W.findIn K (.ref dh) "numbers" =some none)
  (lQ:PySem.W.findIn K (.ref dh) "ins" =some none)
  (jF:PySem.W.findIn K (.ref dh) "outs" =some none)
  (aC_Net:PySem.W.nsIn K mainGlobals "Net" =some (some (.ref bI)))
  (pg_Net:PySem.W.plainGet K bI Str.empty=true)
  (hd_Net:PySem.W.hasDictIn K bI=true)
  (po_Net:PySem.W.plainOver K bI=true)
  (sa_Net:PySem.W.findIn K (.ref bI) "__setattr__" =some (some (.builtin "object.__setattr__")))
  (mk_Net:PySem.W.makesIn K bI=true)
  (kc_Net:PySem.W.keepIn K (.ref bI)=true)
  (fm_Net___init__:PySem.W.findIn K (.ref bI) "__init__" =some (some (.ref f52)))
  (fm_Net_lane_names:PySem.W.findIn K (.ref bI) "lane_names" =some (some (.ref f42)))
  (fm_Net_part_names:PySem.W.findIn K (.ref bI) "part_names" =some (some (.ref f43)))
  (fm_Net_odd:PySem.W.findIn K (.ref bI) "odd" =some (some (.ref f49)))
  (fm_Net_need_lane_name:PySem.W.findIn K (.ref bI) "need_lane_name" =some (some (.ref f44)))
  (fm_Net_room_of:PySem.W.findIn K (.ref bI) "room_of" =some (some (.ref f45)))
  (fm_Net_first_of:PySem.W.findIn K (.ref bI) "first_of" =some (some (.ref f46)))
  (fm_Net_giver_of:PySem.W.findIn K (.ref bI) "giver_of" =some (some (.ref f47)))
  (fm_Net_taker_of:PySem.W.findIn K (.ref bI) "taker_of" =some (some (.ref f48)))
  (fm_Net_told:PySem.W.findIn K (.ref bI) "told" =some (some (.ref f51)))
  (cG:PySem.W.findIn K (.ref bI) "rooms" =some none)
  (eU:PySem.W.findIn K (.ref bI) "firsts" =some none)
  (cT:PySem.W.findIn K (.ref bI) "parts" =some none)
  (dJ:PySem.W.findIn K (.ref bI) "givers" =some none)
  (dM:PySem.W.findIn K (.ref bI) "takers" =some none)
  (pc_LaneError:PySem.W.nsIn K mainGlobals "LaneError" =some (some (.ref cC)))
  (pc_BadWord:PySem.W.nsIn K mainGlobals "BadWord" =some (some (.ref bR)))
  (pc_NoSuch:PySem.W.nsIn K mainGlobals "NoSuch" =some (some (.ref dB)))
  (pc_NotCalm:PySem.W.nsIn K mainGlobals "NotCalm" =some (some (.ref bG)))
  (pc_TooFast:PySem.W.nsIn K mainGlobals "TooFast" =some (some (.ref bO)))
  (fi_NoSuch:PySem.W.findIn K (.ref dB) "__init__" =some (some (.ref f0)))
  (fi_NotCalm:PySem.W.findIn K (.ref bG) "__init__" =some (some (.ref f1)))
  (fi_TooFast:PySem.W.findIn K (.ref bO) "__init__" =some (some (.ref f2)))
  (i0:PySem.W.isFn K (.ref f0)=true)
  (l0:K.lookup f0=some ⟨oc0,od0,.func (PySem.W.fnOf "__init__" "NoSuch.__init__" (aU dO) (aR dO) (aA dO) .none kV0 dc0 pm0 an0 cd0 ct0),sl0⟩)
  (c0:PySem.W.codeIn K cd0 "NoSuch.__init__" =true)
  (k0:PySem.W.keepIn K (.ref f0)=true)
  (i1:PySem.W.isFn K (.ref f1)=true)
  (l1:K.lookup f1=some ⟨oc1,od1,.func (PySem.W.fnOf "__init__" "NotCalm.__init__" (aU dI) (aR dI) (aA dI) .none kV1 dc1 pm1 an1 cd1 ct1),sl1⟩)
  (c1:PySem.W.codeIn K cd1 "NotCalm.__init__" =true)
  (k1:PySem.W.keepIn K (.ref f1)=true)
  (i2:PySem.W.isFn K (.ref f2)=true)
  (l2:K.lookup f2=some ⟨oc2,od2,.func (PySem.W.fnOf "__init__" "TooFast.__init__" (aU dH) (aR dH) (aA dH) .none kV2 dc2 pm2 an2 cd2 ct2),sl2⟩)
  (c2:PySem.W.codeIn K cd2 "TooFast.__init__" =true)
  (k2:PySem.W.keepIn K (.ref f2)=true)
  (a3:PySem.W.nsIn K mainGlobals "is_whole" =some (some (.ref f3)))
  (l3:K.lookup f3=some ⟨oc3,od3,.func (PySem.W.fnOf "is_whole" "is_whole" (aU mQ) (aR mQ) (aA mQ) .none kV3 dc3 pm3 an3 cd3 ct3),sl3⟩)
  (c3:PySem.W.codeIn K cd3 "is_whole" =true)
  (k3:PySem.W.keepIn K (.ref f3)=true)
  (a4:PySem.W.nsIn K mainGlobals "is_value" =some (some (.ref f4)))
  (l4:K.lookup f4=some ⟨oc4,od4,.func (PySem.W.fnOf "is_value" "is_value" (aU mJ) (aR mJ) (aA mJ) .none kV4 dc4 pm4 an4 cd4 ct4),sl4⟩)
  (c4:PySem.W.codeIn K cd4 "is_value" =true)
  (k4:PySem.W.keepIn K (.ref f4)=true)
  (i5:PySem.W.isFn K (.ref f5)=true)
  (l5:K.lookup f5=some ⟨oc5,od5,.func (PySem.W.fnOf "__init__" "Part.__init__" (aU fK) (aR fK) (aA fK) .none kV5 dc5 pm5 an5 cd5 ct5),sl5⟩)
  (c5:PySem.W.codeIn K cd5 "Part.__init__" =true)
  (k5:PySem.W.keepIn K (.ref f5)=true)
  (i6:PySem.W.isFn K (.ref f6)=true)
  (l6:K.lookup f6=some ⟨oc6,od6,.func (PySem.W.fnOf "kind" "Give.kind" (aU jY) (aR jY) (aA jY) .none kV6 dc6 pm6 an6 cd6 ct6),sl6⟩)
  (c6:PySem.W.codeIn K cd6 "Give.kind" =true)
  (k6:PySem.W.keepIn K (.ref f6)=true)
  (i7:PySem.W.isFn K (.ref f7)=true)
  (l7:K.lookup f7=some ⟨oc7,od7,.func (PySem.W.fnOf "kind" "Take.kind" (aU j4) (aR j4) (aA j4) .none kV7 dc7 pm7 an7 cd7 ct7),sl7⟩)
  (c7:PySem.W.codeIn K cd7 "Take.kind" =true)
  (k7:PySem.W.keepIn K (.ref f7)=true)
  (i8:PySem.W.isFn K (.ref f8)=true)
  (l8:K.lookup f8=some ⟨oc8,od8,.func (PySem.W.fnOf "kind" "Pass.kind" (aU kJ) (aR kJ) (aA kJ) .none kV8 dc8 pm8 an8 cd8 ct8),sl8⟩)
  (c8:PySem.W.codeIn K cd8 "Pass.kind" =true)
  (k8:PySem.W.keepIn K (.ref f8)=true)
  (i9:PySem.W.isFn K (.ref f9)=true)
  (l9:K.lookup f9=some ⟨oc9,od9,.func (PySem.W.fnOf "kind" "Copy.kind" (aU km) (aR km) (aA km) .none kV9 dc9 pm9 an9 cd9 ct9),sl9⟩)
  (c9:PySem.W.codeIn K cd9 "Copy.kind" =true)
  (k9:PySem.W.keepIn K (.ref f9)=true)
  (i10:PySem.W.isFn K (.ref f10)=true)
  (l10:K.lookup f10=some ⟨oc10,od10,.func (PySem.W.fnOf "kind" "Turn.kind" (aU j6) (aR j6) (aA j6) .none kV10 dc10 pm10 an10 cd10 ct10),sl10⟩)
  (c10:PySem.W.codeIn K cd10 "Turn.kind" =true)
  (k10:PySem.W.keepIn K (.ref f10)=true)
  (i11:PySem.W.isFn K (.ref f11)=true)
  (l11:K.lookup f11=some ⟨oc11,od11,.func (PySem.W.fnOf "kind" "Heap.kind" (aU j7) (aR j7) (aA j7) .none kV11 dc11 pm11 an11 cd11 ct11),sl11⟩)
  (c11:PySem.W.codeIn K cd11 "Heap.kind" =true)
  (k11:PySem.W.keepIn K (.ref f11)=true)
  (i12:PySem.W.isFn K (.ref f12)=true)
  (l12:K.lookup f12=some ⟨oc12,od12,.func (PySem.W.fnOf "kind" "Add.kind" (aU mz) (aR mz) (aA mz) .none kV12 dc12 pm12 an12 cd12 ct12),sl12⟩)
  (c12:PySem.W.codeIn K cd12 "Add.kind" =true)
  (k12:PySem.W.keepIn K (.ref f12)=true)
  (i13:PySem.W.isFn K (.ref f13)=true)
  (l13:K.lookup f13=some ⟨oc13,od13,.func (PySem.W.fnOf "kind" "Less.kind" (aU kj) (aR kj) (aA kj) .none kV13 dc13 pm13 an13 cd13 ct13),sl13⟩)
  (c13:PySem.W.codeIn K cd13 "Less.kind" =true)
  (k13:PySem.W.keepIn K (.ref f13)=true)
  (i14:PySem.W.isFn K (.ref f14)=true)
  (l14:K.lookup f14=some ⟨oc14,od14,.func (PySem.W.fnOf "kind" "Order.kind" (aU jl) (aR jl) (aA jl) .none kV14 dc14 pm14 an14 cd14 ct14),sl14⟩)
  (c14:PySem.W.codeIn K cd14 "Order.kind" =true)
  (k14:PySem.W.keepIn K (.ref f14)=true)
  (i15:PySem.W.isFn K (.ref f15)=true)
  (l15:K.lookup f15=some ⟨oc15,od15,.func (PySem.W.fnOf "kind" "Choose.kind" (aU iI) (aR iI) (aA iI) .none kV15 dc15 pm15 an15 cd15 ct15),sl15⟩)
  (c15:PySem.W.codeIn K cd15 "Choose.kind" =true)
  (k15:PySem.W.keepIn K (.ref f15)=true)
  (i16:PySem.W.isFn K (.ref f16)=true)
  (l16:K.lookup f16=some ⟨oc16,od16,.func (PySem.W.fnOf "kind" "Split.kind" (aU jq) (aR jq) (aA jq) .none kV16 dc16 pm16 an16 cd16 ct16),sl16⟩)
  (c16:PySem.W.codeIn K cd16 "Split.kind" =true)
  (k16:PySem.W.keepIn K (.ref f16)=true)
  (a17:PySem.W.nsIn K mainGlobals "is_kind" =some (some (.ref f17)))
  (l17:K.lookup f17=some ⟨oc17,od17,.func (PySem.W.fnOf "is_kind" "is_kind" (aU pF) (aR pF) (aA pF) .none kV17 dc17 pm17 an17 cd17 ct17),sl17⟩)
  (c17:PySem.W.codeIn K cd17 "is_kind" =true)
  (k17:PySem.W.keepIn K (.ref f17)=true)
  (a18:PySem.W.nsIn K mainGlobals "need_fit" =some (some (.ref f18)))
  (l18:K.lookup f18=some ⟨oc18,od18,.func (PySem.W.fnOf "need_fit" "need_fit" (aU jT) (aR jT) (aA jT) .none kV18 dc18 pm18 an18 cd18 ct18),sl18⟩)
  (c18:PySem.W.codeIn K cd18 "need_fit" =true)
  (k18:PySem.W.keepIn K (.ref f18)=true)
  (a19:PySem.W.nsIn K mainGlobals "made_of" =some (some (.ref f19)))
  (l19:K.lookup f19=some ⟨oc19,od19,.func (PySem.W.fnOf "made_of" "made_of" (aU pA) (aR pA) (aA pA) .none kV19 dc19 pm19 an19 cd19 ct19),sl19⟩)
  (c19:PySem.W.codeIn K cd19 "made_of" =true)
  (k19:PySem.W.keepIn K (.ref f19)=true)
  (a20:PySem.W.nsIn K mainGlobals "part_made" =some (some (.ref f20)))
  (l20:K.lookup f20=some ⟨oc20,od20,.func (PySem.W.fnOf "part_made" "part_made" (aU kh) (aR kh) (aA kh) .none kV20 dc20 pm20 an20 cd20 ct20),sl20⟩)
  (c20:PySem.W.codeIn K cd20 "part_made" =true)
  (k20:PySem.W.keepIn K (.ref f20)=true)
  (a21:PySem.W.nsIn K mainGlobals "_law_mix" =some (some (.ref f21)))
  (l21:K.lookup f21=some ⟨oc21,od21,.func (PySem.W.fnOf "_law_mix" "_law_mix" (aU mC) (aR mC) (aA mC) .none kV21 dc21 pm21 an21 cd21 ct21),sl21⟩)
  (c21:PySem.W.codeIn K cd21 "_law_mix" =true)
  (k21:PySem.W.keepIn K (.ref f21)=true)
  (a22:PySem.W.nsIn K mainGlobals "_law_cell" =some (some (.ref f22)))
  (l22:K.lookup f22=some ⟨oc22,od22,.func (PySem.W.fnOf "_law_cell" "_law_cell" (aU jW) (aR jW) (aA jW) .none kV22 dc22 pm22 an22 cd22 ct22),sl22⟩)
  (c22:PySem.W.codeIn K cd22 "_law_cell" =true)
  (k22:PySem.W.keepIn K (.ref f22)=true)
  (a23:PySem.W.nsIn K mainGlobals "_law_value" =some (some (.ref f23)))
  (l23:K.lookup f23=some ⟨oc23,od23,.func (PySem.W.fnOf "_law_value" "_law_value" (aU jn) (aR jn) (aA jn) .none kV23 dc23 pm23 an23 cd23 ct23),sl23⟩)
  (c23:PySem.W.codeIn K cd23 "_law_value" =true)
  (k23:PySem.W.keepIn K (.ref f23)=true)
  (a24:PySem.W.nsIn K mainGlobals "_law_word" =some (some (.ref f24)))
  (l24:K.lookup f24=some ⟨oc24,od24,.func (PySem.W.fnOf "_law_word" "_law_word" (aU jf) (aR jf) (aA jf) .none kV24 dc24 pm24 an24 cd24 ct24),sl24⟩)
  (c24:PySem.W.codeIn K cd24 "_law_word" =true)
  (k24:PySem.W.keepIn K (.ref f24)=true)
  (a25:PySem.W.nsIn K mainGlobals "_law_lane" =some (some (.ref f25)))
  (l25:K.lookup f25=some ⟨oc25,od25,.func (PySem.W.fnOf "_law_lane" "_law_lane" (aU iU) (aR iU) (aA iU) .none kV25 dc25 pm25 an25 cd25 ct25),sl25⟩)
  (c25:PySem.W.codeIn K cd25 "_law_lane" =true)
  (k25:PySem.W.keepIn K (.ref f25)=true)
  (a26:PySem.W.nsIn K mainGlobals "_law_pick" =some (some (.ref f26)))
  (l26:K.lookup f26=some ⟨oc26,od26,.func (PySem.W.fnOf "_law_pick" "_law_pick" (aU kI) (aR kI) (aA kI) .none kV26 dc26 pm26 an26 cd26 ct26),sl26⟩)
  (c26:PySem.W.codeIn K cd26 "_law_pick" =true)
  (k26:PySem.W.keepIn K (.ref f26)=true)
  (a27:PySem.W.nsIn K mainGlobals "_law_part" =some (some (.ref f27)))
  (l27:K.lookup f27=some ⟨oc27,od27,.func (PySem.W.fnOf "_law_part" "_law_part" (aU je) (aR je) (aA je) .none kV27 dc27 pm27 an27 cd27 ct27),sl27⟩)
  (c27:PySem.W.codeIn K cd27 "_law_part" =true)
  (k27:PySem.W.keepIn K (.ref f27)=true)
  (a28:PySem.W.nsIn K mainGlobals "_law_two" =some (some (.ref f28)))
  (l28:K.lookup f28=some ⟨oc28,od28,.func (PySem.W.fnOf "_law_two" "_law_two" (aU mD) (aR mD) (aA mD) .none kV28 dc28 pm28 an28 cd28 ct28),sl28⟩)
  (c28:PySem.W.codeIn K cd28 "_law_two" =true)
  (k28:PySem.W.keepIn K (.ref f28)=true)
  (a29:PySem.W.nsIn K mainGlobals "_law_loop" =some (some (.ref f29)))
  (l29:K.lookup f29=some ⟨oc29,od29,.func (PySem.W.fnOf "_law_loop" "_law_loop" (aU j9) (aR j9) (aA j9) .none kV29 dc29 pm29 an29 cd29 ct29),sl29⟩)
  (c29:PySem.W.codeIn K cd29 "_law_loop" =true)
  (k29:PySem.W.keepIn K (.ref f29)=true)
  (a30:PySem.W.nsIn K mainGlobals "_law_step" =some (some (.ref f30)))
  (l30:K.lookup f30=some ⟨oc30,od30,.func (PySem.W.fnOf "_law_step" "_law_step" (aU jV) (aR jV) (aA jV) .none kV30 dc30 pm30 an30 cd30 ct30),sl30⟩)
  (c30:PySem.W.codeIn K cd30 "_law_step" =true)
  (k30:PySem.W.keepIn K (.ref f30)=true)
  (a31:PySem.W.nsIn K mainGlobals "_law_closed" =some (some (.ref f31)))
  (l31:K.lookup f31=some ⟨oc31,od31,.func (PySem.W.fnOf "_law_closed" "_law_closed" (aU iJ) (aR iJ) (aA iJ) .none kV31 dc31 pm31 an31 cd31 ct31),sl31⟩)
  (c31:PySem.W.codeIn K cd31 "_law_closed" =true)
  (k31:PySem.W.keepIn K (.ref f31)=true)
  (a32:PySem.W.nsIn K mainGlobals "_law_net" =some (some (.ref f32)))
  (l32:K.lookup f32=some ⟨oc32,od32,.func (PySem.W.fnOf "_law_net" "_law_net" (aU jR) (aR jR) (aA jR) .none kV32 dc32 pm32 an32 cd32 ct32),sl32⟩)
  (c32:PySem.W.codeIn K cd32 "_law_net" =true)
  (k32:PySem.W.keepIn K (.ref f32)=true)
  (a33:PySem.W.nsIn K mainGlobals "is_name" =some (some (.ref f33)))
  (l33:K.lookup f33=some ⟨oc33,od33,.func (PySem.W.fnOf "is_name" "is_name" (aU my) (aR my) (aA my) .none kV33 dc33 pm33 an33 cd33 ct33),sl33⟩)
  (c33:PySem.W.codeIn K cd33 "is_name" =true)
  (k33:PySem.W.keepIn K (.ref f33)=true)
  (a34:PySem.W.nsIn K mainGlobals "need_counts" =some (some (.ref f34)))
  (l34:K.lookup f34=some ⟨oc34,od34,.func (PySem.W.fnOf "need_counts" "need_counts" (aU iC) (aR iC) (aA iC) .none kV34 dc34 pm34 an34 cd34 ct34),sl34⟩)
  (c34:PySem.W.codeIn K cd34 "need_counts" =true)
  (k34:PySem.W.keepIn K (.ref f34)=true)
  (a35:PySem.W.nsIn K mainGlobals "need_fresh" =some (some (.ref f35)))
  (l35:K.lookup f35=some ⟨oc35,od35,.func (PySem.W.fnOf "need_fresh" "need_fresh" (aU jo) (aR jo) (aA jo) .none kV35 dc35 pm35 an35 cd35 ct35),sl35⟩)
  (c35:PySem.W.codeIn K cd35 "need_fresh" =true)
  (k35:PySem.W.keepIn K (.ref f35)=true)
  (a36:PySem.W.nsIn K mainGlobals "need_lane" =some (some (.ref f36)))
  (l36:K.lookup f36=some ⟨oc36,od36,.func (PySem.W.fnOf "need_lane" "need_lane" (aU iV) (aR iV) (aA iV) .none kV36 dc36 pm36 an36 cd36 ct36),sl36⟩)
  (c36:PySem.W.codeIn K cd36 "need_lane" =true)
  (k36:PySem.W.keepIn K (.ref f36)=true)
  (a37:PySem.W.nsIn K mainGlobals "fresh_part" =some (some (.ref f37)))
  (l37:K.lookup f37=some ⟨oc37,od37,.func (PySem.W.fnOf "fresh_part" "fresh_part" (aU jm) (aR jm) (aA jm) .none kV37 dc37 pm37 an37 cd37 ct37),sl37⟩)
  (c37:PySem.W.codeIn K cd37 "fresh_part" =true)
  (k37:PySem.W.keepIn K (.ref f37)=true)
  (a38:PySem.W.nsIn K mainGlobals "tie_lanes" =some (some (.ref f38)))
  (l38:K.lookup f38=some ⟨oc38,od38,.func (PySem.W.fnOf "tie_lanes" "tie_lanes" (aU j8) (aR j8) (aA j8) .none kV38 dc38 pm38 an38 cd38 ct38),sl38⟩)
  (c38:PySem.W.codeIn K cd38 "tie_lanes" =true)
  (k38:PySem.W.keepIn K (.ref f38)=true)
  (a39:PySem.W.nsIn K mainGlobals "need_ends" =some (some (.ref f39)))
  (l39:K.lookup f39=some ⟨oc39,od39,.func (PySem.W.fnOf "need_ends" "need_ends" (aU j5) (aR j5) (aA j5) .none kV39 dc39 pm39 an39 cd39 ct39),sl39⟩)
  (c39:PySem.W.codeIn K cd39 "need_ends" =true)
  (k39:PySem.W.keepIn K (.ref f39)=true)
  (a40:PySem.W.nsIn K mainGlobals "joined_with" =some (some (.ref f40)))
  (l40:K.lookup f40=some ⟨oc40,od40,.func (PySem.W.fnOf "joined_with" "joined_with" (aU iy) (aR iy) (aA iy) .none kV40 dc40 pm40 an40 cd40 ct40),sl40⟩)
  (c40:PySem.W.codeIn K cd40 "joined_with" =true)
  (k40:PySem.W.keepIn K (.ref f40)=true)
  (a41:PySem.W.nsIn K mainGlobals "need_joined" =some (some (.ref f41)))
  (l41:K.lookup f41=some ⟨oc41,od41,.func (PySem.W.fnOf "need_joined" "need_joined" (aU iB) (aR iB) (aA iB) .none kV41 dc41 pm41 an41 cd41 ct41),sl41⟩)
  (c41:PySem.W.codeIn K cd41 "need_joined" =true)
  (k41:PySem.W.keepIn K (.ref f41)=true)
  (i42:PySem.W.isFn K (.ref f42)=true)
  (l42:K.lookup f42=some ⟨oc42,od42,.func (PySem.W.fnOf "lane_names" "Net.lane_names" (aU eY) (aR eY) (aA eY) .none kV42 dc42 pm42 an42 cd42 ct42),sl42⟩)
  (c42:PySem.W.codeIn K cd42 "Net.lane_names" =true)
  (k42:PySem.W.keepIn K (.ref f42)=true)
  (i43:PySem.W.isFn K (.ref f43)=true)
  (l43:K.lookup f43=some ⟨oc43,od43,.func (PySem.W.fnOf "part_names" "Net.part_names" (aU fc) (aR fc) (aA fc) .none kV43 dc43 pm43 an43 cd43 ct43),sl43⟩)
  (c43:PySem.W.codeIn K cd43 "Net.part_names" =true)
  (k43:PySem.W.keepIn K (.ref f43)=true)
  (i44:PySem.W.isFn K (.ref f44)=true)
  (l44:K.lookup f44=some ⟨oc44,od44,.func (PySem.W.fnOf "need_lane_name" "Net.need_lane_name" (aU dw) (aR dw) (aA dw) .none kV44 dc44 pm44 an44 cd44 ct44),sl44⟩)
  (c44:PySem.W.codeIn K cd44 "Net.need_lane_name" =true)
  (k44:PySem.W.keepIn K (.ref f44)=true)
  (i45:PySem.W.isFn K (.ref f45)=true)
  (l45:K.lookup f45=some ⟨oc45,od45,.func (PySem.W.fnOf "room_of" "Net.room_of" (aU iK) (aR iK) (aA iK) .none kV45 dc45 pm45 an45 cd45 ct45),sl45⟩)
  (c45:PySem.W.codeIn K cd45 "Net.room_of" =true)
  (k45:PySem.W.keepIn K (.ref f45)=true)
  (i46:PySem.W.isFn K (.ref f46)=true)
  (l46:K.lookup f46=some ⟨oc46,od46,.func (PySem.W.fnOf "first_of" "Net.first_of" (aU gA) (aR gA) (aA gA) .none kV46 dc46 pm46 an46 cd46 ct46),sl46⟩)
  (c46:PySem.W.codeIn K cd46 "Net.first_of" =true)
  (k46:PySem.W.keepIn K (.ref f46)=true)
  (i47:PySem.W.isFn K (.ref f47)=true)
  (l47:K.lookup f47=some ⟨oc47,od47,.func (PySem.W.fnOf "giver_of" "Net.giver_of" (aU gm) (aR gm) (aA gm) .none kV47 dc47 pm47 an47 cd47 ct47),sl47⟩)
  (c47:PySem.W.codeIn K cd47 "Net.giver_of" =true)
  (k47:PySem.W.keepIn K (.ref f47)=true)
  (i48:PySem.W.isFn K (.ref f48)=true)
  (l48:K.lookup f48=some ⟨oc48,od48,.func (PySem.W.fnOf "taker_of" "Net.taker_of" (aU gw) (aR gw) (aA gw) .none kV48 dc48 pm48 an48 cd48 ct48),sl48⟩)
  (c48:PySem.W.codeIn K cd48 "Net.taker_of" =true)
  (k48:PySem.W.keepIn K (.ref f48)=true)
  (i49:PySem.W.isFn K (.ref f49)=true)
  (l49:K.lookup f49=some ⟨oc49,od49,.func (PySem.W.fnOf "odd" "Net.odd" (aU pB) (aR pB) (aA pB) .none kV49 dc49 pm49 an49 cd49 ct49),sl49⟩)
  (c49:PySem.W.codeIn K cd49 "Net.odd" =true)
  (k49:PySem.W.keepIn K (.ref f49)=true)
  (a50:PySem.W.nsIn K mainGlobals "row_of" =some (some (.ref f50)))
  (l50:K.lookup f50=some ⟨oc50,od50,.func (PySem.W.fnOf "row_of" "row_of" (aU rR) (aR rR) (aA rR) .none kV50 dc50 pm50 an50 cd50 ct50),sl50⟩)
  (c50:PySem.W.codeIn K cd50 "row_of" =true)
  (k50:PySem.W.keepIn K (.ref f50)=true)
  (i51:PySem.W.isFn K (.ref f51)=true)
  (l51:K.lookup f51=some ⟨oc51,od51,.func (PySem.W.fnOf "told" "Net.told" (aU iW) (aR iW) (aA iW) .none kV51 dc51 pm51 an51 cd51 ct51),sl51⟩)
  (c51:PySem.W.codeIn K cd51 "Net.told" =true)
  (k51:PySem.W.keepIn K (.ref f51)=true)
  (i52:PySem.W.isFn K (.ref f52)=true)
  (l52:K.lookup f52=some ⟨oc52,od52,.func (PySem.W.fnOf "__init__" "Net.__init__" (aU gG) (aR gG) (aA gG) .none kV52 dc52 pm52 an52 cd52 ct52),sl52⟩)
  (c52:PySem.W.codeIn K cd52 "Net.__init__" =true)
  (k52:PySem.W.keepIn K (.ref f52)=true)
  (a53:PySem.W.nsIn K mainGlobals "arcs_of_lane" =some (some (.ref f53)))
  (l53:K.lookup f53=some ⟨oc53,od53,.func (PySem.W.fnOf "arcs_of_lane" "arcs_of_lane" (aU gH) (aR gH) (aA gH) .none kV53 dc53 pm53 an53 cd53 ct53),sl53⟩)
  (c53:PySem.W.codeIn K cd53 "arcs_of_lane" =true)
  (k53:PySem.W.keepIn K (.ref f53)=true)
  (a54:PySem.W.nsIn K mainGlobals "arcs_of" =some (some (.ref f54)))
  (l54:K.lookup f54=some ⟨oc54,od54,.func (PySem.W.fnOf "arcs_of" "arcs_of" (aU mO) (aR mO) (aA mO) .none kV54 dc54 pm54 an54 cd54 ct54),sl54⟩)
  (c54:PySem.W.codeIn K cd54 "arcs_of" =true)
  (k54:PySem.W.keepIn K (.ref f54)=true)
  (a55:PySem.W.nsIn K mainGlobals "gone_round" =some (some (.ref f55)))
  (l55:K.lookup f55=some ⟨oc55,od55,.func (PySem.W.fnOf "gone_round" "gone_round" (aU jr) (aR jr) (aA jr) .none kV55 dc55 pm55 an55 cd55 ct55),sl55⟩)
  (c55:PySem.W.codeIn K cd55 "gone_round" =true)
  (k55:PySem.W.keepIn K (.ref f55)=true)
  (a56:PySem.W.nsIn K mainGlobals "ring_into" =some (some (.ref f56)))
  (l56:K.lookup f56=some ⟨oc56,od56,.func (PySem.W.fnOf "ring_into" "ring_into" (aU iY) (aR iY) (aA iY) .none kV56 dc56 pm56 an56 cd56 ct56),sl56⟩)
  (c56:PySem.W.codeIn K cd56 "ring_into" =true)
  (k56:PySem.W.keepIn K (.ref f56)=true)
  (a57:PySem.W.nsIn K mainGlobals "grow_times" =some (some (.ref f57)))
  (l57:K.lookup f57=some ⟨oc57,od57,.func (PySem.W.fnOf "grow_times" "grow_times" (aU jw) (aR jw) (aA jw) .none kV57 dc57 pm57 an57 cd57 ct57),sl57⟩)
  (c57:PySem.W.codeIn K cd57 "grow_times" =true)
  (k57:PySem.W.keepIn K (.ref f57)=true)
  (a58:PySem.W.nsIn K mainGlobals "times_or_ring" =some (some (.ref f58)))
  (l58:K.lookup f58=some ⟨oc58,od58,.func (PySem.W.fnOf "times_or_ring" "times_or_ring" (aU fL) (aR fL) (aA fL) .none kV58 dc58 pm58 an58 cd58 ct58),sl58⟩)
  (c58:PySem.W.codeIn K cd58 "times_or_ring" =true)
  (k58:PySem.W.keepIn K (.ref f58)=true)
  (a59:PySem.W.nsIn K mainGlobals "need_wish" =some (some (.ref f59)))
  (l59:K.lookup f59=some ⟨oc59,od59,.func (PySem.W.fnOf "need_wish" "need_wish" (aU jX) (aR jX) (aA jX) .none kV59 dc59 pm59 an59 cd59 ct59),sl59⟩)
  (c59:PySem.W.codeIn K cd59 "need_wish" =true)
  (k59:PySem.W.keepIn K (.ref f59)=true)
  (a60:PySem.W.nsIn K mainGlobals "enough_room" =some (some (.ref f60)))
  (l60:K.lookup f60=some ⟨oc60,od60,.func (PySem.W.fnOf "enough_room" "enough_room" (aU iH) (aR iH) (aA iH) .none kV60 dc60 pm60 an60 cd60 ct60),sl60⟩)
  (c60:PySem.W.codeIn K cd60 "enough_room" =true)
  (k60:PySem.W.keepIn K (.ref f60)=true)
  (a61:PySem.W.nsIn K mainGlobals "arc_with_room" =some (some (.ref f61)))
  (l61:K.lookup f61=some ⟨oc61,od61,.func (PySem.W.fnOf "arc_with_room" "arc_with_room" (aU fJ) (aR fJ) (aA fJ) .none kV61 dc61 pm61 an61 cd61 ct61),sl61⟩)
  (c61:PySem.W.codeIn K cd61 "arc_with_room" =true)
  (k61:PySem.W.keepIn K (.ref f61)=true)
  (a62:PySem.W.nsIn K mainGlobals "ring_without_one" =some (some (.ref f62)))
  (l62:K.lookup f62=some ⟨oc62,od62,.func (PySem.W.fnOf "ring_without_one" "ring_without_one" (aU dj) (aR dj) (aA dj) .none kV62 dc62 pm62 an62 cd62 ct62),sl62⟩)
  (c62:PySem.W.codeIn K cd62 "ring_without_one" =true)
  (k62:PySem.W.keepIn K (.ref f62)=true)
  (a63:PySem.W.nsIn K mainGlobals "spared_room" =some (some (.ref f63)))
  (l63:K.lookup f63=some ⟨oc63,od63,.func (PySem.W.fnOf "spared_room" "spared_room" (aU iG) (aR iG) (aA iG) .none kV63 dc63 pm63 an63 cd63 ct63),sl63⟩)
  (c63:PySem.W.codeIn K cd63 "spared_room" =true)
  (k63:PySem.W.keepIn K (.ref f63)=true)
  (a64:PySem.W.nsIn K mainGlobals "plan" =some (some (.ref f64)))
  (l64:K.lookup f64=some ⟨oc64,od64,.func (PySem.W.fnOf "plan" "plan" (aU vG) (aR vG) (aA vG) .none kV64 dc64 pm64 an64 cd64 ct64),sl64⟩)
  (c64:PySem.W.codeIn K cd64 "plan" =true)
  (k64:PySem.W.keepIn K (.ref f64)=true)
  (a65:PySem.W.nsIn K mainGlobals "_law_kinds" =some (some (.ref f65)))
  (l65:K.lookup f65=some ⟨oc65,od65,.func (PySem.W.fnOf "_law_kinds" "_law_kinds" (aU jx) (aR jx) (aA jx) .none kV65 dc65 pm65 an65 cd65 ct65),sl65⟩)
  (c65:PySem.W.codeIn K cd65 "_law_kinds" =true)
  (k65:PySem.W.keepIn K (.ref f65)=true)
  (a66:PySem.W.nsIn K mainGlobals "_law_odd_name" =some (some (.ref f66)))
  (l66:K.lookup f66=some ⟨oc66,od66,.func (PySem.W.fnOf "_law_odd_name" "_law_odd_name" (aU fH) (aR fH) (aA fH) .none kV66 dc66 pm66 an66 cd66 ct66),sl66⟩)
  (c66:PySem.W.codeIn K cd66 "_law_odd_name" =true)
  (k66:PySem.W.keepIn K (.ref f66)=true)
  (a67:PySem.W.nsIn K mainGlobals "_law_spoilt" =some (some (.ref f67)))
  (l67:K.lookup f67=some ⟨oc67,od67,.func (PySem.W.fnOf "_law_spoilt" "_law_spoilt" (aU iD) (aR iD) (aA iD) .none kV67 dc67 pm67 an67 cd67 ct67),sl67⟩)
  (c67:PySem.W.codeIn K cd67 "_law_spoilt" =true)
  (k67:PySem.W.keepIn K (.ref f67)=true)
  (a68:PySem.W.nsIn K mainGlobals "law" =some (some (.ref f68)))
  (l68:K.lookup f68=some ⟨oc68,od68,.func (PySem.W.fnOf "law" "law" (aU Bf) (aR Bf) (aA Bf) .none kV68 dc68 pm68 an68 cd68 ct68),sl68⟩)
  (c68:PySem.W.codeIn K cd68 "law" =true)
  (k68:PySem.W.keepIn K (.ref f68)=true)
  (z_all:PySem.W.nsIn K mainGlobals "all" =some none)
  (z_bool:PySem.W.nsIn K mainGlobals "bool" =some none)
  (z_dict:PySem.W.nsIn K mainGlobals "dict" =some none)
  (z_int:PySem.W.nsIn K mainGlobals "int" =some none)
  (z_isinstance:PySem.W.nsIn K mainGlobals "isinstance" =some none)
  (z_len:PySem.W.nsIn K mainGlobals "len" =some none)
  (z_list:PySem.W.nsIn K mainGlobals "list" =some none)
  (z_max:PySem.W.nsIn K mainGlobals "max" =some none)
  (z_range:PySem.W.nsIn K mainGlobals "range" =some none)
  (z_reversed:PySem.W.nsIn K mainGlobals "reversed" =some none)
  (z_str:PySem.W.nsIn K mainGlobals "str" =some none)
  (z_tuple:PySem.W.nsIn K mainGlobals "tuple" =some none)
  (y_VALUES:PySem.W.nsIn K mainGlobals "VALUES" =some (some u_VALUES))
  (r_VALUES:RelV (.int 1000000000) u_VALUES)
  (y_LETTERS:PySem.W.nsIn K mainGlobals "LETTERS" =some (some u_LETTERS))
  (r_LETTERS:RelV (.str "abcdefghijklmnopqrstuvwxyz") u_LETTERS)
  (y_LONGEST_NAME:PySem.W.nsIn K mainGlobals "LONGEST_NAME" =some (some u_LONGEST_NAME))
  (r_LONGEST_NAME:RelV (.int 8) u_LONGEST_NAME)
  (y_FIGURES:PySem.W.nsIn K mainGlobals "FIGURES" =some (some u_FIGURES))
  (r_FIGURES:RelV (.str "0123456789") u_FIGURES)
  (y_MOST_LANES:PySem.W.nsIn K mainGlobals "MOST_LANES" =some (some u_MOST_LANES))
  (r_MOST_LANES:RelV (.int 24) u_MOST_LANES)
  (y_MOST_PARTS:PySem.W.nsIn K mainGlobals "MOST_PARTS" =some (some u_MOST_PARTS))
  (r_MOST_PARTS:RelV (.int 16) u_MOST_PARTS)
  (y_MOST_ROOM:PySem.W.nsIn K mainGlobals "MOST_ROOM" =some (some u_MOST_ROOM))
  (r_MOST_ROOM:RelV (.int 199) u_MOST_ROOM)
  (y_MOST_BOTTOM:PySem.W.nsIn K mainGlobals "MOST_BOTTOM" =some (some u_MOST_BOTTOM))
  (r_MOST_BOTTOM:RelV (.int 1000) u_MOST_BOTTOM)
  (yt_COUNTS:PySem.W.nsIn K mainGlobals "COUNTS" =some (some (.ref mY)))
  (rt_COUNTS:KTab w K mY ROWS)
  (pb1:PySem.W.specialIn K (.ref cC) "__getattribute__" =some (some (.builtin "type.__getattribute__")))
  (pb2:PySem.W.readsIn K cC (.type "type")=true)
  (pb3:PySem.W.findCls K (.ref cC) (.type "type") "__init__" =some (.val (.builtin "ValueError.__init__")))
  (po_BadWord_BadWord:PySem.W.kitOne K (.ref bR) (.ref bR)=some true)
  (po_BadWord_NotCalm:PySem.W.kitOne K (.ref bR) (.ref bG)=some false)
  (po_BadWord_TooFast:PySem.W.kitOne K (.ref bR) (.ref bO)=some false)
  (po_NotCalm_BadWord:PySem.W.kitOne K (.ref bG) (.ref bR)=some false)
  (po_NotCalm_NotCalm:PySem.W.kitOne K (.ref bG) (.ref bG)=some true)
  (po_NotCalm_TooFast:PySem.W.kitOne K (.ref bG) (.ref bO)=some false)
  (po_TooFast_BadWord:PySem.W.kitOne K (.ref bO) (.ref bR)=some false)
  (po_TooFast_NotCalm:PySem.W.kitOne K (.ref bO) (.ref bG)=some false)
  (po_TooFast_TooFast:PySem.W.kitOne K (.ref bO) (.ref bO)=some true)
  (pu_BadWord_LaneError:PySem.W.subIn K (.ref bR) (.ref cC)=some true)
  (pu_NotCalm_LaneError:PySem.W.subIn K (.ref bG) (.ref cC)=some true)
  (pu_TooFast_LaneError:PySem.W.subIn K (.ref bO) (.ref cC)=some true)
  (px_LaneError:PySem.W.excIn K cC za "ValueError.__new__" =true)
  (px_BadWord:PySem.W.excIn K bR za "ValueError.__new__" =true)
  (pq_BadWord:xcIn K bR=true)
  (px_NoSuch:iniIn K dB f0=true)
  (pk_NoSuch:PySem.W.keepIn K (.ref dB)=true)
  (pq_NoSuch:xfIn K dB=true)
  (pn_NoSuch:PySem.W.findIn K (.ref dB) "name" =some none)
  (px_NotCalm:iniIn K bG f1=true)
  (pk_NotCalm:PySem.W.keepIn K (.ref bG)=true)
  (pq_NotCalm:xfIn K bG=true)
  (pn_NotCalm:PySem.W.findIn K (.ref bG) "name" =some none)
  (px_TooFast:iniIn K bO f2=true)
  (pk_TooFast:PySem.W.keepIn K (.ref bO)=true)
  (pq_TooFast:xfIn K bO=true)
  (pn_TooFast:PySem.W.findIn K (.ref bO) "ring" =some none)
  :∃fd:FuncData,(∀(s:Shared) (v:Value),BindsTo s fd ⟨[v],[]⟩ [("_law_script",v)])∧∀base:Heap,K.In base→base.Ns mainGlobals mg→FnOk l.prog w K mg base CX0 9 fa fd ["_law_script"] (sp_law K):=by
 have e:=hfa.symm.trans (PySem.W.mg_of X G a68)
 cases e
 have F0:=bc (st:=dO) l0 c0 k0
 have b0:=F0.binds (ps:=["self", "name"]) fun _ _ _ _ _ _=>rC fun _ _=>rfl
 have F1:=bc (st:=dI) l1 c1 k1
 have b1:=F1.binds (ps:=["self", "name"]) fun _ _ _ _ _ _=>rC fun _ _=>rfl
 have F2:=bc (st:=dH) l2 c2 k2
 have b2:=F2.binds (ps:=["self", "ring"]) fun _ _ _ _ _ _=>rC fun _ _=>rfl
 have F3:=bc (st:=mQ) l3 c3 k3
 have b3:=F3.binds (ps:=["thing"]) fun _ _ _ _ _ _=>p7 fun _=>rfl
 have F4:=bc (st:=mJ) l4 c4 k4
 have b4:=F4.binds (ps:=["thing"]) fun _ _ _ _ _ _=>p7 fun _=>rfl
 have F5:=bc (st:=fK) l5 c5 k5
 have b5:=F5.binds (ps:=["self", "name", "numbers", "ins", "outs"]) fun _ _ _ _ _ _=>us_5 fun _ _ _ _ _=>rfl
 have F6:=bc (st:=jY) l6 c6 k6
 have b6:=F6.binds (ps:=["self"]) fun _ _ _ _ _ _=>p7 fun _=>rfl
 have F7:=bc (st:=j4) l7 c7 k7
 have b7:=F7.binds (ps:=["self"]) fun _ _ _ _ _ _=>p7 fun _=>rfl
 have F8:=bc (st:=kJ) l8 c8 k8
 have b8:=F8.binds (ps:=["self"]) fun _ _ _ _ _ _=>p7 fun _=>rfl
 have F9:=bc (st:=km) l9 c9 k9
 have b9:=F9.binds (ps:=["self"]) fun _ _ _ _ _ _=>p7 fun _=>rfl
 have F10:=bc (st:=j6) l10 c10 k10
 have b10:=F10.binds (ps:=["self"]) fun _ _ _ _ _ _=>p7 fun _=>rfl
 have F11:=bc (st:=j7) l11 c11 k11
 have b11:=F11.binds (ps:=["self"]) fun _ _ _ _ _ _=>p7 fun _=>rfl
 have F12:=bc (st:=mz) l12 c12 k12
 have b12:=F12.binds (ps:=["self"]) fun _ _ _ _ _ _=>p7 fun _=>rfl
 have F13:=bc (st:=kj) l13 c13 k13
 have b13:=F13.binds (ps:=["self"]) fun _ _ _ _ _ _=>p7 fun _=>rfl
 have F14:=bc (st:=jl) l14 c14 k14
 have b14:=F14.binds (ps:=["self"]) fun _ _ _ _ _ _=>p7 fun _=>rfl
 have F15:=bc (st:=iI) l15 c15 k15
 have b15:=F15.binds (ps:=["self"]) fun _ _ _ _ _ _=>p7 fun _=>rfl
 have F16:=bc (st:=jq) l16 c16 k16
 have b16:=F16.binds (ps:=["self"]) fun _ _ _ _ _ _=>p7 fun _=>rfl
 have F17:=bc (st:=pF) l17 c17 k17
 have b17:=F17.binds (ps:=["word"]) fun _ _ _ _ _ _=>p7 fun _=>rfl
 have F18:=bc (st:=jT) l18 c18 k18
 have b18:=F18.binds (ps:=["kind", "name", "numbers", "ins", "outs"]) fun _ _ _ _ _ _=>us_5 fun _ _ _ _ _=>rfl
 have F19:=bc (st:=pA) l19 c19 k19
 have b19:=F19.binds (ps:=["kind", "name", "numbers", "ins", "outs"]) fun _ _ _ _ _ _=>us_5 fun _ _ _ _ _=>rfl
 have F20:=bc (st:=kh) l20 c20 k20
 have b20:=F20.binds (ps:=["kind", "name", "numbers", "ins", "outs"]) fun _ _ _ _ _ _=>us_5 fun _ _ _ _ _=>rfl
 have F21:=bc (st:=mC) l21 c21 k21
 have b21:=F21.binds (ps:=["_law_cell_here", "_law_k"]) fun _ _ _ _ _ _=>rC fun _ _=>rfl
 have F22:=bc (st:=jW) l22 c22 k22
 have b22:=F22.binds (ps:=["_law_script", "_law_k"]) fun _ _ _ _ _ _=>rC fun _ _=>rfl
 have F23:=bc (st:=jn) l23 c23 k23
 have b23:=F23.binds (ps:=["_law_cell_here", "_law_k"]) fun _ _ _ _ _ _=>rC fun _ _=>rfl
 have F24:=bc (st:=jf) l24 c24 k24
 have b24:=F24.binds (ps:=["_law_cell_here", "_law_k"]) fun _ _ _ _ _ _=>rC fun _ _=>rfl
 have F25:=bc (st:=iU) l25 c25 k25
 have b25:=F25.binds (ps:=["_law_state", "_law_cell_here", "_law_back"]) fun _ _ _ _ _ _=>yK fun _ _ _=>rfl
 have F26:=bc (st:=kI) l26 c26 k26
 have b26:=F26.binds (ps:=["_law_state", "_law_number"]) fun _ _ _ _ _ _=>rC fun _ _=>rfl
 have F27:=bc (st:=je) l27 c27 k27
 have b27:=F27.binds (ps:=["_law_state", "_law_cell_here", "_law_kind", "_law_numbers", "_law_ins", "_law_many"]) fun _ _ _ _ _ _=>us_6 fun _ _ _ _ _ _=>rfl
 have F28:=bc (st:=mD) l28 c28 k28
 have b28:=F28.binds (ps:=["_law_state", "_law_cell_here", "_law_one", "_law_odd"]) fun _ _ _ _ _ _=>us_4 fun _ _ _ _=>rfl
 have F29:=bc (st:=j9) l29 c29 k29
 have b29:=F29.binds (ps:=["_law_state", "_law_cell_here", "_law_one"]) fun _ _ _ _ _ _=>yK fun _ _ _=>rfl
 have F30:=bc (st:=jV) l30 c30 k30
 have b30:=F30.binds (ps:=["_law_state", "_law_cell_here", "_law_odd"]) fun _ _ _ _ _ _=>yK fun _ _ _=>rfl
 have F31:=bc (st:=iJ) l31 c31 k31
 have b31:=F31.binds (ps:=["_law_state", "_law_cell_here", "_law_back"]) fun _ _ _ _ _ _=>yK fun _ _ _=>rfl
 have F32:=bc (st:=jR) l32 c32 k32
 have b32:=F32.binds (ps:=["_law_script", "_law_start", "_law_steps", "_law_odd"]) fun _ _ _ _ _ _=>us_4 fun _ _ _ _=>rfl
 have F33:=bc (st:=my) l33 c33 k33
 have b33:=F33.binds (ps:=["thing"]) fun _ _ _ _ _ _=>p7 fun _=>rfl
 have F34:=bc (st:=iC) l34 c34 k34
 have b34:=F34.binds (ps:=["lanes", "parts"]) fun _ _ _ _ _ _=>rC fun _ _=>rfl
 have F35:=bc (st:=jo) l35 c35 k35
 have b35:=F35.binds (ps:=["name", "known"]) fun _ _ _ _ _ _=>rC fun _ _=>rfl
 have F36:=bc (st:=iV) l36 c36 k36
 have b36:=F36.binds (ps:=["name", "room", "first"]) fun _ _ _ _ _ _=>yK fun _ _ _=>rfl
 have F37:=bc (st:=jm) l37 c37 k37
 have b37:=F37.binds (ps:=["row", "known"]) fun _ _ _ _ _ _=>rC fun _ _=>rfl
 have F38:=bc (st:=j8) l38 c38 k38
 have b38:=F38.binds (ps:=["part", "lanes", "rooms", "ends"]) fun _ _ _ _ _ _=>us_4 fun _ _ _ _=>rfl
 have F39:=bc (st:=j5) l39 c39 k39
 have b39:=F39.binds (ps:=["rooms", "givers", "takers"]) fun _ _ _ _ _ _=>yK fun _ _ _=>rfl
 have F40:=bc (st:=iy) l40 c40 k40
 have b40:=F40.binds (ps:=["part", "givers", "takers"]) fun _ _ _ _ _ _=>yK fun _ _ _=>rfl
 have F41:=bc (st:=iB) l41 c41 k41
 have b41:=F41.binds (ps:=["names", "givers", "takers"]) fun _ _ _ _ _ _=>yK fun _ _ _=>rfl
 have F42:=bc (st:=eY) l42 c42 k42
 have b42:=F42.binds (ps:=["self"]) fun _ _ _ _ _ _=>p7 fun _=>rfl
 have F43:=bc (st:=fc) l43 c43 k43
 have b43:=F43.binds (ps:=["self"]) fun _ _ _ _ _ _=>p7 fun _=>rfl
 have F44:=bc (st:=dw) l44 c44 k44
 have b44:=F44.binds (ps:=["self", "name"]) fun _ _ _ _ _ _=>rC fun _ _=>rfl
 have F45:=bc (st:=iK) l45 c45 k45
 have b45:=F45.binds (ps:=["self", "name"]) fun _ _ _ _ _ _=>rC fun _ _=>rfl
 have F46:=bc (st:=gA) l46 c46 k46
 have b46:=F46.binds (ps:=["self", "name"]) fun _ _ _ _ _ _=>rC fun _ _=>rfl
 have F47:=bc (st:=gm) l47 c47 k47
 have b47:=F47.binds (ps:=["self", "name"]) fun _ _ _ _ _ _=>rC fun _ _=>rfl
 have F48:=bc (st:=gw) l48 c48 k48
 have b48:=F48.binds (ps:=["self", "name"]) fun _ _ _ _ _ _=>rC fun _ _=>rfl
 have F49:=bc (st:=pB) l49 c49 k49
 have b49:=F49.binds (ps:=["self"]) fun _ _ _ _ _ _=>p7 fun _=>rfl
 have F50:=bc (st:=rR) l50 c50 k50
 have b50:=F50.binds (ps:=["part"]) fun _ _ _ _ _ _=>p7 fun _=>rfl
 have F51:=bc (st:=iW) l51 c51 k51
 have b51:=F51.binds (ps:=["self"]) fun _ _ _ _ _ _=>p7 fun _=>rfl
 have F52:=bc (st:=gG) l52 c52 k52
 have b52:=F52.binds (ps:=["self", "lanes", "parts"]) fun _ _ _ _ _ _=>yK fun _ _ _=>rfl
 have F53:=bc (st:=gH) l53 c53 k53
 have b53:=F53.binds (ps:=["net", "lane"]) fun _ _ _ _ _ _=>rC fun _ _=>rfl
 have F54:=bc (st:=mO) l54 c54 k54
 have b54:=F54.binds (ps:=["net"]) fun _ _ _ _ _ _=>p7 fun _=>rfl
 have F55:=bc (st:=jr) l55 c55 k55
 have b55:=F55.binds (ps:=["start", "leads"]) fun _ _ _ _ _ _=>rC fun _ _=>rfl
 have F56:=bc (st:=iY) l56 c56 k56
 have b56:=F56.binds (ps:=["start", "into"]) fun _ _ _ _ _ _=>rC fun _ _=>rfl
 have F57:=bc (st:=jw) l57 c57 k57
 have b57:=F57.binds (ps:=["times", "into", "arcs", "wish"]) fun _ _ _ _ _ _=>us_4 fun _ _ _ _=>rfl
 have F58:=bc (st:=fL) l58 c58 k58
 have b58:=F58.binds (ps:=["names", "arcs", "wish"]) fun _ _ _ _ _ _=>yK fun _ _ _=>rfl
 have F59:=bc (st:=jX) l59 c59 k59
 have b59:=F59.binds (ps:=["top", "bottom"]) fun _ _ _ _ _ _=>rC fun _ _=>rfl
 have F60:=bc (st:=iH) l60 c60 k60
 have b60:=F60.binds (ps:=["arcs", "times", "wish"]) fun _ _ _ _ _ _=>yK fun _ _ _=>rfl
 have F61:=bc (st:=fJ) l61 c61 k61
 have b61:=F61.binds (ps:=["arc", "room"]) fun _ _ _ _ _ _=>rC fun _ _=>rfl
 have F62:=bc (st:=dj) l62 c62 k62
 have b62:=F62.binds (ps:=["names", "arcs", "room", "lane", "wish"]) fun _ _ _ _ _ _=>us_5 fun _ _ _ _ _=>rfl
 have F63:=bc (st:=iG) l63 c63 k63
 have b63:=F63.binds (ps:=["names", "arcs", "room", "wish"]) fun _ _ _ _ _ _=>us_4 fun _ _ _ _=>rfl
 have F64:=bc (st:=vG) l64 c64 k64
 have b64:=F64.binds (ps:=["net", "top", "bottom"]) fun _ _ _ _ _ _=>yK fun _ _ _=>rfl
 have F65:=bc (st:=jx) l65 c65 k65
 have b65:=F65.binds (ps:=["_law_net_one", "_law_top", "_law_bottom"]) fun _ _ _ _ _ _=>yK fun _ _ _=>rfl
 have F66:=bc (st:=fH) l66 c66 k66
 have b66:=F66.binds (ps:=["_law_net_one"]) fun _ _ _ _ _ _=>p7 fun _=>rfl
 have F67:=bc (st:=iD) l67 c67 k67
 have b67:=F67.binds (ps:=["_law_cell_here", "_law_top", "_law_bottom"]) fun _ _ _ _ _ _=>yK fun _ _ _=>rfl
 have F68:=bc (st:=Bf) l68 c68 k68
 have b68:=F68.binds (ps:=["_law_script"]) fun _ _ _ _ _ _=>p7 fun _=>rfl
 have T:Txt w K mg ⟨_,_,_,_,_,_,_,_,_,_,_,_,_,_,_,_,_,_,_,_,_,_,_,_,_,_,_,_,_,_,_,_,_,_,_,_,_,_,_,_,_,_,_,_,_,_,_,_,_,_,_,_,_,_,_,_,_,_,_,_,_,_,_,_,_,_,_,_,_,_,_,_,_,_,_,_,_,_,_,_,_,_,_,_,_,_,_,_,_,_,_,_,_,_,_,_,_,_,_,_,_,_,_,_,_,_,_,_,_,_,_,_,_,_,_,_,_,_,_,_,_,_,_,_,_,_,_,_,_,_,_,_,_,_,_,_,_,_,dW,dU,dR,eE,dZ,dY,gW,d8,dg,cz,dh,bI,mY,cC,bR,dB,bG,bO⟩:=⟨F0,b0,
  F1,b1,
  F2,b2,
  F3,b3,PySem.W.mg_of X G a3,
  F4,b4,PySem.W.mg_of X G a4,
  F5,b5,
  F6,b6,
  F7,b7,
  F8,b8,
  F9,b9,
  F10,b10,
  F11,b11,
  F12,b12,
  F13,b13,
  F14,b14,
  F15,b15,
  F16,b16,
  F17,b17,PySem.W.mg_of X G a17,
  F18,b18,PySem.W.mg_of X G a18,
  F19,b19,PySem.W.mg_of X G a19,
  F20,b20,PySem.W.mg_of X G a20,
  F21,b21,PySem.W.mg_of X G a21,
  F22,b22,PySem.W.mg_of X G a22,
  F23,b23,PySem.W.mg_of X G a23,
  F24,b24,PySem.W.mg_of X G a24,
  F25,b25,PySem.W.mg_of X G a25,
  F26,b26,PySem.W.mg_of X G a26,
  F27,b27,PySem.W.mg_of X G a27,
  F28,b28,PySem.W.mg_of X G a28,
  F29,b29,PySem.W.mg_of X G a29,
  F30,b30,PySem.W.mg_of X G a30,
  F31,b31,PySem.W.mg_of X G a31,
  F32,b32,PySem.W.mg_of X G a32,
  F33,b33,PySem.W.mg_of X G a33,
  F34,b34,PySem.W.mg_of X G a34,
  F35,b35,PySem.W.mg_of X G a35,
  F36,b36,PySem.W.mg_of X G a36,
  F37,b37,PySem.W.mg_of X G a37,
  F38,b38,PySem.W.mg_of X G a38,
  F39,b39,PySem.W.mg_of X G a39,
  F40,b40,PySem.W.mg_of X G a40,
  F41,b41,PySem.W.mg_of X G a41,
  F42,b42,
  F43,b43,
  F44,b44,
  F45,b45,
  F46,b46,
  F47,b47,
  F48,b48,
  F49,b49,
  F50,b50,PySem.W.mg_of X G a50,
  F51,b51,
  F52,b52,
  F53,b53,PySem.W.mg_of X G a53,
  F54,b54,PySem.W.mg_of X G a54,
  F55,b55,PySem.W.mg_of X G a55,
  F56,b56,PySem.W.mg_of X G a56,
  F57,b57,PySem.W.mg_of X G a57,
  F58,b58,PySem.W.mg_of X G a58,
  F59,b59,PySem.W.mg_of X G a59,
  F60,b60,PySem.W.mg_of X G a60,
  F61,b61,PySem.W.mg_of X G a61,
  F62,b62,PySem.W.mg_of X G a62,
  F63,b63,PySem.W.mg_of X G a63,
  F64,b64,PySem.W.mg_of X G a64,
  F65,b65,PySem.W.mg_of X G a65,
  F66,b66,PySem.W.mg_of X G a66,
  F67,b67,PySem.W.mg_of X G a67,
  F68,b68,PySem.W.mg_of X G a68,
  ⟨pg_Give,hd_Give,po_Give,sa_Give⟩,PySem.W.mg_of X G aC_Give,
  ⟨mk_Give,fm_Give___init__,i5,kc_Give⟩,
  ⟨fm_Give_kind,i6,k6⟩,
  lH,
  ie,
  m8,
  lz,
  ⟨pg_Take,hd_Take,po_Take,sa_Take⟩,PySem.W.mg_of X G aC_Take,
  ⟨mk_Take,fm_Take___init__,i5,kc_Take⟩,
  ⟨fm_Take_kind,i7,k7⟩,
  lD,
  gY,
  mZ,
  lA,
  ⟨pg_Pass,hd_Pass,po_Pass,sa_Pass⟩,PySem.W.mg_of X G aC_Pass,
  ⟨mk_Pass,fm_Pass___init__,i5,kc_Pass⟩,
  ⟨fm_Pass_kind,i8,k8⟩,
  lV,
  gZ,
  oh,
  lg,
  ⟨pg_Copy,hd_Copy,po_Copy,sa_Copy⟩,PySem.W.mg_of X G aC_Copy,
  ⟨mk_Copy,fm_Copy___init__,i5,kc_Copy⟩,
  ⟨fm_Copy_kind,i9,k9⟩,
  lL,
  ig,
  nC,
  lJ,
  ⟨pg_Turn,hd_Turn,po_Turn,sa_Turn⟩,PySem.W.mg_of X G aC_Turn,
  ⟨mk_Turn,fm_Turn___init__,i5,kc_Turn⟩,
  ⟨fm_Turn_kind,i10,k10⟩,
  lM,
  ir,
  nU,
  kW,
  ⟨pg_Heap,hd_Heap,po_Heap,sa_Heap⟩,PySem.W.mg_of X G aC_Heap,
  ⟨mk_Heap,fm_Heap___init__,i5,kc_Heap⟩,
  ⟨fm_Heap_kind,i11,k11⟩,
  kY,
  iu,
  m5,
  lU,
  ⟨pg_Add,hd_Add,po_Add,sa_Add⟩,PySem.W.mg_of X G aC_Add,
  ⟨mk_Add,fm_Add___init__,i5,kc_Add⟩,
  ⟨fm_Add_kind,i12,k12⟩,
  nZ,
  jj,
  pR,
  nQ,
  ⟨pg_Less,hd_Less,po_Less,sa_Less⟩,PySem.W.mg_of X G aC_Less,
  ⟨mk_Less,fm_Less___init__,i5,kc_Less⟩,
  ⟨fm_Less_kind,i13,k13⟩,
  lu,
  il,
  m7,
  lC,
  ⟨pg_Order,hd_Order,po_Order,sa_Order⟩,PySem.W.mg_of X G aC_Order,
  ⟨mk_Order,fm_Order___init__,i5,kc_Order⟩,
  ⟨fm_Order_kind,i14,k14⟩,
  jG,
  gB,
  lN,
  jD,
  ⟨pg_Choose,hd_Choose,po_Choose,sa_Choose⟩,PySem.W.mg_of X G aC_Choose,
  ⟨mk_Choose,fm_Choose___init__,i5,kc_Choose⟩,
  ⟨fm_Choose_kind,i15,k15⟩,
  jc,
  fM,
  jH,
  iZ,
  ⟨pg_Split,hd_Split,po_Split,sa_Split⟩,PySem.W.mg_of X G aC_Split,
  ⟨mk_Split,fm_Split___init__,i5,kc_Split⟩,
  ⟨fm_Split_kind,i16,k16⟩,
  jE,
  gq,
  lQ,
  jF,
  ⟨pg_Net,hd_Net,po_Net,sa_Net⟩,PySem.W.mg_of X G aC_Net,
  ⟨mk_Net,fm_Net___init__,i52,kc_Net⟩,
  ⟨fm_Net_lane_names,i42,k42⟩,
  ⟨fm_Net_part_names,i43,k43⟩,
  ⟨fm_Net_odd,i49,k49⟩,
  ⟨fm_Net_need_lane_name,i44,k44⟩,
  ⟨fm_Net_room_of,i45,k45⟩,
  ⟨fm_Net_first_of,i46,k46⟩,
  ⟨fm_Net_giver_of,i47,k47⟩,
  ⟨fm_Net_taker_of,i48,k48⟩,
  ⟨fm_Net_told,i51,k51⟩,
  cG,
  eU,
  cT,
  dJ,
  dM,
  PySem.W.mg_of X G yt_COUNTS,rt_COUNTS,
  PySem.W.mg_none_of X G z_all,
  PySem.W.mg_none_of X G z_bool,
  PySem.W.mg_none_of X G z_dict,
  PySem.W.mg_none_of X G z_int,
  PySem.W.mg_none_of X G z_isinstance,
  PySem.W.mg_none_of X G z_len,
  PySem.W.mg_none_of X G z_list,
  PySem.W.mg_none_of X G z_max,
  PySem.W.mg_none_of X G z_range,
  PySem.W.mg_none_of X G z_reversed,
  PySem.W.mg_none_of X G z_str,
  PySem.W.mg_none_of X G z_tuple,
  ⟨_,PySem.W.mg_of X G y_VALUES,r_VALUES⟩,
  ⟨_,PySem.W.mg_of X G y_LETTERS,r_LETTERS⟩,
  ⟨_,PySem.W.mg_of X G y_LONGEST_NAME,r_LONGEST_NAME⟩,
  ⟨_,PySem.W.mg_of X G y_FIGURES,r_FIGURES⟩,
  ⟨_,PySem.W.mg_of X G y_MOST_LANES,r_MOST_LANES⟩,
  ⟨_,PySem.W.mg_of X G y_MOST_PARTS,r_MOST_PARTS⟩,
  ⟨_,PySem.W.mg_of X G y_MOST_ROOM,r_MOST_ROOM⟩,
  ⟨_,PySem.W.mg_of X G y_MOST_BOTTOM,r_MOST_BOTTOM⟩,
  PySem.W.mg_of X G pc_LaneError,
  PySem.W.mg_of X G pc_BadWord,
  PySem.W.mg_of X G pc_NoSuch,
  PySem.W.mg_of X G pc_NotCalm,
  PySem.W.mg_of X G pc_TooFast,
  ⟨pb1,pb2,pb3⟩,
  po_BadWord_BadWord,
  po_BadWord_NotCalm,
  po_BadWord_TooFast,
  po_NotCalm_BadWord,
  po_NotCalm_NotCalm,
  po_NotCalm_TooFast,
  po_TooFast_BadWord,
  po_TooFast_NotCalm,
  po_TooFast_TooFast,
  pu_BadWord_LaneError,
  pu_NotCalm_LaneError,
  pu_TooFast_LaneError,
  (ExcCls.ofIn px_LaneError).at,
  ExcCls.ofIn px_BadWord,
  (ExcCls.ofIn px_BadWord).at,
  XcK.ofIn pq_BadWord,
  ⟨ExcIni.ofIn px_NoSuch,i0,pk_NoSuch⟩,
  XfK.ofIn pq_NoSuch,
  pn_NoSuch,
  (ExcIni.ofIn px_NoSuch).at X,
  ⟨ExcIni.ofIn px_NotCalm,i1,pk_NotCalm⟩,
  XfK.ofIn pq_NotCalm,
  pn_NotCalm,
  (ExcIni.ofIn px_NotCalm).at X,
  ⟨ExcIni.ofIn px_TooFast,i2,pk_TooFast⟩,
  XfK.ofIn pq_TooFast,
  pn_TooFast,
  (ExcIni.ofIn px_TooFast).at X⟩
 exact⟨_,fun s v=>.of_eq rfl,fun base _ _=>ok_law T⟩
theorem walk {l:PySem.W.OpenLaw} {q:Program} {loose:List Str} {XP:(Str→Option Value)→Heap→Prop} {YP:World→Heap→Prop} {d:DefRec} {K:Params→PySem.W.Frag} (hn:l.most=some 63) (hdf:d.params.defaults=[])
  (hY:∀(w:World) (h:Heap),YP w h→(K w.params).In h)
  (F:∀(w:World) (mg:Str→Option Value) (fa:Addr) (h:Heap),(K w.params).In h→h.Ns mainGlobals mg→mg d.name=some (.ref fa)→
   ∃fd:FuncData,(∀(s:Shared) (u:Value),BindsTo s fd ⟨[u],[]⟩ [("_law_script",u)])∧∀base:Heap,(K w.params).In base→base.Ns mainGlobals mg→FnOk l.prog w (K w.params) mg base CX0 9 fa fd ["_law_script"] (sp_law (K w.params))):
  PySem.W.WalkO q loose XP YP l.row.toRowW d [] (fun f vs=>PySem.call f vs):=
 L2.walk_of (n:=63) (k:=9) (x:= "_law_script") (CX:=fun _=>CX0) (sp:=fun w=>sp_law (K w.params)) hn (by decide) hdf ⟨rfl,by decide,by decide⟩ hY F (fun _ _ a ns hl _ hS=>⟨a,ns,rfl,hS,hl,fun _=>rfl⟩) fun _ _ _ _ _ z=>z
end K73
open PySem PySem.W PyProof.Rows
set_option maxRecDepth 100000 in
set_option maxHeartbeats 0 in
theorem PySem.Challenge.cw_holdlane_k73_plans_refused_holds : PySem.Challenge.rw_holdlane_k73_plans_refused.Holds := by
 w_on;o_law
 refine HD.head (by rfl) (by rfl) (by rfl) (by rfl) (by first | assumption | decide +kernel) (by decide +kernel) ⟨rfl,rfl,rfl,rfl,rfl,by decide +kernel⟩ rfl (fun _=>rfl) ?_ ?_
 ·w_witness2
 k_fill
 refine K73.walk (l:=PySem.Challenge.rw_holdlane_k73_plans_refused) rfl rfl (fun w h Y=>PySem.W.kIn_of Y) ?F
 case F=>
  intro w mg fa h KX G hmg
  refine' K73.all_mk KX G hmg ?aC_Give ?pg_Give ?hd_Give ?po_Give ?sa_Give ?mk_Give ?kc_Give ?fm_Give___init__ ?fm_Give_kind ?lH ?ie ?m8 ?lz ?aC_Take ?pg_Take ?hd_Take ?po_Take ?sa_Take ?mk_Take ?kc_Take ?fm_Take___init__ ?fm_Take_kind ?lD ?gY ?mZ ?lA ?aC_Pass ?pg_Pass ?hd_Pass ?po_Pass ?sa_Pass ?mk_Pass ?kc_Pass ?fm_Pass___init__ ?fm_Pass_kind ?lV ?gZ ?oh ?lg ?aC_Copy ?pg_Copy ?hd_Copy ?po_Copy ?sa_Copy ?mk_Copy ?kc_Copy ?fm_Copy___init__ ?fm_Copy_kind ?lL ?ig ?nC ?lJ ?aC_Turn ?pg_Turn ?hd_Turn ?po_Turn ?sa_Turn ?mk_Turn ?kc_Turn ?fm_Turn___init__ ?fm_Turn_kind ?lM ?ir ?nU ?kW ?aC_Heap ?pg_Heap ?hd_Heap ?po_Heap ?sa_Heap ?mk_Heap ?kc_Heap ?fm_Heap___init__ ?fm_Heap_kind ?kY ?iu ?m5 ?lU ?aC_Add ?pg_Add ?hd_Add ?po_Add ?sa_Add ?mk_Add ?kc_Add ?fm_Add___init__ ?fm_Add_kind ?nZ ?jj ?pR ?nQ ?aC_Less ?pg_Less ?hd_Less ?po_Less ?sa_Less ?mk_Less ?kc_Less ?fm_Less___init__ ?fm_Less_kind ?lu ?il ?m7 ?lC ?aC_Order ?pg_Order ?hd_Order ?po_Order ?sa_Order ?mk_Order ?kc_Order ?fm_Order___init__ ?fm_Order_kind ?jG ?gB ?lN ?jD ?aC_Choose ?pg_Choose ?hd_Choose ?po_Choose ?sa_Choose ?mk_Choose ?kc_Choose ?fm_Choose___init__ ?fm_Choose_kind ?jc ?fM ?jH ?iZ ?aC_Split ?pg_Split ?hd_Split ?po_Split ?sa_Split ?mk_Split ?kc_Split ?fm_Split___init__ ?fm_Split_kind ?jE ?gq ?lQ ?jF ?aC_Net ?pg_Net ?hd_Net ?po_Net ?sa_Net ?mk_Net ?kc_Net ?fm_Net___init__ ?fm_Net_lane_names ?fm_Net_part_names ?fm_Net_odd ?fm_Net_need_lane_name ?fm_Net_room_of ?fm_Net_first_of ?fm_Net_giver_of ?fm_Net_taker_of ?fm_Net_told ?cG ?eU ?cT ?dJ ?dM ?pc_LaneError ?pc_BadWord ?pc_NoSuch ?pc_NotCalm ?pc_TooFast ?fi_NoSuch ?fi_NotCalm ?fi_TooFast ?i0 ?l0 ?c0 ?k0 ?i1 ?l1 ?c1 ?k1 ?i2 ?l2 ?c2 ?k2 ?a3 ?l3 ?c3 ?k3 ?a4 ?l4 ?c4 ?k4 ?i5 ?l5 ?c5 ?k5 ?i6 ?l6 ?c6 ?k6 ?i7 ?l7 ?c7 ?k7 ?i8 ?l8 ?c8 ?k8 ?i9 ?l9 ?c9 ?k9 ?i10 ?l10 ?c10 ?k10 ?i11 ?l11 ?c11 ?k11 ?i12 ?l12 ?c12 ?k12 ?i13 ?l13 ?c13 ?k13 ?i14 ?l14 ?c14 ?k14 ?i15 ?l15 ?c15 ?k15 ?i16 ?l16 ?c16 ?k16 ?a17 ?l17 ?c17 ?k17 ?a18 ?l18 ?c18 ?k18 ?a19 ?l19 ?c19 ?k19 ?a20 ?l20 ?c20 ?k20 ?a21 ?l21 ?c21 ?k21 ?a22 ?l22 ?c22 ?k22 ?a23 ?l23 ?c23 ?k23 ?a24 ?l24 ?c24 ?k24 ?a25 ?l25 ?c25 ?k25 ?a26 ?l26 ?c26 ?k26 ?a27 ?l27 ?c27 ?k27 ?a28 ?l28 ?c28 ?k28 ?a29 ?l29 ?c29 ?k29 ?a30 ?l30 ?c30 ?k30 ?a31 ?l31 ?c31 ?k31 ?a32 ?l32 ?c32 ?k32 ?a33 ?l33 ?c33 ?k33 ?a34 ?l34 ?c34 ?k34 ?a35 ?l35 ?c35 ?k35 ?a36 ?l36 ?c36 ?k36 ?a37 ?l37 ?c37 ?k37 ?a38 ?l38 ?c38 ?k38 ?a39 ?l39 ?c39 ?k39 ?a40 ?l40 ?c40 ?k40 ?a41 ?l41 ?c41 ?k41 ?i42 ?l42 ?c42 ?k42 ?i43 ?l43 ?c43 ?k43 ?i44 ?l44 ?c44 ?k44 ?i45 ?l45 ?c45 ?k45 ?i46 ?l46 ?c46 ?k46 ?i47 ?l47 ?c47 ?k47 ?i48 ?l48 ?c48 ?k48 ?i49 ?l49 ?c49 ?k49 ?a50 ?l50 ?c50 ?k50 ?i51 ?l51 ?c51 ?k51 ?i52 ?l52 ?c52 ?k52 ?a53 ?l53 ?c53 ?k53 ?a54 ?l54 ?c54 ?k54 ?a55 ?l55 ?c55 ?k55 ?a56 ?l56 ?c56 ?k56 ?a57 ?l57 ?c57 ?k57 ?a58 ?l58 ?c58 ?k58 ?a59 ?l59 ?c59 ?k59 ?a60 ?l60 ?c60 ?k60 ?a61 ?l61 ?c61 ?k61 ?a62 ?l62 ?c62 ?k62 ?a63 ?l63 ?c63 ?k63 ?a64 ?l64 ?c64 ?k64 ?a65 ?l65 ?c65 ?k65 ?a66 ?l66 ?c66 ?k66 ?a67 ?l67 ?c67 ?k67 ?a68 ?l68 ?c68 ?k68 ?z_all ?z_bool ?z_dict ?z_int ?z_isinstance ?z_len ?z_list ?z_max ?z_range ?z_reversed ?z_str ?z_tuple ?y_VALUES ?r_VALUES ?y_LETTERS ?r_LETTERS ?y_LONGEST_NAME ?r_LONGEST_NAME ?y_FIGURES ?r_FIGURES ?y_MOST_LANES ?r_MOST_LANES ?y_MOST_PARTS ?r_MOST_PARTS ?y_MOST_ROOM ?r_MOST_ROOM ?y_MOST_BOTTOM ?r_MOST_BOTTOM ?yt_COUNTS ?rt_COUNTS ?pb1 ?pb2 ?pb3 ?po_BadWord_BadWord ?po_BadWord_NotCalm ?po_BadWord_TooFast ?po_NotCalm_BadWord ?po_NotCalm_NotCalm ?po_NotCalm_TooFast ?po_TooFast_BadWord ?po_TooFast_NotCalm ?po_TooFast_TooFast ?pu_BadWord_LaneError ?pu_NotCalm_LaneError ?pu_TooFast_LaneError ?px_LaneError ?px_BadWord ?pq_BadWord ?px_NoSuch ?pk_NoSuch ?pq_NoSuch ?pn_NoSuch ?px_NotCalm ?pk_NotCalm ?pq_NotCalm ?pn_NotCalm ?px_TooFast ?pk_TooFast ?pq_TooFast ?pn_TooFast
  (case aC_Give=>k_is)
  (case pg_Give=>k_is)
  (case hd_Give=>k_is)
  (case po_Give=>k_is)
  (case sa_Give=>k_is)
  (case mk_Give=>k_is)
  (case kc_Give=>k_is)
  (case fm_Give___init__=>k_is)
  (case fm_Give_kind=>k_is)
  (case lH=>k_is)
  (case ie=>k_is)
  (case m8=>k_is)
  (case lz=>k_is)
  (case aC_Take=>k_is)
  (case pg_Take=>k_is)
  (case hd_Take=>k_is)
  (case po_Take=>k_is)
  (case sa_Take=>k_is)
  (case mk_Take=>k_is)
  (case kc_Take=>k_is)
  (case fm_Take___init__=>k_is)
  (case fm_Take_kind=>k_is)
  (case lD=>k_is)
  (case gY=>k_is)
  (case mZ=>k_is)
  (case lA=>k_is)
  (case aC_Pass=>k_is)
  (case pg_Pass=>k_is)
  (case hd_Pass=>k_is)
  (case po_Pass=>k_is)
  (case sa_Pass=>k_is)
  (case mk_Pass=>k_is)
  (case kc_Pass=>k_is)
  (case fm_Pass___init__=>k_is)
  (case fm_Pass_kind=>k_is)
  (case lV=>k_is)
  (case gZ=>k_is)
  (case oh=>k_is)
  (case lg=>k_is)
  (case aC_Copy=>k_is)
  (case pg_Copy=>k_is)
  (case hd_Copy=>k_is)
  (case po_Copy=>k_is)
  (case sa_Copy=>k_is)
  (case mk_Copy=>k_is)
  (case kc_Copy=>k_is)
  (case fm_Copy___init__=>k_is)
  (case fm_Copy_kind=>k_is)
  (case lL=>k_is)
  (case ig=>k_is)
  (case nC=>k_is)
  (case lJ=>k_is)
  (case aC_Turn=>k_is)
  (case pg_Turn=>k_is)
  (case hd_Turn=>k_is)
  (case po_Turn=>k_is)
  (case sa_Turn=>k_is)
  (case mk_Turn=>k_is)
  (case kc_Turn=>k_is)
  (case fm_Turn___init__=>k_is)
  (case fm_Turn_kind=>k_is)
  (case lM=>k_is)
  (case ir=>k_is)
  (case nU=>k_is)
  (case kW=>k_is)
  (case aC_Heap=>k_is)
  (case pg_Heap=>k_is)
  (case hd_Heap=>k_is)
  (case po_Heap=>k_is)
  (case sa_Heap=>k_is)
  (case mk_Heap=>k_is)
  (case kc_Heap=>k_is)
  (case fm_Heap___init__=>k_is)
  (case fm_Heap_kind=>k_is)
  (case kY=>k_is)
  (case iu=>k_is)
  (case m5=>k_is)
  (case lU=>k_is)
  (case aC_Add=>k_is)
  (case pg_Add=>k_is)
  (case hd_Add=>k_is)
  (case po_Add=>k_is)
  (case sa_Add=>k_is)
  (case mk_Add=>k_is)
  (case kc_Add=>k_is)
  (case fm_Add___init__=>k_is)
  (case fm_Add_kind=>k_is)
  (case nZ=>k_is)
  (case jj=>k_is)
  (case pR=>k_is)
  (case nQ=>k_is)
  (case aC_Less=>k_is)
  (case pg_Less=>k_is)
  (case hd_Less=>k_is)
  (case po_Less=>k_is)
  (case sa_Less=>k_is)
  (case mk_Less=>k_is)
  (case kc_Less=>k_is)
  (case fm_Less___init__=>k_is)
  (case fm_Less_kind=>k_is)
  (case lu=>k_is)
  (case il=>k_is)
  (case m7=>k_is)
  (case lC=>k_is)
  (case aC_Order=>k_is)
  (case pg_Order=>k_is)
  (case hd_Order=>k_is)
  (case po_Order=>k_is)
  (case sa_Order=>k_is)
  (case mk_Order=>k_is)
  (case kc_Order=>k_is)
  (case fm_Order___init__=>k_is)
  (case fm_Order_kind=>k_is)
  (case jG=>k_is)
  (case gB=>k_is)
  (case lN=>k_is)
  (case jD=>k_is)
  (case aC_Choose=>k_is)
  (case pg_Choose=>k_is)
  (case hd_Choose=>k_is)
  (case po_Choose=>k_is)
  (case sa_Choose=>k_is)
  (case mk_Choose=>k_is)
  (case kc_Choose=>k_is)
  (case fm_Choose___init__=>k_is)
  (case fm_Choose_kind=>k_is)
  (case jc=>k_is)
  (case fM=>k_is)
  (case jH=>k_is)
  (case iZ=>k_is)
  (case aC_Split=>k_is)
  (case pg_Split=>k_is)
  (case hd_Split=>k_is)
  (case po_Split=>k_is)
  (case sa_Split=>k_is)
  (case mk_Split=>k_is)
  (case kc_Split=>k_is)
  (case fm_Split___init__=>k_is)
  (case fm_Split_kind=>k_is)
  (case jE=>k_is)
  (case gq=>k_is)
  (case lQ=>k_is)
  (case jF=>k_is)
  (case aC_Net=>k_is)
  (case pg_Net=>k_is)
  (case hd_Net=>k_is)
  (case po_Net=>k_is)
  (case sa_Net=>k_is)
  (case mk_Net=>k_is)
  (case kc_Net=>k_is)
  (case fm_Net___init__=>k_is)
  (case fm_Net_lane_names=>k_is)
  (case fm_Net_part_names=>k_is)
  (case fm_Net_odd=>k_is)
  (case fm_Net_need_lane_name=>k_is)
  (case fm_Net_room_of=>k_is)
  (case fm_Net_first_of=>k_is)
  (case fm_Net_giver_of=>k_is)
  (case fm_Net_taker_of=>k_is)
  (case fm_Net_told=>k_is)
  (case cG=>k_is)
  (case eU=>k_is)
  (case cT=>k_is)
  (case dJ=>k_is)
  (case dM=>k_is)
  (case pc_LaneError=>k_is)
  (case pc_BadWord=>k_is)
  (case pc_NoSuch=>k_is)
  (case pc_NotCalm=>k_is)
  (case pc_TooFast=>k_is)
  (case fi_NoSuch=>k_is)
  (case fi_NotCalm=>k_is)
  (case fi_TooFast=>k_is)
  (case i0=>k_is)
  (case l0=>k_is)
  (case c0=>k_is)
  (case k0=>k_is)
  (case i1=>k_is)
  (case l1=>k_is)
  (case c1=>k_is)
  (case k1=>k_is)
  (case i2=>k_is)
  (case l2=>k_is)
  (case c2=>k_is)
  (case k2=>k_is)
  (case a3=>k_is)
  (case l3=>k_is)
  (case c3=>k_is)
  (case k3=>k_is)
  (case a4=>k_is)
  (case l4=>k_is)
  (case c4=>k_is)
  (case k4=>k_is)
  (case i5=>k_is)
  (case l5=>k_is)
  (case c5=>k_is)
  (case k5=>k_is)
  (case i6=>k_is)
  (case l6=>k_is)
  (case c6=>k_is)
  (case k6=>k_is)
  (case i7=>k_is)
  (case l7=>k_is)
  (case c7=>k_is)
  (case k7=>k_is)
  (case i8=>k_is)
  (case l8=>k_is)
  (case c8=>k_is)
  (case k8=>k_is)
  (case i9=>k_is)
  (case l9=>k_is)
  (case c9=>k_is)
  (case k9=>k_is)
  (case i10=>k_is)
  (case l10=>k_is)
  (case c10=>k_is)
  (case k10=>k_is)
  (case i11=>k_is)
  (case l11=>k_is)
  (case c11=>k_is)
  (case k11=>k_is)
  (case i12=>k_is)
  (case l12=>k_is)
  (case c12=>k_is)
  (case k12=>k_is)
  (case i13=>k_is)
  (case l13=>k_is)
  (case c13=>k_is)
  (case k13=>k_is)
  (case i14=>k_is)
  (case l14=>k_is)
  (case c14=>k_is)
  (case k14=>k_is)
  (case i15=>k_is)
  (case l15=>k_is)
  (case c15=>k_is)
  (case k15=>k_is)
  (case i16=>k_is)
  (case l16=>k_is)
  (case c16=>k_is)
  (case k16=>k_is)
  (case a17=>k_is)
  (case l17=>k_is)
  (case c17=>k_is)
  (case k17=>k_is)
  (case a18=>k_is)
  (case l18=>k_is)
  (case c18=>k_is)
  (case k18=>k_is)
  (case a19=>k_is)
  (case l19=>k_is)
  (case c19=>k_is)
  (case k19=>k_is)
  (case a20=>k_is)
  (case l20=>k_is)
  (case c20=>k_is)
  (case k20=>k_is)
  (case a21=>k_is)
  (case l21=>k_is)
  (case c21=>k_is)
  (case k21=>k_is)
  (case a22=>k_is)
  (case l22=>k_is)
  (case c22=>k_is)
  (case k22=>k_is)
  (case a23=>k_is)
  (case l23=>k_is)
  (case c23=>k_is)
  (case k23=>k_is)
  (case a24=>k_is)
  (case l24=>k_is)
  (case c24=>k_is)
  (case k24=>k_is)
  (case a25=>k_is)
  (case l25=>k_is)
  (case c25=>k_is)
  (case k25=>k_is)
  (case a26=>k_is)
  (case l26=>k_is)
  (case c26=>k_is)
  (case k26=>k_is)
  (case a27=>k_is)
  (case l27=>k_is)
  (case c27=>k_is)
  (case k27=>k_is)
  (case a28=>k_is)
  (case l28=>k_is)
  (case c28=>k_is)
  (case k28=>k_is)
  (case a29=>k_is)
  (case l29=>k_is)
  (case c29=>k_is)
  (case k29=>k_is)
  (case a30=>k_is)
  (case l30=>k_is)
  (case c30=>k_is)
  (case k30=>k_is)
  (case a31=>k_is)
  (case l31=>k_is)
  (case c31=>k_is)
  (case k31=>k_is)
  (case a32=>k_is)
  (case l32=>k_is)
  (case c32=>k_is)
  (case k32=>k_is)
  (case a33=>k_is)
  (case l33=>k_is)
  (case c33=>k_is)
  (case k33=>k_is)
  (case a34=>k_is)
  (case l34=>k_is)
  (case c34=>k_is)
  (case k34=>k_is)
  (case a35=>k_is)
  (case l35=>k_is)
  (case c35=>k_is)
  (case k35=>k_is)
  (case a36=>k_is)
  (case l36=>k_is)
  (case c36=>k_is)
  (case k36=>k_is)
  (case a37=>k_is)
  (case l37=>k_is)
  (case c37=>k_is)
  (case k37=>k_is)
  (case a38=>k_is)
  (case l38=>k_is)
  (case c38=>k_is)
  (case k38=>k_is)
  (case a39=>k_is)
  (case l39=>k_is)
  (case c39=>k_is)
  (case k39=>k_is)
  (case a40=>k_is)
  (case l40=>k_is)
  (case c40=>k_is)
  (case k40=>k_is)
  (case a41=>k_is)
  (case l41=>k_is)
  (case c41=>k_is)
  (case k41=>k_is)
  (case i42=>k_is)
  (case l42=>k_is)
  (case c42=>k_is)
  (case k42=>k_is)
  (case i43=>k_is)
  (case l43=>k_is)
  (case c43=>k_is)
  (case k43=>k_is)
  (case i44=>k_is)
  (case l44=>k_is)
  (case c44=>k_is)
  (case k44=>k_is)
  (case i45=>k_is)
  (case l45=>k_is)
  (case c45=>k_is)
  (case k45=>k_is)
  (case i46=>k_is)
  (case l46=>k_is)
  (case c46=>k_is)
  (case k46=>k_is)
  (case i47=>k_is)
  (case l47=>k_is)
  (case c47=>k_is)
  (case k47=>k_is)
  (case i48=>k_is)
  (case l48=>k_is)
  (case c48=>k_is)
  (case k48=>k_is)
  (case i49=>k_is)
  (case l49=>k_is)
  (case c49=>k_is)
  (case k49=>k_is)
  (case a50=>k_is)
  (case l50=>k_is)
  (case c50=>k_is)
  (case k50=>k_is)
  (case i51=>k_is)
  (case l51=>k_is)
  (case c51=>k_is)
  (case k51=>k_is)
  (case i52=>k_is)
  (case l52=>k_is)
  (case c52=>k_is)
  (case k52=>k_is)
  (case a53=>k_is)
  (case l53=>k_is)
  (case c53=>k_is)
  (case k53=>k_is)
  (case a54=>k_is)
  (case l54=>k_is)
  (case c54=>k_is)
  (case k54=>k_is)
  (case a55=>k_is)
  (case l55=>k_is)
  (case c55=>k_is)
  (case k55=>k_is)
  (case a56=>k_is)
  (case l56=>k_is)
  (case c56=>k_is)
  (case k56=>k_is)
  (case a57=>k_is)
  (case l57=>k_is)
  (case c57=>k_is)
  (case k57=>k_is)
  (case a58=>k_is)
  (case l58=>k_is)
  (case c58=>k_is)
  (case k58=>k_is)
  (case a59=>k_is)
  (case l59=>k_is)
  (case c59=>k_is)
  (case k59=>k_is)
  (case a60=>k_is)
  (case l60=>k_is)
  (case c60=>k_is)
  (case k60=>k_is)
  (case a61=>k_is)
  (case l61=>k_is)
  (case c61=>k_is)
  (case k61=>k_is)
  (case a62=>k_is)
  (case l62=>k_is)
  (case c62=>k_is)
  (case k62=>k_is)
  (case a63=>k_is)
  (case l63=>k_is)
  (case c63=>k_is)
  (case k63=>k_is)
  (case a64=>k_is)
  (case l64=>k_is)
  (case c64=>k_is)
  (case k64=>k_is)
  (case a65=>k_is)
  (case l65=>k_is)
  (case c65=>k_is)
  (case k65=>k_is)
  (case a66=>k_is)
  (case l66=>k_is)
  (case c66=>k_is)
  (case k66=>k_is)
  (case a67=>k_is)
  (case l67=>k_is)
  (case c67=>k_is)
  (case k67=>k_is)
  (case a68=>k_is)
  (case l68=>k_is)
  (case c68=>k_is)
  (case k68=>k_is)
  (case z_all=>k_is)
  (case z_bool=>k_is)
  (case z_dict=>k_is)
  (case z_int=>k_is)
  (case z_isinstance=>k_is)
  (case z_len=>k_is)
  (case z_list=>k_is)
  (case z_max=>k_is)
  (case z_range=>k_is)
  (case z_reversed=>k_is)
  (case z_str=>k_is)
  (case z_tuple=>k_is)
  (case y_VALUES=>k_is)
  (case r_VALUES=>exact⟨_,rfl⟩)
  (case y_LETTERS=>k_is)
  (case r_LETTERS=>exact⟨_,rfl⟩)
  (case y_LONGEST_NAME=>k_is)
  (case r_LONGEST_NAME=>exact⟨_,rfl⟩)
  (case y_FIGURES=>k_is)
  (case r_FIGURES=>exact⟨_,rfl⟩)
  (case y_MOST_LANES=>k_is)
  (case r_MOST_LANES=>exact⟨_,rfl⟩)
  (case y_MOST_PARTS=>k_is)
  (case r_MOST_PARTS=>exact⟨_,rfl⟩)
  (case y_MOST_ROOM=>k_is)
  (case r_MOST_ROOM=>exact⟨_,rfl⟩)
  (case y_MOST_BOTTOM=>k_is)
  (case r_MOST_BOTTOM=>exact⟨_,rfl⟩)
  (case yt_COUNTS=>k_is)
  (case rt_COUNTS=>
   refine' L2.KTab.mk' ?lk ?c1 ?c2 ?c3 ?c4 ?sm ?rows ?nd
   (case lk=>k_is)
   (case c1=>exact rfl)
   (case c2=>exact rfl)
   (case c3=>exact rfl)
   (case c4=>exact rfl)
   (case sm=>exact rfl)
   (case nd=>decide +kernel)
   (case rows=>
    refine' L2.KRows.cons ?hh0 ?lk0 ?cc0 ?dd0 ?vv0 ?zz0 ?rest0
    (case hh0=>exact rfl)
    (case lk0=>k_is)
    (case cc0=>exact rfl)
    (case dd0=>exact rfl)
    (case vv0=>exact .cons ⟨_,rfl⟩ (.cons ⟨_,rfl⟩ (.cons ⟨_,rfl⟩ .nil)))
    (case zz0=>decide)
    refine' L2.KRows.cons ?hh1 ?lk1 ?cc1 ?dd1 ?vv1 ?zz1 ?rest1
    (case hh1=>exact rfl)
    (case lk1=>k_is)
    (case cc1=>exact rfl)
    (case dd1=>exact rfl)
    (case vv1=>exact .cons ⟨_,rfl⟩ (.cons ⟨_,rfl⟩ (.cons ⟨_,rfl⟩ .nil)))
    (case zz1=>decide)
    refine' L2.KRows.cons ?hh2 ?lk2 ?cc2 ?dd2 ?vv2 ?zz2 ?rest2
    (case hh2=>exact rfl)
    (case lk2=>k_is)
    (case cc2=>exact rfl)
    (case dd2=>exact rfl)
    (case vv2=>exact .cons ⟨_,rfl⟩ (.cons ⟨_,rfl⟩ (.cons ⟨_,rfl⟩ .nil)))
    (case zz2=>decide)
    refine' L2.KRows.cons ?hh3 ?lk3 ?cc3 ?dd3 ?vv3 ?zz3 ?rest3
    (case hh3=>exact rfl)
    (case lk3=>k_is)
    (case cc3=>exact rfl)
    (case dd3=>exact rfl)
    (case vv3=>exact .cons ⟨_,rfl⟩ (.cons ⟨_,rfl⟩ (.cons ⟨_,rfl⟩ .nil)))
    (case zz3=>decide)
    refine' L2.KRows.cons ?hh4 ?lk4 ?cc4 ?dd4 ?vv4 ?zz4 ?rest4
    (case hh4=>exact rfl)
    (case lk4=>k_is)
    (case cc4=>exact rfl)
    (case dd4=>exact rfl)
    (case vv4=>exact .cons ⟨_,rfl⟩ (.cons ⟨_,rfl⟩ (.cons ⟨_,rfl⟩ .nil)))
    (case zz4=>decide)
    refine' L2.KRows.cons ?hh5 ?lk5 ?cc5 ?dd5 ?vv5 ?zz5 ?rest5
    (case hh5=>exact rfl)
    (case lk5=>k_is)
    (case cc5=>exact rfl)
    (case dd5=>exact rfl)
    (case vv5=>exact .cons ⟨_,rfl⟩ (.cons ⟨_,rfl⟩ (.cons ⟨_,rfl⟩ .nil)))
    (case zz5=>decide)
    refine' L2.KRows.cons ?hh6 ?lk6 ?cc6 ?dd6 ?vv6 ?zz6 ?rest6
    (case hh6=>exact rfl)
    (case lk6=>k_is)
    (case cc6=>exact rfl)
    (case dd6=>exact rfl)
    (case vv6=>exact .cons ⟨_,rfl⟩ (.cons ⟨_,rfl⟩ (.cons ⟨_,rfl⟩ .nil)))
    (case zz6=>decide)
    refine' L2.KRows.cons ?hh7 ?lk7 ?cc7 ?dd7 ?vv7 ?zz7 ?rest7
    (case hh7=>exact rfl)
    (case lk7=>k_is)
    (case cc7=>exact rfl)
    (case dd7=>exact rfl)
    (case vv7=>exact .cons ⟨_,rfl⟩ (.cons ⟨_,rfl⟩ (.cons ⟨_,rfl⟩ .nil)))
    (case zz7=>decide)
    refine' L2.KRows.cons ?hh8 ?lk8 ?cc8 ?dd8 ?vv8 ?zz8 ?rest8
    (case hh8=>exact rfl)
    (case lk8=>k_is)
    (case cc8=>exact rfl)
    (case dd8=>exact rfl)
    (case vv8=>exact .cons ⟨_,rfl⟩ (.cons ⟨_,rfl⟩ (.cons ⟨_,rfl⟩ .nil)))
    (case zz8=>decide)
    refine' L2.KRows.cons ?hh9 ?lk9 ?cc9 ?dd9 ?vv9 ?zz9 ?rest9
    (case hh9=>exact rfl)
    (case lk9=>k_is)
    (case cc9=>exact rfl)
    (case dd9=>exact rfl)
    (case vv9=>exact .cons ⟨_,rfl⟩ (.cons ⟨_,rfl⟩ (.cons ⟨_,rfl⟩ .nil)))
    (case zz9=>decide)
    refine' L2.KRows.cons ?hh10 ?lk10 ?cc10 ?dd10 ?vv10 ?zz10 ?rest10
    (case hh10=>exact rfl)
    (case lk10=>k_is)
    (case cc10=>exact rfl)
    (case dd10=>exact rfl)
    (case vv10=>exact .cons ⟨_,rfl⟩ (.cons ⟨_,rfl⟩ (.cons ⟨_,rfl⟩ .nil)))
    (case zz10=>decide)
    exact .nil))
  (case pb1=>kernel_rfl)
  (case pb2=>kernel_rfl)
  (case pb3=>kernel_rfl)
  (case po_BadWord_BadWord=>kernel_rfl)
  (case po_BadWord_NotCalm=>kernel_rfl)
  (case po_BadWord_TooFast=>kernel_rfl)
  (case po_NotCalm_BadWord=>kernel_rfl)
  (case po_NotCalm_NotCalm=>kernel_rfl)
  (case po_NotCalm_TooFast=>kernel_rfl)
  (case po_TooFast_BadWord=>kernel_rfl)
  (case po_TooFast_NotCalm=>kernel_rfl)
  (case po_TooFast_TooFast=>kernel_rfl)
  (case pu_BadWord_LaneError=>kernel_rfl)
  (case pu_NotCalm_LaneError=>kernel_rfl)
  (case pu_TooFast_LaneError=>kernel_rfl)
  (case px_LaneError=>kernel_rfl)
  (case px_BadWord=>kernel_rfl)
  (case pq_BadWord=>kernel_rfl)
  (case px_NoSuch=>kernel_rfl)
  (case pk_NoSuch=>kernel_rfl)
  (case pq_NoSuch=>kernel_rfl)
  (case pn_NoSuch=>kernel_rfl)
  (case px_NotCalm=>kernel_rfl)
  (case pk_NotCalm=>kernel_rfl)
  (case pq_NotCalm=>kernel_rfl)
  (case pn_NotCalm=>kernel_rfl)
  (case px_TooFast=>kernel_rfl)
  (case pk_TooFast=>kernel_rfl)
  (case pq_TooFast=>kernel_rfl)
  (case pn_TooFast=>kernel_rfl)
