import PyProof.Rows.All
import Wide.All
import OpenK.AllK
import Wide.FinOn
import Lean
import PyProof.EqAt
import PyProof.EqKinds
import PyProof.TupleCall
import PyProof.StrLawsChain
import PyProof.StrLawsOccR
import PyProof.StrLawsReplace
import PyProof.NeKinds
import PyProof.EnumStmt
import PyProof.EnumMake
import PyProof.ListRange
import PyProof.StationsW
import PyProof.ExcClass2
import PyProof.ExcInit
import PyProof.InstStoreFacts
import OpenK.KRaise
import PyProof.NsDelKeeps
import PyProof.RulesAs
import PyProof.Rows.Catch
import OpenK.KOwn
import PyProof.ExcArgsOwn
import PyProof.ExcAttrAll.ValueError
import PyProof.IsiBase
import PyProof.MaxThree
import PyProof.SeqI3
import KE.KIsAll
import KE.IntTextLaws
import PyProof.StrLawsIdx
import PyProof.FitsInt
import PySem.Challenge.RW_holdlane_k54_whole_stood_still
set_option Elab.async false
set_option linter.all false
set_option maxRecDepth 100000
namespace L2
open PySem PySem.Spec PyProof.Rows
noncomputable abbrev Key:=Sum Int Str
noncomputable def Ay:Key->Value->Bool
 | .inl k,v=>Value.isInt k v
 | .inr x,v=>Value.isStrOf x v
noncomputable def YD (w:World):Key->Int
 | .inl k=>hashInt k
 | .inr x=>hashStr w x
theorem dw:∀{k:Key} {v:Value},Ay k v=true->(∃i t,k=Sum.inl i/\v=Value.int i t)∨(∃x t,k=Sum.inr x/\v=Value.str x t)
 | .inl i,v,h=>by
  obtain⟨t,e⟩:=Value.isInt_shape (k:=i) (v:=v) h
  exact .inl ⟨i,t,rfl,e⟩
 | .inr x,v,h=>by
  obtain⟨t,e⟩:=Value.isStrOf_shape (x:=x) (v:=v) h
  exact .inr ⟨x,t,rfl,e⟩
theorem Qv (i:Int) (t:Tok):Ay (.inl i) (.int i t)=true:=by simp [Ay,Value.isInt]
theorem QC (x:Str) (t:Tok):Ay (.inr x) (.str x t)=true:=by simp [Ay,Value.isStrOf]
theorem Xd (a b:Int):decide ((Sum.inl a:Key)=Sum.inl b)=(a == b):=by
 by_cases e:a=b
 ·subst e;simp
 ·have h:¬(Sum.inl a:Key)=Sum.inl b:=fun q=>e (Sum.inl.inj q)
  rw [decide_eq_false h]
  exact(beq_eq_false_iff_ne.mpr e).symm
theorem Yg (a b:Str):decide ((Sum.inr a:Key)=Sum.inr b)=decide (a=b):=by
 by_cases e:a=b
 ·subst e;simp
 ·have h:¬(Sum.inr a:Key)=Sum.inr b:=fun q=>e (Sum.inr.inj q)
  rw [decide_eq_false h,decide_eq_false e]
theorem XC (a:Int) (b:Str):decide ((Sum.inl a:Key)=Sum.inr b)=false:=decide_eq_false (fun q=>nomatch q)
theorem XD (a:Str) (b:Int):decide ((Sum.inr a:Key)=Sum.inl b)=false:=decide_eq_false (fun q=>nomatch q)
noncomputable def bV (prog:Program) (w:World):PySem.KeyKind prog w Key where
 is:=Ay
 hash:=YD w
 inj:=fun v a b ha hb=>by
  rcases dw ha with ⟨i,t,rfl,rfl⟩ | ⟨x,t,rfl,rfl⟩
  ·rcases dw hb with ⟨j,u,rfl,e⟩ | ⟨y,u,rfl,e⟩
   ·injection e with e1 _;rw [e1]
   ·exact nomatch e
  ·rcases dw hb with ⟨j,u,rfl,e⟩ | ⟨y,u,rfl,e⟩
   ·exact nomatch e
   ·injection e with e1 _;rw [e1]
 byValue:=fun k v h=>by
  rcases dw h with ⟨i,t,rfl,rfl⟩ | ⟨x,t,rfl,rfl⟩ <;> rfl
 pyHash:=fun hv h=>by
  rcases dw hv with ⟨i,t,rfl,rfl⟩ | ⟨x,t,rfl,rfl⟩
  ·exact wpAny_pyHash_int h
  ·exact wpAny_pyHash_str h
 eqBool:=fun hu hv h=>by
  rcases dw hu with ⟨i,t,rfl,rfl⟩ | ⟨x,t,rfl,rfl⟩
  ·rcases dw hv with ⟨j,u,rfl,rfl⟩ | ⟨y,u,rfl,rfl⟩
   ·rw [Xd] at h;exact wpAny_eqBool_int h
   ·rw [XC] at h;exact SeqAt.EqAt.int_str i t y u _ _ _ _ h
  ·rcases dw hv with ⟨j,u,rfl,rfl⟩ | ⟨y,u,rfl,rfl⟩
   ·rw [XD] at h;exact SeqAt.EqAt.str_int x t j u _ _ _ _ h
   ·rw [Yg] at h;exact wpAny_eqBool_str h
 «strs» :=fun k x t v h=>by
  rcases dw h with ⟨i,u,rfl,e⟩ | ⟨y,u,rfl,e⟩
  ·exact nomatch e
  ·injection e with e1 _
   subst e1
   cases v <;> rfl
theorem Ka (prog:Program) (w:World) (i:Int) (t:Tok):(bV prog w).is (.inl i) (.int i t)=true:=Qv i t
theorem lL (prog:Program) (w:World) (x:Str) (t:Tok):(bV prog w).is (.inr x) (.str x t)=true:=QC x t
inductive V where
 | non | bl (b:Bool) | int (i:Int) | str (x:Str) | byt (b:Array UInt8) | flt (b:UInt64) | ref (a:Addr) | ty (n:String)
 deriving DecidableEq
noncomputable def RelV:V->Value->Prop
 | .non,u=>u=Value.none
 | .bl b,u=>u=Value.bool b
 | .int i,u=>∃t,u=Value.int i t
 | .str x,u=>∃t,u=Value.str x t
 | .byt b,u=>∃t,u=Value.bytes b t
 | .flt b,u=>∃t,u=Value.float b t
 | .ref a,u=>u=Value.ref a
 | .ty n,u=>u=Value.type n
noncomputable abbrev Vals:List V->List Value->Prop:=Paired RelV
theorem Vals.length {xs:List V} {us:List Value} (r:Vals xs us):xs.length=us.length:=Paired.length r
theorem Vals.get:∀{xs:List V} {us:List Value} {i:Nat} {x:V},Vals xs us->xs[i]?=some x->∃u,us[i]?=some u/\RelV x u
 | _,_,_,_,.nil,e=>by simp at e
 | _,_,0,_,.cons r _,e=>by simp at e;subst e;exact⟨_,rfl,r⟩
 | _,_,i+1,x,.cons _ t,e=>by
  obtain⟨u,h1,h2⟩:=Vals.get (i:=i) (x:=x) t (by simpa using e)
  exact⟨u,by simpa using h1,h2⟩
theorem Vals.append:∀{xs ys:List V} {us ws:List Value},Vals xs us->Vals ys ws->Vals (xs ++ ys) (us ++ ws)
 | _,_,_,_,.nil,s=>s
 | _,_,_,_,.cons r t,s=>.cons r (Vals.append t s)
theorem Vals.take:∀{xs:List V} {us:List Value} (n:Nat),Vals xs us->Vals (xs.take n) (us.take n)
 | _,_,0,_=>.nil
 | _,_,_+1,.nil=>.nil
 | _,_,n+1,.cons r t=>.cons r (Vals.take n t)
theorem Vals.drop:∀{xs:List V} {us:List Value} (n:Nat),Vals xs us->Vals (xs.drop n) (us.drop n)
 | _,_,0,r=>r
 | _,_,_+1,.nil=>.nil
 | _,_,n+1,.cons _ t=>Vals.drop n t
noncomputable def ud:Option V->Option Value->Prop
 | some v,some u=>RelV v u
 | none,none=>True
 | _,_=>False
noncomputable def KV {κ:Type}:List (κ×V)->List (κ×Value)->Prop:=Paired fun(p:κ×V) (q:κ×Value)=>p.1=q.1/\RelV p.2 q.2
noncomputable def kV:Key->V
 | .inl i=>.int i
 | .inr x=>.str x
inductive HO where
  | lst (xs:List V)
  | tup (xs:List V)
  | dK (kvs:List (Key×V)) | dT (kvs:List (List Key×V))
  | set (S:Int->Bool) (n:Nat)
  | ins (C dx:Addr) (fs:List (Str×V))
  | own (x:Addr)
  | xd (fs:List (Str×V))
  | met (f x:Addr)
  | rng (lo hi:Int)
  | frz (o:Obj) (u:HO)
  | tbl (ps:Array Value)
  | ext (φ:Heap->Prop)
noncomputable abbrev Hp:=Addr->Option HO
noncomputable def upd (H:Hp) (a:Addr) (o:HO):Hp:=fun b=>if b=a then some o else H b
theorem az {H:Hp} {a:Addr} {o:HO}:upd H a o a=some o:=by unfold upd;rw [if_pos rfl]
theorem aM {H:Hp} {a b:Addr} {o:HO} (h:b≠a):upd H a o b=H b:=by unfold upd;rw [if_neg h]
theorem qH {H:Hp} {a:Addr} {o u:HO}:upd (upd H a o) a u=upd H a u:=by
 funext b;unfold upd;split <;> rfl
theorem xg {H:Hp} {a b:Addr} {o u:HO} (h:H a=some o) (h':H b=some u) (d:o≠u):a≠b:=by
 intro e;subst e;rw [h] at h';exact d (Option.some.inj h')
theorem aD {H:Hp} {a b:Addr} {o:HO} (h:H a=some o) (h':H b=none):a≠b:=by
 intro e;subst e;rw [h] at h';cases h'
section
variable (P:Program) (w:World)
noncomputable def fJ (H:Hp) (h:Heap) (a:Addr):HO->Prop
 | .lst xs=>xs.length<=sizeLine/\∃(its:List Value) (n:Nat),Vals xs its/\h.get? a=some { cls:=.type "list",data:=.seq its.toArray n }
 | .tup xs=>xs.length<=sizeLine/\∃its:List Value,Vals xs its/\IsTup h a its.toArray
 | .dK kvs=>kvs.length<=sizeLine/\(a == sysModules)=false/\∃vs,KV kvs vs/\h.DictOf (bV P w) a vs
 | .dT kvs=>kvs.length<=sizeLine/\(a == sysModules)=false/\∃xs:List (List Key×Addr×Value),
   Paired (fun(p:List Key×V) (q:List Key×Addr×Value)=>p.1=q.1/\H q.2.1=some (.tup (p.1.map kV))/\RelV p.2 q.2.2) kvs xs/\
   ∃o es ep,h.get? a=some o/\o.ExactDict/\o.data=.dict es ep/\es.toList=xs.map (entryOfKey (tupleKind (bV P w)))/\(xs.map (·.1)).Nodup
 | .set S n=>h.SetOf (intKind P w) a S n
 | .ins C dx fs=>H dx=some (.own a)/\fs.length<=1000/\dx≠a/\h.get? a=some (PySem.W.instObj C dx)/\
   ∃mA,h.Ns1 dx mA/\(∀f,ud (fs.lookup f) (mA f))/\PySem.Within mA (fs.map (·.1))
 | .own _=>∃o,h.get? a=some o
 | .xd fs=>∃mA,h.Ns1 a mA/\∀f,ud (fs.lookup f) (mA f)
 | .rng lo hi=>∃t u v,h.get? a=some { cls:=.type "range",data:=.fields #[.int lo t,.int hi u,.int 1 v] }
 | .frz o u=>h.get? a=some o/\fJ H h a u
 | .tbl ps=>h.get? a=some { cls:=.none,data:=.fields ps }
 | .met f x=>h.get? a=some (PySem.W.methodObj (.ref f) (.ref x))
 | .ext φ=>φ h/\(∃o,h.get? a=some o)/\∀h1 h2:Heap,φ h1->(∀o,h1.get? a=some o->h2.get? a=some o)->φ h2
noncomputable def wC (H:Hp) (h:Heap):Prop:=∀a o,H a=some o->fJ P w H h a o
end
section
variable {P:Program} {w:World} {H H':Hp} {h h':Heap} {a:Addr} {o:HO}
theorem fJ.lt (x:fJ P w H h a o):a <h.objs.size:=by
 cases o with
 | lst xs=>obtain⟨_,_,_,_,e⟩:=x;exact Heap.lt_size e
 | tup xs=>obtain⟨_,_,_,p⟩:=x;exact p.lt
 | dK kvs=>obtain⟨_,_,_,_,o,_,_,e,_⟩:=x;exact Heap.lt_size e
 | dT kvs=>obtain⟨_,_,_,_,o,_,_,e,_⟩:=x;exact Heap.lt_size e
 | set S n=>obtain⟨o,_,_,_,e,_⟩:=x;exact Heap.lt_size e
 | ins C dx fs=>obtain⟨_,_,_,e,_⟩:=x;exact Heap.lt_size e
 | own y=>obtain⟨_,e⟩:=x;exact Heap.lt_size e
 | xd fs=>obtain⟨_,⟨_,_,_,e,_⟩,_⟩:=x;exact Heap.lt_size e
 | rng lo hi=>obtain⟨_,_,_,e⟩:=x;exact Heap.lt_size e
 | frz ob u=>obtain⟨e,_⟩:=x;exact Heap.lt_size e
 | tbl ps=>exact Heap.lt_size (show h.get? a=some _ from x)
 | met f y=>exact Heap.lt_size (show h.get? a=some _ from x)
 | ext φ=>obtain⟨_,⟨_,e⟩,_⟩:=x;exact Heap.lt_size e
theorem Paired.mapP {α β:Type} {F G:α->β->Prop}:∀{l₁:List α} {l₂:List β},Paired F l₁ l₂->(∀a b,F a b->G a b)->Paired G l₁ l₂
 | _,_,.nil,_=>.nil
 | _,_,.cons r t,f=>.cons (f _ _ r) (Paired.mapP t f)
theorem fJ.stay (x:fJ P w H h a o) (k:∀b u,(b=a∨H b=some (.own a))->h.get? b=some u->h'.get? b=some u)
  (ho:∀b,H b=some (.own a)->H' b=some (.own a)) (ht:∀b xs,H b=some (.tup xs)->H' b=some (.tup xs)):fJ P w H' h' a o:=by
 induction o with
 | lst xs=>obtain⟨z,its,n,r,e⟩:=x;exact⟨z,its,n,r,k _ _ (.inl rfl) e⟩
 | tup xs=>obtain⟨z,its,r,ob,e,c⟩:=x;exact⟨z,its,r,ob,k _ _ (.inl rfl) e,c⟩
 | dK kvs=>obtain⟨z,y,vs,r,ob,es,ep,e,c⟩:=x;exact⟨z,y,vs,r,ob,es,ep,k _ _ (.inl rfl) e,c⟩
 | dT kvs=>
  obtain⟨z,y,xs,r,ob,es,ep,e,c⟩:=x
  exact⟨z,y,xs,Paired.mapP r fun p q z=>⟨z.1,ht _ _ z.2.1,z.2.2⟩,ob,es,ep,k _ _ (.inl rfl) e,c⟩
 | set S n=>obtain⟨ob,es,ep,t,e,c⟩:=x;exact⟨ob,es,ep,t,k _ _ (.inl rfl) e,c⟩
 | ins C dx fs=>
  obtain⟨d,z,ne,e,mA,⟨od,es,ep,e2,c⟩,r⟩:=x
  exact⟨ho _ d,z,ne,k _ _ (.inl rfl) e,mA,⟨od,es,ep,k _ _ (.inr d) e2,c⟩,r⟩
 | own y=>obtain⟨ob,e⟩:=x;exact⟨ob,k _ _ (.inl rfl) e⟩
 | xd fs=>obtain⟨mA,⟨od,es,ep,e,c⟩,r⟩:=x;exact⟨mA,⟨od,es,ep,k _ _ (.inl rfl) e,c⟩,r⟩
 | rng lo hi=>obtain⟨t,u,v,e⟩:=x;exact⟨t,u,v,k _ _ (.inl rfl) e⟩
 | frz ob u ih=>obtain⟨e,q⟩:=x;exact⟨k _ _ (.inl rfl) e,ih q⟩
 | tbl ps=>
  have e:h.get? a=some { cls:=.none,data:=.fields ps }:=x
  show h'.get? a=some { cls:=.none,data:=.fields ps }
  exact k a _ (.inl rfl) e
 | met f y=>
  have e:h.get? a=some (PySem.W.methodObj (.ref f) (.ref y)):=x
  show h'.get? a=some (PySem.W.methodObj (.ref f) (.ref y))
  exact k a _ (.inl rfl) e
 | ext φ=>obtain⟨p,⟨o,e⟩,st⟩:=x;exact⟨st _ _ p fun o q=>k _ _ (.inl rfl) q,⟨o,k _ _ (.inl rfl) e⟩,st⟩
theorem wC.lt (x:wC P w H h) (e:H a=some o):a <h.objs.size:=(x a o e).lt
theorem wC.fresh (x:wC P w H h) (e:h.objs.size<=a):H a=none:=by
 cases q:H a with
 | none=>rfl
 | some u=>exact absurd (Nat.lt_of_lt_of_le (x.lt q) e) (Nat.lt_irrefl _)
theorem wC.kept (x:wC P w H h) (k:∀b u,h.get? b=some u->h'.get? b=some u):wC P w H h':=fun a o e=>
 (x a o e).stay (fun b u _ q=>k b u q) (fun _ q=>q) fun _ _ q=>q
theorem wC.laid (x:wC P w H h) (k:∀b u,h.get? b=some u->h'.get? b=some u) (hp:h.objs.size<=a) (new:fJ P w (upd H a o) h' a o):wC P w (upd H a o) h':=fun b u e=>by
 have hn:=x.fresh hp
 by_cases hb:b=a
 ·subst hb;rw [az] at e;cases e;exact new
 ·rw [aM hb] at e
  exact(x b u e).stay (fun c v _ q=>k c v q) (fun c q=>by rw [aM (aD q hn)];exact q) fun c xs q=>by rw [aM (aD q hn)];exact q
end
noncomputable def Rd (H:Hp) (a:Addr) (u:HO):Prop:=H a=some u∨∃o,H a=some (.frz o u)
theorem Rd.ok {P:Program} {w:World} {H:Hp} {h:Heap} {a:Addr} {u:HO} (r:Rd H a u) (x:wC P w H h):fJ P w H h a u:=by
 rcases r with r | ⟨o,r⟩
 ·exact x a u r
 ·obtain⟨_,q⟩:=x a _ r
  exact q
noncomputable def YC:Option HO->Prop
 | some (.lst _)=>True
 | some (.dK _)=>True
 | some (.dT _)=>True
 | some (.set _ _)=>True
 | some (.ins _ _ _)=>True
 | some (.ext _)=>True
 | _=>False
section
variable {P:Program} {w:World} {H:Hp} {h h':Heap} {x e:Addr} {o':HO}
theorem wC.write (ok:wC P w H h) (mu:YC (H x)) (he:e=x∨H e=some (.own x)) (k:∀b u,b≠e->h.get? b=some u->h'.get? b=some u) (heo:∃u,h'.get? e=some u)
  (new:fJ P w (upd H x o') h' x o'):wC P w (upd H x o') h':=fun b u q=>by
 have nown:∀c y,H c=some (.own y)->c≠x:=fun c y r z=>by subst z;rw [r] at mu;exact mu
 have ntup:∀c xs,H c=some (.tup xs)->c≠x:=fun c xs r z=>by subst z;rw [r] at mu;exact mu
 by_cases hb:b=x
 ·subst hb;rw [az] at q;cases q;exact new
 ·rw [aM hb] at q
  by_cases hbe:b=e
  ·have q':H b=some (.own x):=by
    rcases he with z | z
    ·exact absurd (hbe.trans z) hb
    ·rw [hbe];exact z
   rw [q] at q';cases q'
   obtain⟨v,hv⟩:=heo
   exact⟨v,by rw [hbe];exact hv⟩
  ·refine(ok b u q).stay (fun c v hc r=>k c v ?_ r) (fun c r=>by rw [aM (nown c b r)];exact r) fun c xs r=>by rw [aM (ntup c xs r)];exact r
   rcases hc with rfl | hc
   ·exact hbe
   ·rintro rfl
    rcases he with z | z
    ·exact nown c b hc z
    ·rw [hc] at z;cases z;exact hb rfl
end
structure Un (fs ex:List Addr) (H H':Hp) (h h':Heap):Prop where
 keep:∀b o,h.get? b=some o->H b=none->b∉fs->b∉ex->h'.get? b=some o
 slot:∀b o,h.get? b=some o->H b=none->b∈fs->b∉ex->∃sl,h'.get? b=some { o with slots:=sl }
 free:∀b o,h.get? b=some o->H b=none->b∉ex->H' b=none
 there:∀b o,h.get? b=some o->b∉ex->∃o',h'.get? b=some o'
 tups:∀b xs,H b=some (.tup xs)->H' b=some (.tup xs)
 frzs:∀b o u,H b=some (.frz o u)->H' b=some (.frz o u)
 tbls:∀b ps,H b=some (.tbl ps)->∃more,H' b=some (.tbl (ps ++ more))
section
variable {fs fs' ex ex':List Addr} {H H1 H2:Hp} {h h1 h2 h':Heap} {a x e:Addr} {o:HO}
theorem Un.any (u:Un fs ex H H1 h h1) {b:Addr} {ob:Obj} (q:h.get? b=some ob) (n:H b=none) (hx:b∉ex):∃sl,h1.get? b=some { ob with slots:=sl }:=by
 by_cases hb:b∈fs
 ·exact u.slot b ob q n hb hx
 ·exact⟨ob.slots,u.keep b ob q n hb hx⟩
theorem Un.kept (k:∀b u,h.get? b=some u->h'.get? b=some u):Un fs ex H H h h':=
 ⟨fun b ob q _ _ _=>k b ob q,fun b ob q _ _ _=>⟨ob.slots,k b ob q⟩,fun _ _ _ n _=>n,fun b ob q _=>⟨ob,k b ob q⟩,fun _ _ q=>q,fun _ _ _ q=>q,fun _ ps q=>⟨#[],by rw [q];simp⟩⟩
theorem Un.refl:Un fs ex H H h h:=Un.kept fun _ _ q=>q
theorem Un.laid (k:∀b u,h.get? b=some u->h'.get? b=some u) (hp:h.objs.size<=a) (hn:H a=none):Un fs ex H (upd H a o) h h' where
 keep:=fun b u q _ _ _=>k b u q
 slot:=fun b u q _ _ _=>⟨u.slots,k b u q⟩
 free:=fun b u q n _=>by rw [aM (Nat.ne_of_lt (Nat.lt_of_lt_of_le (Heap.lt_size q) hp))];exact n
 there:=fun b u q _=>⟨u,k b u q⟩
 tups:=fun b xs q=>by rw [aM (aD q hn)];exact q
 frzs:=fun b u xs q=>by rw [aM (aD q hn)];exact q
 tbls:=fun b ps q=>⟨#[],by rw [aM (aD q hn),q];simp⟩
theorem Un.write (mu:YC (H x)) (he:e=x∨H e=some (.own x)) (k:∀b u,b≠e->h.get? b=some u->h'.get? b=some u) (heo:∃u,h'.get? e=some u):Un fs ex H (upd H x o) h h':=by
 have hx:∀b,H b=none->b≠x:=fun b n z=>by subst z;rw [n] at mu;exact mu
 have hb:∀b,H b=none->b≠e:=fun b n z=>by
  subst z
  rcases he with r | r
  ·exact hx b n r
  ·rw [n] at r;cases r
 have hm:∀b u,H b=some u->¬YC (some u)->b≠x:=fun b u q nm z=>by subst z;rw [q] at mu;exact nm mu
 refine⟨fun b u q n _ _=>k b u (hb b n) q,fun b u q n _ _=>⟨u.slots,k b u (hb b n) q⟩,fun b u q n _=>by rw [aM (hx b n)];exact n,fun b u q _=>?_,
  fun b xs q=>by rw [aM (hm b _ q fun z=>z)];exact q,fun b u xs q=>by rw [aM (hm b _ q fun z=>z)];exact q,fun b ps q=>⟨#[],by rw [aM (hm b _ q fun z=>z),q];simp⟩⟩
 by_cases hbe:b=e
 ·subst hbe;exact heo
 ·exact⟨u,k b u hbe q⟩
end
noncomputable def ZW (h:Heap) (H:Hp):List Addr:=(List.range h.objs.size).filter fun a=>(H a).isSome
noncomputable def Jr (h:Heap) (H:Hp):Heap:=PySem.W.hideAll h (ZW h H)
theorem Qg (h:Heap) (H:Hp):(Jr h H).objs.size=h.objs.size:=PySem.W.hideAll_size _ _
theorem Tf {h:Heap} {H:Hp} {b:Addr} {o:Obj} (e:h.get? b=some o) (n:H b=none):(Jr h H).get? b=some o:=
 PySem.W.hideAll_get _ e fun hm=>by
  have q:(H b).isSome=true:=(List.mem_filter.mp hm).2
  rw [n] at q;simp at q
theorem Vw {h:Heap} {H:Hp} {b:Addr} {o:Obj} (e:(Jr h H).get? b=some o):h.get? b=some o/\H b=none:=by
 have e':h.get? b=some o:=PySem.W.of_hideAll (ZW h H) e
 refine⟨e',?_⟩
 cases q:H b with
 | none=>rfl
 | some x=>
  have hm:b∈ZW h H:=List.mem_filter.mpr ⟨List.mem_range.mpr (Heap.lt_size e'),by simp [q]⟩
  have z:(Jr h H).get? b=none:=PySem.W.hideAll_none (ZW h H) hm
  rw [z] at e;cases e
structure Mod (K:PySem.W.Frag) (mg:Str->Option Value) (base:Heap):Prop where
 kin:K.In base
 glob:base.Ns mainGlobals mg
 blt:∃mb,base.Ns builtinsNs mb/\∀x:Str,x≠ "__name__" ->mb x=bootBuiltins x
 nolimit:base.NoLimit
structure Cx where
 prog:Program
 w:World
 K:PySem.W.Frag
 mg:Str->Option Value
 base:Heap
 A:Around
 N:List Str
 s₀:Shared
 H₀:Hp
 env:Env
 outer:List Env
 stack:List Env
 ex:List Addr
 fn:Str->Bool
 calm:Bool
 pn:List (Addr×Obj)
 xe:Value->Shared->Prop
noncomputable def frs (l:List Env):List Addr:=l.filterMap (·.frame)
noncomputable abbrev Cx.fs (X:Cx):List Addr:=frs X.outer
noncomputable def ZV (sc:Scope) (x:Str):Prop:=sc.names.lookup x=some .local∨sc.names.lookup x=some .cell∨sc.names.lookup x=some .free
noncomputable def Loc (sc:Scope) (x:Str):Prop:=sc.names.lookup x=some .local∨sc.names.lookup x=some .cell
noncomputable def Look (env:Env) (h:Heap) (m:Str->Option Value) (x:Str) (u:Value):Prop:=
 (env.kindOf x=some .local/\m x=some u)∨((env.kindOf x=some .cell∨env.kindOf x=some .free)/\∃c,env.cells.lookup x=some c/\h.IsCell c (some u))
structure Cx.Ok (X:Cx):Prop where
 mod:Mod X.K X.mg X.base
 kind:X.env.scope.kind=.function
 glob:X.env.globals=mainGlobals
 blt:X.env.builtins=builtinsNs
 above:X.s₀.heap.objs.size<=X.env.locals
 inj:∀x y c,X.env.cells.lookup x=some c->X.env.cells.lookup y=some c->x=y
 has:∀x,(X.env.kindOf x=some .cell∨X.env.kindOf x=some .free)->∃c,X.env.cells.lookup x=some c
 cab:∀x c,X.fn x=true->X.env.cells.lookup x=some c->X.s₀.heap.objs.size<=c
 hd:X.calm=true->X.A.handled=none
 frames:X.A.frames=some X.stack
 stk:X.stack=X.outer∨(X.stack=X.env:: X.outer/\X.env.frame=some X.env.locals)
 exf:∀b∈X.ex,b≠X.env.locals/\∀x c,X.env.cells.lookup x=some c->c≠b
 bs:∀b o,X.base.get? b=some o->X.s₀.heap.get? b=some o/\X.H₀ b=none
 bsz:X.base.objs.size<=X.s₀.heap.objs.size
 noex:∀b o,X.base.get? b=some o->b∉X.ex
 exfs:∀b∈X.ex,b∉X.fs
 funs:X.s₀.heap.FunFrames X.base X.outer
 frf:∀b∈X.fs,X.H₀ b=none
structure Inv (X:Cx) (pins:List (Addr×Obj)) (σ:List (Option V)) (H:Hp) (s:Shared):Prop where
 ok:X.Ok
 os:s.os=X.s₀.os
 bare:AllBare s.gens
 base:Un X.fs X.ex X.H₀ H X.s₀.heap s.heap
 loc:∃m,s.heap.Ns X.env.locals m/\∀(i:Nat) (x:Str) (v:V),X.N[i]?=some x->σ[i]?=some (some v)->ZV X.env.scope x->∃u,RelV v u/\Look X.env s.heap m x u
 cell:∀x c,X.env.cells.lookup x=some c->∃v,s.heap.IsCell c v
 free:H X.env.locals=none
 freeC:∀x c,X.env.cells.lookup x=some c->H c=none
 pin:∀p∈X.pn ++ pins,s.heap.get? p.1=some p.2/\H p.1=none/\p.1≠X.env.locals/\p.1∉X.fs/\∀v,p.2.data≠.cell v
 hok:wC X.prog X.w H s.heap
 len:σ.length=X.N.length
section
variable {X:Cx} {pins:List (Addr×Obj)} {σ:List (Option V)} {H H':Hp} {s:Shared} {h':Heap}
theorem Cx.Ok.nofr (ok:X.Ok) {b:Addr} {o:Obj} (e:X.base.get? b=some o):b∉X.fs:=fun hb=>by
 have:=(ok.funs.mem hb).1
 rw [e] at this;cases this
theorem Inv.bs (I:Inv X pins σ H s):∀b o,X.base.get? b=some o->s.heap.get? b=some o/\H b=none:=fun b o e=>
 ⟨I.base.keep b o (I.ok.bs b o e).1 (I.ok.bs b o e).2 (I.ok.nofr e) (I.ok.noex b o e),I.base.free b o (I.ok.bs b o e).1 (I.ok.bs b o e).2 (I.ok.noex b o e)⟩
theorem Inv.bk (I:Inv X pins σ H s):∀b o,X.base.get? b=some o->s.heap.get? b=some o:=fun b o e=>(I.bs b o e).1
theorem Inv.mod (I:Inv X pins σ H s):Mod X.K X.mg X.base:=I.ok.mod
theorem Inv.kIn (I:Inv X pins σ H s):X.K.In s.heap:=I.ok.mod.kin.keeps I.bk
theorem Inv.lt (I:Inv X pins σ H s):X.env.locals <s.heap.objs.size:=let ⟨_,hn,_⟩:=I.loc;hn.lt
theorem Inv.sz (I:Inv X pins σ H s):X.s₀.heap.objs.size<=s.heap.objs.size:=Nat.le_trans I.ok.above (Nat.le_of_lt I.lt)
theorem Inv.nofs (I:Inv X pins σ H s) {a:Addr} (h:s.heap.objs.size<=a):a∉X.fs:=fun hb=>by
 obtain⟨_,o,ho,_⟩:=I.ok.funs.mem hb
 exact absurd (Nat.lt_of_lt_of_le (Heap.lt_size ho) (Nat.le_trans I.sz h)) (Nat.lt_irrefl _)
theorem Inv.cne (I:Inv X pins σ H s):∀x c,X.env.cells.lookup x=some c->c≠X.env.locals:=fun x c e z=>by
 obtain⟨v,o,ho,hd⟩:=I.cell x c e
 obtain⟨m,⟨o',es,ep,ho',hd',_⟩,_⟩:=I.loc
 rw [z,ho'] at ho;cases ho;rw [hd'] at hd;cases hd
theorem Inv.funs (I:Inv X pins σ H s):s.heap.FunFrames X.base X.outer:=by
 have all:∀(l:List Env),(∀b∈frs l,b∈X.fs)->X.s₀.heap.FunFrames X.base l->s.heap.FunFrames X.base l:=by
  intro l
  induction l with
  | nil=>intro _ _;trivial
  | cons env r ih=>
   intro hs hl
   obtain⟨hk,⟨L,o,hf,hn,ho,hd⟩,hr⟩:=hl
   have hL:L∈X.fs:=hs L (by unfold frs;rw [List.filterMap_cons,hf];exact List.mem_cons_self)
   obtain⟨sl,e⟩:=I.base.slot L o ho (I.ok.frf L hL) hL fun z=>I.ok.exfs L z hL
   exact⟨hk,⟨L,_,hf,hn,e,hd⟩,ih (fun b hb=>hs b (by unfold frs;rw [List.filterMap_cons,hf];exact List.mem_cons_of_mem _ hb)) hr⟩
 exact all X.outer (fun _ hb=>hb) I.ok.funs
theorem Inv.stack (I:Inv X pins σ H s):s.heap.FunFrames X.base X.stack:=by
 rcases I.ok.stk with e | ⟨e,hf⟩
 ·rw [e];exact I.funs
 ·rw [e]
  obtain⟨m,hn,_⟩:=I.loc
  refine .cons (by rw [I.ok.kind];decide) hf hn ?_ I.funs
  exact Heap.get?_none_of_le (Nat.le_trans I.ok.bsz I.ok.above)
theorem Inv.stkSub (I:Inv X pins σ H s):∀b∈frs X.stack,b∈X.env.locals:: X.fs:=fun b hb=>by
 rcases I.ok.stk with e | ⟨e,hf⟩
 ·rw [e] at hb;exact List.mem_cons_of_mem _ hb
 ·rw [e] at hb
  unfold frs at hb
  rw [List.filterMap_cons,hf] at hb
  exact hb
theorem Inv.stkFree (I:Inv X pins σ H s):∀b∈frs X.stack,H b=none:=fun b hb=>by
 rcases List.mem_cons.mp (I.stkSub b hb) with e | hb
 ·rw [e];exact I.free
 ·obtain⟨_,o,ho,_⟩:=I.ok.funs.mem hb
  exact I.base.free b o ho (I.ok.frf b hb) fun z=>I.ok.exfs b z hb
theorem Inv.step {g':Array GenState} {t':Nat} {d':Drawn} {ch:List Addr} (I:Inv X pins σ H s)
  (hch:∀b∈ch,(b∈X.ex∨X.s₀.heap.objs.size<=b)/\b≠X.env.locals/\(∀x c,X.env.cells.lookup x=some c->c≠b)/\∀p∈X.pn ++ pins,p.1≠b)
  (keep:∀b o,b≠X.env.locals->b∉X.fs->b∉ch->s.heap.get? b=some o->H b=none->h'.get? b=some o)
  (slot:∀b o,b≠X.env.locals->b∈X.fs->b∉ch->s.heap.get? b=some o->H b=none->∃sl,h'.get? b=some { o with slots:=sl }) (free:∀b o,b∉ch->s.heap.get? b=some o->H b=none->H' b=none)
  (there:∀b o,b∉ch->s.heap.get? b=some o->∃o',h'.get? b=some o')
  (tups:∀b xs,H b=some (.tup xs)->H' b=some (.tup xs)) (frzs:∀b o u,H b=some (.frz o u)->H' b=some (.frz o u)) (tbls:∀b ps,H b=some (.tbl ps)->∃more,H' b=some (.tbl (ps ++ more)))
  (ns:∀m,s.heap.Ns X.env.locals m->h'.Ns X.env.locals m) (hok:wC X.prog X.w H' h') (hg:AllBare g'):
  Inv X pins σ H' { s with heap:=h',gens:=g',drawn:=d',toks:=t' }:=by
 have neL:∀b o,X.s₀.heap.get? b=some o->b≠X.env.locals:=fun b o e=>Nat.ne_of_lt (Nat.lt_of_lt_of_le (Heap.lt_size e) I.ok.above)
 have neC:∀b o,X.s₀.heap.get? b=some o->b∉X.ex->b∉ch:=fun b o e hx hb=>by
  rcases(hch b hb).1 with z | z
  ·exact hx z
  ·exact absurd (Nat.lt_of_lt_of_le (Heap.lt_size e) z) (Nat.lt_irrefl _)
 have cellK:∀x c,X.env.cells.lookup x=some c->∀v,s.heap.IsCell c v->h'.IsCell c v:=fun x c e v ⟨o,ho,hd⟩=>by
  have nch:c∉ch:=fun z=>(hch c z).2.2.1 x c e rfl
  by_cases hc:c∈X.fs
  ·obtain⟨sl,q⟩:=slot c o (I.cne x c e) hc nch ho (I.freeC x c e)
   exact⟨_,q,hd⟩
  ·exact⟨o,keep c o (I.cne x c e) hc nch ho (I.freeC x c e),hd⟩
 refine⟨I.ok,I.os,hg,⟨fun b o e n hb hx=>?_,fun b o e n hb hx=>?_,fun b o e n hx=>?_,fun b o e hx=>?_,fun b xs e=>tups b xs (I.base.tups b xs e),fun b o xs e=>frzs b o xs (I.base.frzs b o xs e),fun b ps e=>?_⟩,?_,fun x c e=>?_,?_,fun x c e=>?_,fun p hp=>?_,hok,I.len⟩
 ·exact keep b o (neL b o e) hb (neC b o e hx) (I.base.keep b o e n hb hx) (I.base.free b o e n hx)
 ·obtain⟨sl,e1⟩:=I.base.slot b o e n hb hx
  obtain⟨sl',e2⟩:=slot b _ (neL b o e) hb (neC b o e hx) e1 (I.base.free b o e n hx)
  exact⟨sl',e2⟩
 ·obtain⟨o',e1⟩:=I.base.there b o e hx
  exact free b o' (neC b o e hx) e1 (I.base.free b o e n hx)
 ·obtain⟨o',e1⟩:=I.base.there b o e hx
  exact there b o' (neC b o e hx) e1
 ·obtain⟨m1,e1⟩:=I.base.tbls b ps e
  obtain⟨m2,e2⟩:=tbls b _ e1
  exact⟨m1 ++ m2,by rw [e2,Array.append_assoc]⟩
 ·obtain⟨m,hn,hl⟩:=I.loc
  refine⟨m,ns m hn,fun i x v e1 e2 e3=>?_⟩
  obtain⟨u,r,l⟩:=hl i x v e1 e2 e3
  refine⟨u,r,?_⟩
  rcases l with l | ⟨k,c,e,z⟩
  ·exact .inl l
  ·exact .inr ⟨k,c,e,cellK x c e _ z⟩
 ·obtain⟨v,z⟩:=I.cell x c e
  exact⟨v,cellK x c e v z⟩
 ·obtain⟨m,⟨o,_,_,ho,_⟩,_⟩:=I.loc
  exact free _ o (fun z=>(hch _ z).2.1 rfl) ho I.free
 ·obtain⟨v,o,ho,hd⟩:=I.cell x c e
  exact free c o (fun z=>(hch c z).2.2.1 x c e rfl) ho (I.freeC x c e)
 ·obtain⟨e,n,ne,nf,d⟩:=I.pin p hp
  have nch:p.1∉ch:=fun z=>(hch p.1 z).2.2.2 p hp rfl
  exact⟨keep p.1 p.2 ne nf nch e n,free p.1 p.2 nch e n,ne,nf,d⟩
theorem Inv.un {t':Nat} (I:Inv X pins σ H s) (u:Un X.fs [] H H' s.heap h') (hok:wC X.prog X.w H' h'):Inv X pins σ H' { s with heap:=h',toks:=t' }:=by
 obtain⟨m,⟨o,es,ep,ho,r⟩,_⟩:=id I.loc
 obtain⟨sl,hL⟩:=u.any ho I.free (by simp)
 exact I.step (g':=s.gens) (d':=s.drawn) (ch:=[]) (fun _ z=>nomatch z) (fun b o _ hb _ e n=>u.keep b o e n hb (by simp)) (fun b o _ hb _ e n=>u.slot b o e n hb (by simp)) (fun b o _ e n=>u.free b o e n (by simp)) (fun b o _ e=>u.there b o e (by simp)) u.tups u.frzs u.tbls (fun m' hm=>by
  obtain⟨o',es',ep',ho',r'⟩:=hm
  rw [ho] at ho';cases ho'
  exact⟨_,es',ep',hL,r'⟩) hok I.bare
theorem Inv.call {g':Array GenState} {t':Nat} {d':Drawn} {ch:List Addr} (I:Inv X pins σ H s) (u:Un (frs X.stack) ch H H' s.heap h') (hok:wC X.prog X.w H' h') (hg:AllBare g')
  (hch:∀b∈ch,(b∈X.ex∨X.s₀.heap.objs.size<=b)/\b≠X.env.locals/\(∀x c,X.env.cells.lookup x=some c->c≠b)/\∀p∈X.pn ++ pins,p.1≠b):
  Inv X pins σ H' { s with heap:=h',gens:=g',drawn:=d',toks:=t' }:=by
 obtain⟨m,⟨o,es,ep,ho,r⟩,_⟩:=id I.loc
 obtain⟨sl,hL⟩:=u.any ho I.free fun z=>(hch _ z).2.1 rfl
 exact I.step (ch:=ch) hch (fun b o hL hb hc e n=>u.keep b o e n (fun z=>(List.mem_cons.mp (I.stkSub b z)).elim hL hb) hc) (fun b o _ _ hc e n=>u.any e n hc) (fun b o hc e n=>u.free b o e n hc) (fun b o hc e=>u.there b o e hc) u.tups u.frzs u.tbls (fun m' hm=>by
  obtain⟨o',es',ep',ho',r'⟩:=hm
  rw [ho] at ho';cases ho'
  exact⟨_,es',ep',hL,r'⟩) hok hg
theorem Inv.turned {t':Nat} {it:Addr} (I:Inv X pins σ H s) (k:∀b o,b≠it->s.heap.get? b=some o->h'.get? b=some o) (hn:H it=none) (hL:it≠X.env.locals)
  (h1:it∈X.ex∨X.s₀.heap.objs.size<=it) (h2:∀x c,X.env.cells.lookup x=some c->c≠it) (h3:∀p∈X.pn ++ pins,p.1≠it):Inv X pins σ H { s with heap:=h',toks:=t' }:=by
 have nit:∀b u,H b=some u->b≠it:=fun b u e z=>by rw [z,hn] at e;cases e
 refine I.step (g':=s.gens) (d':=s.drawn) (ch:=[it]) (fun b hb=>?_) (fun b o _ _ hc e _=>k b o (fun z=>hc (by simp [z])) e) (fun b o _ _ hc e _=>⟨o.slots,k b o (fun z=>hc (by simp [z])) e⟩) (fun _ _ _ _ n=>n)
  (fun b o hc e=>⟨o,k b o (fun z=>hc (by simp [z])) e⟩) (fun _ _ e=>e) (fun _ _ _ e=>e) (fun b ps e=>⟨#[],by rw [e];simp⟩) (fun m hm=>?_) (fun b u e=>?_) I.bare
 ·have e:b=it:=by simpa using hb
  subst e
  exact⟨h1,hL,h2,h3⟩
 ·obtain⟨o,es,ep,ho,r⟩:=hm
  exact⟨o,es,ep,k _ o (Ne.symm hL) ho,r⟩
 ·refine(I.hok b u e).stay (fun c v hc q=>k c v ?_ q) (fun _ q=>q) fun _ _ q=>q
  rcases hc with z | z
  ·rw [z];exact nit b u e
  ·exact nit c _ z
theorem Inv.tok (I:Inv X pins σ H s) (t:Nat):Inv X pins σ H { s with toks:=t }:=I.un (h':=s.heap) (t':=t) Un.refl I.hok
theorem Inv.kept {t':Nat} (I:Inv X pins σ H s) (k:∀b u,s.heap.get? b=some u->h'.get? b=some u):Inv X pins σ H { s with heap:=h',toks:=t' }:=I.un (Un.kept k) (I.hok.kept k)
theorem Inv.laid {a:Addr} {o:HO} {t':Nat} (I:Inv X pins σ H s) (k:∀b u,s.heap.get? b=some u->h'.get? b=some u) (hp:s.heap.objs.size<=a) (new:fJ X.prog X.w (upd H a o) h' a o):
  Inv X pins σ (upd H a o) { s with heap:=h',toks:=t' }:=I.un (Un.laid k hp (I.hok.fresh hp)) (I.hok.laid k hp new)
theorem Inv.write {x e:Addr} {o:HO} {t':Nat} (I:Inv X pins σ H s) (mu:YC (H x)) (he:e=x∨H e=some (.own x)) (k:∀b u,b≠e->s.heap.get? b=some u->h'.get? b=some u) (heo:∃u,h'.get? e=some u)
  (new:fJ X.prog X.w (upd H x o) h' x o):Inv X pins σ (upd H x o) { s with heap:=h',toks:=t' }:=I.un (Un.write mu he k heo) (I.hok.write mu he k heo new)
theorem Inv.weak {σ':List (Option V)} (I:Inv X pins σ H s) (hl:σ'.length=σ.length) (w:∀(i:Nat) v,σ'[i]?=some (some v)->σ[i]?=some (some v)):Inv X pins σ' H s:=
 ⟨I.ok,I.os,I.bare,I.base,let ⟨m,hn,hl'⟩:=I.loc;⟨m,hn,fun i x v e1 e2 e3=>hl' i x v e1 (w i v e2) e3⟩,I.cell,I.free,I.freeC,I.pin,I.hok,hl.trans I.len⟩
theorem Inv.pins_of {pins':List (Addr×Obj)} (I:Inv X pins σ H s) (h:∀p∈pins',s.heap.get? p.1=some p.2/\H p.1=none/\p.1≠X.env.locals/\p.1∉X.fs/\∀v,p.2.data≠.cell v):Inv X pins' σ H s:=
 ⟨I.ok,I.os,I.bare,I.base,I.loc,I.cell,I.free,I.freeC,fun p hp=>(List.mem_append.mp hp).elim (fun z=>I.pin p (List.mem_append_left _ z)) (h p),I.hok,I.len⟩
theorem K6 {N:List Str} (hN:N.Nodup) {i j:Nat} {x:Str} (a:N[i]?=some x) (b:N[j]?=some x):i=j:=by
 obtain⟨h1,e1⟩:=List.getElem?_eq_some_iff.mp a
 obtain⟨h2,e2⟩:=List.getElem?_eq_some_iff.mp b
 exact(List.getElem_inj hN).mp (e1.trans e2.symm)
theorem zL {M:Model} {A:Around} {E:Value->Shared->Prop} {i:Nat} {x:Str} {v:V} {u:Value} {Q:Unit->Shared->Prop} (I:Inv X pins σ H s) (hN:X.N.Nodup) (hi:X.N[i]?=some x) (hx:Loc X.env.scope x) (r:RelV v u)
  (h:∀s',Inv X pins (σ.set i (some v)) H s'->(∃a,Heap.SameBut a s.heap s'.heap/\(a=X.env.locals∨X.env.cells.lookup x=some a))->Q () s') (hf:X.fn x=true∨X.env.scope.names.lookup x=some .local:=by first | exact .inl rfl | exact .inr rfl | assumption):wpAny M A (storeName X.env x u) Q E s:=by
 obtain⟨m,hn,hl⟩:=id I.loc
 have hcls:(X.env.scope.kind == .class || (X.env.scope.kind == .module && X.env.locals != X.env.globals))=false:=by rw [I.ok.kind];rfl
 have hiσ:i <σ.length:=by rw [I.len];exact(List.getElem?_eq_some_iff.mp hi).1
 have cne:=I.cne
 have tracked:∀{a:Addr} {h':Heap},(∃o,s.heap.get? a=some o/\H a=none)->Heap.SameBut a s.heap h'->wC X.prog X.w H h':=fun {a h'} ha hs b ob e=>by
  obtain⟨_,_,hfree⟩:=ha
  refine(I.hok b ob e).stay (fun c w' hc q=>(hs.2 c ?_).trans q) (fun _ q=>q) fun _ _ q=>q
  rintro rfl
  rcases hc with rfl | hc
  ·rw [hfree] at e;cases e
  ·rw [hfree] at hc;cases hc
 rcases hx with hk | hk
 ·refine wpAny_storeName_local hk hn (fun h' hn' hs=>?_) hcls
  obtain⟨oL,_,_,hoL,_⟩:=id hn
  refine h _ ⟨I.ok,I.os,I.bare,⟨fun b o e n hb hx=>?_,fun b o e n hb hx=>?_,I.base.free,fun b o e hx=>?_,I.base.tups,I.base.frzs,I.base.tbls⟩,⟨_,hn',fun j y v' e1 e2 e3=>?_⟩,fun y c e=>?_,I.free,I.freeC,fun p hp=>?_,tracked ⟨oL,hoL,I.free⟩ hs,by simpa using I.len⟩ ⟨_,hs,.inl rfl⟩
  ·exact(hs.2 b (Nat.ne_of_lt (Nat.lt_of_lt_of_le (Heap.lt_size e) I.ok.above))).trans (I.base.keep b o e n hb hx)
  ·obtain⟨sl,e1⟩:=I.base.slot b o e n hb hx
   exact⟨sl,(hs.2 b (Nat.ne_of_lt (Nat.lt_of_lt_of_le (Heap.lt_size e) I.ok.above))).trans e1⟩
  ·obtain⟨o',e1⟩:=I.base.there b o e hx
   exact⟨o',(hs.2 b (Nat.ne_of_lt (Nat.lt_of_lt_of_le (Heap.lt_size e) I.ok.above))).trans e1⟩
  ·by_cases hj:j=i
   ·subst hj
    rw [hi] at e1;cases e1
    rw [List.getElem?_set_self hiσ] at e2
    cases e2
    exact⟨u,r,.inl ⟨hk,by simp⟩⟩
   ·rw [List.getElem?_set_ne (Ne.symm hj)] at e2
    obtain⟨u',r',q⟩:=hl j y v' e1 e2 e3
    refine⟨u',r',?_⟩
    rcases q with ⟨k,e⟩ | ⟨k,c,e,z⟩
    ·refine .inl ⟨k,?_⟩
     have:y≠x:=fun e=>hj (K6 hN e1 (e ▸ hi))
     simp [this,e]
    ·exact .inr ⟨k,c,e,z.sameBut hs (cne y c e)⟩
  ·obtain⟨w',z⟩:=I.cell y c e
   exact⟨w',z.sameBut hs (cne y c e)⟩
  ·obtain⟨e,n,ne,nf,d⟩:=I.pin p hp
   exact⟨(hs.2 p.1 ne).trans e,n,ne,nf,d⟩
 ·have hfn:X.fn x=true:=by
   rcases hf with z | z
   ·exact z
   ·rw [z] at hk;cases hk
  obtain⟨c,hc⟩:=I.ok.has x (.inl hk)
  obtain⟨w',z⟩:=I.cell x c hc
  refine wpAny_storeName_cell I.ok.kind hk hc z (fun h' hc' hs=>?_)
  obtain⟨oc,hoc,hocd⟩:=id z
  refine h { s with heap:=h' } ⟨I.ok,I.os,I.bare,⟨fun b o e n hb hx=>?_,fun b o e n hb hx=>?_,I.base.free,fun b o e hx=>?_,I.base.tups,I.base.frzs,I.base.tbls⟩,⟨m,hn.sameBut hs (Ne.symm (cne x c hc)),fun j y v' e1 e2 e3=>?_⟩,fun y c' e=>?_,I.free,I.freeC,fun p hp=>?_,tracked ⟨oc,hoc,I.freeC x c hc⟩ hs,by simpa using I.len⟩ ⟨c,hs,.inr hc⟩
  ·exact(hs.2 b (Nat.ne_of_lt (Nat.lt_of_lt_of_le (Heap.lt_size e) (I.ok.cab x c hfn hc)))).trans (I.base.keep b o e n hb hx)
  ·obtain⟨sl,e1⟩:=I.base.slot b o e n hb hx
   exact⟨sl,(hs.2 b (Nat.ne_of_lt (Nat.lt_of_lt_of_le (Heap.lt_size e) (I.ok.cab x c hfn hc)))).trans e1⟩
  ·obtain⟨o',e1⟩:=I.base.there b o e hx
   exact⟨o',(hs.2 b (Nat.ne_of_lt (Nat.lt_of_lt_of_le (Heap.lt_size e) (I.ok.cab x c hfn hc)))).trans e1⟩
  ·by_cases hj:j=i
   ·subst hj
    rw [hi] at e1;cases e1
    rw [List.getElem?_set_self hiσ] at e2
    cases e2
    exact⟨u,r,.inr ⟨.inl hk,c,hc,hc'⟩⟩
   ·rw [List.getElem?_set_ne (Ne.symm hj)] at e2
    obtain⟨u',r',q⟩:=hl j y v' e1 e2 e3
    refine⟨u',r',?_⟩
    rcases q with q | ⟨k,c',e,z'⟩
    ·exact .inl q
    ·refine .inr ⟨k,c',e,z'.sameBut hs ?_⟩
     rintro rfl
     exact hj (K6 hN e1 (I.ok.inj _ _ _ e hc ▸ hi))
  ·by_cases hcc:c'=c
   ·subst hcc;exact⟨_,hc'⟩
   ·obtain⟨w2,z2⟩:=I.cell y c' e
    exact⟨w2,z2.sameBut hs hcc⟩
  ·obtain⟨e,n,ne,nf,d⟩:=I.pin p hp
   refine⟨(hs.2 p.1 ?_).trans e,n,ne,nf,d⟩
   intro q
   rw [q,hoc] at e
   have q':oc=p.2:=Option.some.inj e
   exact d w' (by rw [<-q'];exact hocd)
theorem Ku {M:Model} {A:Around} {E:Value->Shared->Prop} {i:Nat} {x:Str} {v:V} {u:Value} {Q:Unit->Shared->Prop} (I:Inv X pins σ H s) (hN:X.N.Nodup) (hi:X.N[i]?=some x) (hx:Loc X.env.scope x) (r:RelV v u)
  (h:∀s',Inv X pins (σ.set i (some v)) H s'->Q () s') (hf:X.fn x=true∨X.env.scope.names.lookup x=some .local:=by first | exact .inl rfl | exact .inr rfl | assumption):wpAny M A (storeName X.env x u) Q E s:=
 zL I hN hi hx r (fun s' I' _=>h s' I') hf
theorem Inv.call' {s':Shared} {ch:List Addr} (I:Inv X pins σ H s) (ho:s'.os=s.os) (u:Un (frs X.stack) ch H H' s.heap s'.heap) (hok:wC X.prog X.w H' s'.heap) (hg:AllBare s'.gens)
  (hch:∀b∈ch,(b∈X.ex∨X.s₀.heap.objs.size<=b)/\b≠X.env.locals/\(∀x c,X.env.cells.lookup x=some c->c≠b)/\∀p∈X.pn ++ pins,p.1≠b):Inv X pins σ H' s':=by
 obtain⟨h',g',d',t',o'⟩:=s'
 have e:o'=s.os:=ho
 subst e
 exact I.call (g':=g') (t':=t') (d':=d') u hok hg hch
end
noncomputable abbrev XK:=Value->Option Addr->Hp->Prop
noncomputable abbrev St:=List (Option V)
noncomputable abbrev VK:=V->Hp->Prop
noncomputable abbrev TE:=St->Hp->VK->Prop
noncomputable abbrev TT:=St->Hp->(Bool->Hp->Prop)->Prop
noncomputable abbrev TA:=St->Hp->(List V->Hp->Prop)->Prop
structure Ends where
 nx:St->Hp->Prop
 rt:VK
 bk:St->Hp->Prop:=fun _ _=>False
 ct:St->Hp->Prop:=fun _ _=>False
noncomputable abbrev TS:=Ends->St->Hp->Prop
noncomputable def EP (X:Cx) (pins:List (Addr×Obj)) (σ:St) (Q:VK) (u:Value) (s':Shared):Prop:=∃v H',Inv X pins σ H' s'/\RelV v u/\Q v H'
noncomputable def TP (X:Cx) (pins:List (Addr×Obj)) (σ:St) (Q:Bool->Hp->Prop) (b:Bool) (s':Shared):Prop:=∃H',Inv X pins σ H' s'/\Q b H'
noncomputable def AP (X:Cx) (pins:List (Addr×Obj)) (σ:St) (Q:List V->Hp->Prop) (us:List Value) (s':Shared):Prop:=∃vs H',Inv X pins σ H' s'/\Vals vs us/\Q vs H'
noncomputable def SP (X:Cx) (pins:List (Addr×Obj)) (D:Ends) (f:Flow) (s':Shared):Prop:=
 match f with
 | .next=>∃σ' H',Inv X pins σ' H' s'/\D.nx σ' H'
 | .brk=>∃σ' H',Inv X pins σ' H' s'/\D.bk σ' H'
 | .cont=>∃σ' H',Inv X pins σ' H' s'/\D.ct σ' H'
 | .ret u=>∃v σ' H',Inv X pins σ' H' s'/\RelV v u/\D.rt v H'
noncomputable def PE (X:Cx) (e:Expr) (t:TE):Prop:=
 ∀(pins:List (Addr×Obj)) (s:Shared) (σ:St) (H:Hp) (Q:VK),Inv X pins σ H s->t σ H Q->wpAny (model X.prog X.w) X.A (eval e X.env) (EP X pins σ Q) X.xe s
noncomputable def PT (X:Cx) (e:Expr) (t:TT):Prop:=
 ∀(pins:List (Addr×Obj)) (s:Shared) (σ:St) (H:Hp) (Q:Bool->Hp->Prop),Inv X pins σ H s->t σ H Q->wpAny (model X.prog X.w) X.A (isTrue e X.env (eval e X.env)) (TP X pins σ Q) X.xe s
noncomputable def PW (X:Cx) (e:Expr) (t:TT):Prop:=
 ∀(whole:Sem Value) (pins:List (Addr×Obj)) (s:Shared) (σ:St) (H:Hp) (Q:Bool->Hp->Prop),Inv X pins σ H s->t σ H Q->wpAny (model X.prog X.w) X.A (isTrue e X.env whole) (TP X pins σ Q) X.xe s
theorem PW.pt {X:Cx} {e:Expr} {t:TT} (h:PW X e t):PT X e t:=h _
noncomputable def PA (X:Cx) (es:List Expr) (t:TA):Prop:=
 ∀(pos:Pos) (pins:List (Addr×Obj)) (s:Shared) (σ:St) (H:Hp) (Q:List V->Hp->Prop),Inv X pins σ H s->t σ H Q->wpAny (model X.prog X.w) X.A (spliced (backTo pos (starEach es X.env))) (AP X pins σ Q) X.xe s
noncomputable def PS (X:Cx) (st:Stmt) (t:TS):Prop:=
 ∀(pins:List (Addr×Obj)) (s:Shared) (σ:St) (H:Hp) (D:Ends),Inv X pins σ H s->t D σ H->wpAny (model X.prog X.w) X.A (exec st X.env) (SP X pins D) X.xe s
noncomputable def Pj (X:Cx) (st:List Stmt) (t:TS):Prop:=
 ∀(pins:List (Addr×Obj)) (s:Shared) (σ:St) (H:Hp) (D:Ends),Inv X pins σ H s->t D σ H->wpAny (model X.prog X.w) X.A (execs st X.env) (SP X pins D) X.xe s
theorem dO {α:Type} {t:Sem α} {Q Q':α->Shared->Prop} {M:Model} {A:Around} {E:Value->Shared->Prop} {s:Shared} (h:wpAny M A t Q E s) (hQ:∀a s,Q a s->Q' a s):wpAny M A t Q' E s:=wpAny_mono h hQ fun _ _ x=>x
section
variable {X:Cx}
inductive Wg (i:Nat) (σ:St) (H:Hp) (Q:VK):Prop where
 | mk:∀v,σ[i]?=some (some v)->Q v H->Wg i σ H Q
noncomputable def yL (i:Nat):TE:=fun σ H Q=>Wg i σ H Q
noncomputable def tC (v:V):TE:=fun _ H Q=>Q v H
theorem Yd {i:Nat} {x:Str} {pos:Pos} (hN:X.N[i]?=some x) (hv:ZV X.env.scope x) (hd:(x == ("__debug__" :Str))=false:=by decide) (hcd:(x == ("__classdict__" :Str))=false:=by decide):PE X (.Name x pos) (yL i):=by
 intro pins s σ H Q I h
 obtain⟨v,e,h⟩:=h
 obtain⟨m,hn,hl⟩:=I.loc
 obtain⟨u,r,l⟩:=hl i x v hN e hv
 have fin:EP X pins σ Q u s:=⟨v,H,I,r,h⟩
 rcases l with ⟨hk,hm⟩ | ⟨hk,c,hc,hcell⟩
 ·exact wpAny_Name (wpAny_loadName_local I.ok.kind hk hn hm fin) hd
 ·rcases hk with hk | hk
  ·exact wpAny_Name (wpAny_loadName_cell I.ok.kind hk hc hcell fin) hd
  ·exact wpAny_Name (wpAny_loadName_free I.ok.kind hk hc hcell fin hcd) hd
theorem aq {i j pos}:PE X (.Constant (.int i) j pos) (tC (.int i)):=fun _ _ _ H _ I h=>wpAny_Constant_int ⟨.int i,H,I.tok _,⟨_,rfl⟩,h⟩
theorem iT {b j pos}:PE X (.Constant (.bool b) j pos) (tC (.bl b)):=fun _ _ _ H _ I h=>Constant_bool ⟨.bl b,H,I,rfl,h⟩
theorem uf {j pos}:PE X (.Constant .none j pos) (tC .non):=fun _ _ _ H _ I h=>Constant_none ⟨.non,H,I,rfl,h⟩
theorem bK {x j pos}:PE X (.Constant (.str x) j pos) (tC (.str x)):=fun _ _ _ H _ I h=>Calls.Constant_str ⟨.str x,H,I.tok _,⟨_,rfl⟩,h⟩
noncomputable def Gl (X:Cx) (x:Str):Prop:=X.env.kindOf x=some .globalImplicit
theorem Ir {E:Value->Shared->Prop} {pins:List (Addr×Obj)} {s:Shared} {σ:St} {H:Hp} {x:Str} {u:Value} {pos:Pos} {Q:Value->Shared->Prop} (I:Inv X pins σ H s) (hg:Gl X x) (hm:X.mg x=some u) (h:Q u s)
  (hd:(x == ("__debug__" :Str))=false:=by decide):wpAny (model X.prog X.w) X.A (eval (.Name x pos) X.env) Q E s:=
 Calls.Name_function_global I.ok.kind hg (Calls.loadGlobal_global (by rw [I.ok.glob];exact I.mod.glob.keeps I.bk) hm h) hd
theorem zU {E:Value->Shared->Prop} {pins:List (Addr×Obj)} {s:Shared} {σ:St} {H:Hp} {x:Str} {u:Value} {pos:Pos} {Q:Value->Shared->Prop} (I:Inv X pins σ H s) (hg:Gl X x) (hm:X.mg x=none) (hv:bootBuiltins x=some u) (h:Q u s)
  (hn:x≠ "__name__" :=by decide) (hd:(x == ("__debug__" :Str))=false:=by decide):wpAny (model X.prog X.w) X.A (eval (.Name x pos) X.env) Q E s:=by
 obtain⟨mb,h1,h2⟩:=I.mod.blt
 exact Calls.Name_function_global I.ok.kind hg (Calls.loadGlobal_builtin (by rw [I.ok.glob];exact I.mod.glob.keeps I.bk) hm (by rw [I.ok.blt];exact h1.keeps I.bk) ((h2 x hn).trans hv) h) hd
theorem IW {x:Str} {v:V} {u:Value} {pos:Pos} (hg:Gl X x) (hm:X.mg x=some u) (r:RelV v u) (hd:(x == ("__debug__" :Str))=false:=by decide):PE X (.Name x pos) (tC v):=
 fun _ _ _ H _ I h=>Ir I hg hm ⟨v,H,I,r,h⟩ hd
theorem VN {x:Str} {v:V} {u:Value} {pos:Pos} (hg:Gl X x) (hm:X.mg x=none) (hv:bootBuiltins x=some u) (r:RelV v u) (hn:x≠ "__name__" :=by decide) (hd:(x == ("__debug__" :Str))=false:=by decide):PE X (.Name x pos) (tC v):=
 fun _ _ _ H _ I h=>zU I hg hm hv ⟨v,H,I,r,h⟩ hn hd
variable {a b:Expr} {ta tb:TE} {pos:Pos}
noncomputable def PC (X:Cx) (op:CmpOp) (a b:Expr) (t:TE):Prop:=
 ∀(pins:List (Addr×Obj)) (s:Shared) (σ:St) (H:Hp) (Q:VK),Inv X pins σ H s->t σ H Q->
  wpAny (model X.prog X.w) X.A (eval a X.env) (fun v s₁=>wpAny (model X.prog X.w) X.A (eval b X.env) (fun u s₂=>wpAny (model X.prog X.w) X.A (compareOp op v u) (EP X pins σ Q) X.xe s₂) X.xe s₁) X.xe s
theorem Kv (b:Expr) {op:CmpOp} (h:op≠.In) (h2:op≠.NotIn):behindInMarks op b=false:=by
 have e1:(op == CmpOp.In)=false:=by cases op <;> first | rfl | exact absurd rfl h
 have e2:(op == CmpOp.NotIn)=false:=by cases op <;> first | rfl | exact absurd rfl h2
 cases b <;> simp [behindInMarks,e1,e2]
noncomputable def aaa (ta:TE):TE:=fun σ H Q=>ta σ H fun x H1=>Q (.bl (decide (x=.non))) H1
noncomputable def ZJ (ta:TE):TE:=fun σ H Q=>ta σ H fun x H1=>Q (.bl (!decide (x=.non))) H1
theorem RelV.none_iff {x:V} {v:Value} (r:RelV x v):(v == Value.none)=decide (x=.non):=by
 cases x with
 | non=>cases r;rfl
 | bl _=>cases r;rfl
 | int _=>obtain⟨t,rfl⟩:=r;rfl
 | str _=>obtain⟨t,rfl⟩:=r;rfl
 | byt _=>obtain⟨t,rfl⟩:=r;rfl
 | flt _=>obtain⟨t,rfl⟩:=r;rfl
 | ref _=>cases r;rfl
 | ty _=>cases r;rfl
theorem zR {j pos'} (ha:PE X a ta):PC X .Is a (.Constant .none j pos') (aaa ta):=by
 intro pins s σ H Q I h
 refine dO (ha pins s σ H _ I h) fun v s1 hpt=>?_
 obtain⟨x,H1,I1,r1,q1⟩:=hpt
 exact Constant_none (is_none_gen ⟨.bl _,H1,I1,by rw [r1.none_iff];rfl,q1⟩)
theorem vW {j pos'} (ha:PE X a ta):PC X .IsNot a (.Constant .none j pos') (ZJ ta):=by
 intro pins s σ H Q I h
 refine dO (ha pins s σ H _ I h) fun v s1 hpt=>?_
 obtain⟨x,H1,I1,r1,q1⟩:=hpt
 exact Constant_none (isnot_none_gen ⟨.bl _,H1,I1,by rw [r1.none_iff];rfl,q1⟩)
inductive tBI (Q:Bool->Hp->Prop) (x:V) (H1:Hp):Prop where
 | mk:∀c,x=.bl c->Q c H1->tBI Q x H1
noncomputable def tB (t:TE):TT:=fun σ H Q=>t σ H fun x H1=>tBI Q x H1
theorem Eh {op:CmpOp} {t:TE} (h:PC X op a b t) (h1:behindInMarks op b=false:=by first | exact Kv _ (by decide) (by decide) | rfl):PE X (.Compare a [op] [b] pos) t:=fun pins s σ H Q I hw=>wpAny_Compare1 (h pins s σ H Q I hw) h1
theorem gY {op:CmpOp} {t:TE} (h:PC X op a b t) (h1:behindInMarks op b=false:=by first | exact Kv _ (by decide) (by decide) | rfl):PT X (.Compare a [op] [b] pos) (tB t):=by
 intro pins s σ H Q I hw
 refine wpAny_isTrue_Compare1 (dO (h pins s σ H _ I hw) fun v s1 h1=>dO h1 fun u s2 h2=>dO h2 fun c s3 hpt=>?_) h1
 obtain⟨x,H1,I1,r1,q1⟩:=hpt
 obtain⟨d,rfl,q⟩:=q1
 cases r1
 exact wpAny_truthy_bool ⟨H1,I1,q⟩
theorem gB {e:Expr} {t:TE} (h:PE X e t) (he:∀whole,isTrue e X.env whole=(do let v <-whole;standAt e.pos;holding [v] (truthy v)):=by intro _;rfl):PT X e (tB t):=by
 intro pins s σ H Q I hw
 refine isTrue_plain (dO (h pins s σ H _ I hw) fun v s1 ⟨x,H1,I1,r1,q1⟩=>?_) (he _)
 obtain⟨d,rfl,q⟩:=q1
 cases r1
 exact wpAny_truthy_bool ⟨H1,I1,q⟩
variable {tA tB':TT} {rest:List Expr}
noncomputable def Xz (t u:TT):TT:=fun σ H Q=>t σ H fun c H1=>if c=true then u σ H1 Q else Q false H1
noncomputable def tOr (t u:TT):TT:=fun σ H Q=>t σ H fun c H1=>if c=true then Q true H1 else u σ H1 Q
noncomputable def aam (t:TT):TT:=fun σ H Q=>t σ H fun c H1=>Q (!c) H1
theorem nj (ha:PT X a tA):PW X (.BoolOp .And [a] pos) tA:=by
 intro wh pins s σ H Q I h
 refine isTrue_and (dO (ha pins s σ H Q I h) fun c s1 e=>?_)
 cases c with
 | true=>exact isTrue_and_nil e
 | false=>exact e
theorem oJ (ha:PT X a tA):PW X (.BoolOp .Or [a] pos) tA:=by
 intro wh pins s σ H Q I h
 refine isTrue_or (dO (ha pins s σ H Q I h) fun c s1 e=>?_)
 cases c with
 | false=>exact isTrue_or_nil e
 | true=>exact e
theorem qK (ha:PT X a tA) (hb:PW X (.BoolOp .And (b:: rest) pos) tB'):PW X (.BoolOp .And (a:: b:: rest) pos) (Xz tA tB'):=by
 intro wh pins s σ H Q I h
 refine isTrue_and (dO (ha pins s σ H _ I h) fun c s1 hpt=>?_)
 obtain⟨H1,I1,q1⟩:=hpt
 cases c with
 | true=>exact hb wh pins s1 σ H1 Q I1 q1
 | false=>exact⟨H1,I1,q1⟩
theorem vp (ha:PT X a tA) (hb:PW X (.BoolOp .Or (b:: rest) pos) tB'):PW X (.BoolOp .Or (a:: b:: rest) pos) (tOr tA tB'):=by
 intro wh pins s σ H Q I h
 refine isTrue_or (dO (ha pins s σ H _ I h) fun c s1 hpt=>?_)
 obtain⟨H1,I1,q1⟩:=hpt
 cases c with
 | true=>exact⟨H1,I1,q1⟩
 | false=>exact hb wh pins s1 σ H1 Q I1 q1
theorem jD (ha:PT X a tA):PT X (.UnaryOp .Not a pos) (aam tA):=by
 intro pins s σ H Q I h
 exact isTrue_not (ha pins s σ H (fun c H1=>Q (!c) H1) I h)
inductive S7 (tb:TE) (σ:St) (Q:VK) (x:V) (H1:Hp):Prop where
 | mk:∀c,x=.bl c->(if c=true then tb σ H1 Q else Q (.bl false) H1)->S7 tb σ Q x H1
noncomputable def Yu (ta tb:TE):TE:=fun σ H Q=>ta σ H fun x H1=>S7 tb σ Q x H1
inductive W9 (tb:TE) (σ:St) (Q:VK) (x:V) (H1:Hp):Prop where
 | mk:∀c,x=.bl c->(if c=true then Q (.bl true) H1 else tb σ H1 Q)->W9 tb σ Q x H1
noncomputable def aac (ta tb:TE):TE:=fun σ H Q=>ta σ H fun x H1=>W9 tb σ Q x H1
inductive S9 (Q:VK) (x:V) (H1:Hp):Prop where
 | mk:∀c,x=.bl c->Q (.bl (!c)) H1->S9 Q x H1
noncomputable def YG (ta:TE):TE:=fun σ H Q=>ta σ H fun x H1=>S9 Q x H1
theorem xT {op} {t:TE} (h:PE X a t):PE X (.BoolOp op [a] pos) t:=fun pins s σ H Q I hw=>BoolOp_one (h pins s σ H Q I hw)
theorem zP (ha:PE X a ta) (hb:PE X (.BoolOp .And (b:: rest) pos) tb):PE X (.BoolOp .And (a:: b:: rest) pos) (Yu ta tb):=by
 intro pins s σ H Q I h
 refine BoolOp_and (dO (ha pins s σ H _ I h) fun v s1 hpt=>?_)
 obtain⟨x,H1,I1,r1,q1⟩:=hpt
 obtain⟨c,rfl,q1⟩:=q1
 cases r1
 refine wpAny_truthy_bool ?_
 cases c with
 | true=>exact hb pins s1 σ H1 Q I1 q1
 | false=>exact⟨.bl false,H1,I1,rfl,q1⟩
theorem Wz (ha:PE X a ta) (hb:PE X (.BoolOp .Or (b:: rest) pos) tb):PE X (.BoolOp .Or (a:: b:: rest) pos) (aac ta tb):=by
 intro pins s σ H Q I h
 refine BoolOp_or (dO (ha pins s σ H _ I h) fun v s1 hpt=>?_)
 obtain⟨x,H1,I1,r1,q1⟩:=hpt
 obtain⟨c,rfl,q1⟩:=q1
 cases r1
 refine wpAny_truthy_bool ?_
 cases c with
 | false=>exact hb pins s1 σ H1 Q I1 q1
 | true=>exact⟨.bl true,H1,I1,rfl,q1⟩
theorem M3 (ha:PE X a ta):PE X (.UnaryOp .Not a pos) (YG ta):=by
 intro pins s σ H Q I h
 refine UnaryOp_ (dO (ha pins s σ H _ I h) fun v s1 hpt=>?_)
 obtain⟨x,H1,I1,r1,q1⟩:=hpt
 obtain⟨c,rfl,q1⟩:=q1
 cases r1
 exact not_of (wpAny_truthy_bool ⟨.bl (!c),H1,I1,rfl,q1⟩)
noncomputable def tIf (t:TT) (ta tb:TE):TE:=fun σ H Q=>t σ H fun c H1=>if c=true then ta σ H1 Q else tb σ H1 Q
theorem pC {c:Expr} (hc:PT X c tA) (ha:PE X a ta) (hb:PE X b tb):PE X (.IfExp c a b pos) (tIf tA ta tb):=by
 intro pins s σ H Q I h
 refine wpAny_IfExp (dO (hc pins s σ H _ I h) fun d s1 hpt=>?_)
 obtain⟨H1,I1,q1⟩:=hpt
 cases d with
 | true=>exact ha pins s1 σ H1 Q I1 q1
 | false=>exact hb pins s1 σ H1 Q I1 q1
end
noncomputable def bH (K:PySem.W.Frag) (H:Hp) (a:Addr) (xs:List V):Prop:=
 Rd H a (.lst xs)∨
  ∃(o:Obj) (its:Array Value) (n:Nat),K.lookup a=some o/\o.cls=.type "list" /\o.dict=none/\o.data=.seq its n/\its.size<=sizeLine/\Vals xs its.toList
noncomputable def fH (K:PySem.W.Frag) (H:Hp) (a:Addr) (xs:List V):Prop:=
 Rd H a (.tup xs)∨
  ∃(o:Obj) (its:Array Value) (n:Nat),K.lookup a=some o/\o.cls=.type "tuple" /\o.data=.seq its n/\its.size<=sizeLine/\Vals xs its.toList
noncomputable def Z6:Value->Option V
 | .none=>some .non
 | .bool b=>some (.bl b)
 | .int i _=>some (.int i)
 | .str x _=>some (.str x)
 | .bytes b _=>some (.byt b)
 | .float b _=>some (.flt b)
 | .ref a=>some (.ref a)
 | .type n=>some (.ty n)
 | _=>none
theorem RelV.abs {x:V} {u:Value} (r:RelV x u):Z6 u=some x:=by
 cases x with
 | non=>cases r;rfl
 | bl _=>cases r;rfl
 | int _=>obtain⟨t,rfl⟩:=r;rfl
 | str _=>obtain⟨t,rfl⟩:=r;rfl
 | byt _=>obtain⟨t,rfl⟩:=r;rfl
 | flt _=>obtain⟨t,rfl⟩:=r;rfl
 | ref _=>cases r;rfl
 | ty _=>cases r;rfl
theorem RelV.inj {x y:V} {u:Value} (r:RelV x u) (q:RelV y u):x=y:=Option.some.inj (r.abs.symm.trans q.abs)
theorem Vals.inj:∀{xs ys:List V} {us:List Value},Vals xs us->Vals ys us->xs=ys
 | _,_,_,.nil,.nil=>rfl
 | _,_,_,.cons r t,.cons r' t'=>by rw [r.inj r',Vals.inj t t']
section
variable {X:Cx} {pins:List (Addr×Obj)} {σ:St} {H:Hp} {s:Shared} {a:Addr} {xs ys:List V}
theorem bH.of {K:PySem.W.Frag} (h:H a=some (.lst xs)):bH K H a xs:=.inl (.inl h)
theorem fH.of {K:PySem.W.Frag} (h:H a=some (.tup xs)):fH K H a xs:=.inl (.inl h)
theorem Inv.list (I:Inv X pins σ H s) (h:bH X.K H a xs):∃its:List Value,Vals xs its/\PlainL s.heap a its.toArray/\xs.length<=sizeLine:=by
 rcases h with h | ⟨o,its,n,hk,hc,hd,hs,hz,r⟩
 ·obtain⟨z,its,n,r,e⟩:=h.ok I.hok
  exact⟨its,r,⟨_,n,e,rfl,rfl,rfl⟩,z⟩
 ·refine⟨its.toList,r,⟨o,n,I.kIn a o hk,hc,hd,by simpa using hs⟩,?_⟩
  have e:=r.length
  simp only [Array.length_toList] at e
  omega
theorem Inv.tuple (I:Inv X pins σ H s) (h:fH X.K H a xs):∃its:List Value,Vals xs its/\IsTup s.heap a its.toArray/\xs.length<=sizeLine:=by
 rcases h with h | ⟨o,its,n,hk,hc,hs,hz,r⟩
 ·obtain⟨z,its,r,p⟩:=h.ok I.hok
  exact⟨its,r,p,z⟩
 ·refine⟨its.toList,r,⟨o,I.kIn a o hk,hc,n,by simpa using hs⟩,?_⟩
  have e:=r.length
  simp only [Array.length_toList] at e
  omega
theorem Inv.list_inj (I:Inv X pins σ H s) (h:bH X.K H a xs) (h':bH X.K H a ys):xs=ys:=by
 obtain⟨its,r,⟨o,n,e,_,_,d⟩,_⟩:=I.list h
 obtain⟨its',r',⟨o',n',e',_,_,d'⟩,_⟩:=I.list h'
 rw [e] at e';cases e'
 rw [d] at d'
 injection d' with d1 _
 have:its=its':=by simpa using congrArg Array.toList d1
 subst this
 exact r.inj r'
theorem Inv.tuple_inj (I:Inv X pins σ H s) (h:fH X.K H a xs) (h':fH X.K H a ys):xs=ys:=by
 obtain⟨its,r,⟨o,e,_,n,d⟩,_⟩:=I.tuple h
 obtain⟨its',r',⟨o',e',_,n',d'⟩,_⟩:=I.tuple h'
 rw [e] at e';cases e'
 rw [d] at d'
 injection d' with d1 _
 have:its=its':=by simpa using congrArg Array.toList d1
 subst this
 exact r.inj r'
end
noncomputable abbrev Cx.wish (X:Cx) (E:Value->Shared->Prop):Cx:={ X with xe:=E }
noncomputable abbrev Cx.nox (X:Cx):Cx:=X.wish fun _ _=>False
theorem Cx.Ok.wish {X:Cx} (ok:X.Ok) (E:Value->Shared->Prop):(X.wish E).Ok:=
 ⟨ok.mod,ok.kind,ok.glob,ok.blt,ok.above,ok.inj,ok.has,ok.cab,ok.hd,ok.frames,ok.stk,ok.exf,ok.bs,ok.bsz,ok.noex,ok.exfs,ok.funs,ok.frf⟩
theorem Cx.Ok.unwish {X:Cx} {E:Value->Shared->Prop} (ok:(X.wish E).Ok):X.Ok:=
 ⟨ok.mod,ok.kind,ok.glob,ok.blt,ok.above,ok.inj,ok.has,ok.cab,ok.hd,ok.frames,ok.stk,ok.exf,ok.bs,ok.bsz,ok.noex,ok.exfs,ok.funs,ok.frf⟩
section
variable {X:Cx} {pins:List (Addr×Obj)} {σ:St} {H:Hp} {s:Shared} {E:Value->Shared->Prop}
theorem Inv.wish (I:Inv X pins σ H s) (E:Value->Shared->Prop):Inv (X.wish E) pins σ H s:=⟨I.ok.wish E,I.os,I.bare,I.base,I.loc,I.cell,I.free,I.freeC,I.pin,I.hok,I.len⟩
theorem Inv.unwish (I:Inv (X.wish E) pins σ H s):Inv X pins σ H s:=⟨I.ok.unwish,I.os,I.bare,I.base,I.loc,I.cell,I.free,I.freeC,I.pin,I.hok,I.len⟩
theorem SP.unwish {D:Ends} {f:Flow} {s':Shared} (h:SP (X.wish E) pins D f s'):SP X pins D f s':=by
 cases f with
 | next=>obtain⟨σ',H',I,q⟩:=h;exact⟨σ',H',I.unwish,q⟩
 | brk=>obtain⟨σ',H',I,q⟩:=h;exact⟨σ',H',I.unwish,q⟩
 | cont=>obtain⟨σ',H',I,q⟩:=h;exact⟨σ',H',I.unwish,q⟩
 | ret u=>obtain⟨v,σ',H',I,r,q⟩:=h;exact⟨v,σ',H',I.unwish,r,q⟩
theorem Pj.nox {st:List Stmt} {t:TS} (h:Pj X.nox st t):Pj X st t:=fun pins s σ H D I hw=>
 wpAny_mono (h pins s σ H D (I.wish _) hw) (fun _ _ q=>q.unwish) fun _ _ z=>False.elim z
end
section
variable {X:Cx} {st:Stmt} {rest:List Stmt} {t u:TS} {e:Expr} {te:TE} {pos:Pos}
noncomputable def Zo:TS:=fun D σ H=>D.nx σ H
noncomputable def yN (t u:TS):TS:=fun D σ H=>t { D with nx:=u D } σ H
theorem bu:Pj X [] Zo:=fun _ _ σ H _ I h=>wpAny_execs_nil ⟨σ,H,I,h⟩
theorem ao (h1:PS X st t) (h2:Pj X rest u):Pj X (st:: rest) (yN t u):=by
 intro pins s σ H D I h
 refine wpAny_execs_cons (dO (h1 pins s σ H { D with nx:=u D } I h) fun f s1 q=>?_)
 cases f with
 | next=>
  obtain⟨σ',H',I',q⟩:=q
  exact h2 pins s1 σ' H' D I' q
 | ret v=>exact q
 | brk=>exact q
 | cont=>exact q
theorem aA (h1:PS X st t):Pj X [st] t:=by
 intro pins s σ H D I h
 refine wpAny_execs_cons (dO (h1 pins s σ H D I h) fun f s1 q=>?_)
 cases f with
 | next=>exact wpAny_execs_nil q
 | ret v=>exact q
 | brk=>exact q
 | cont=>exact q
theorem Inv.quiet {pins:List (Addr×Obj)} {σ:St} {H:Hp} {s:Shared} (I:Inv X pins σ H s):interactive X.env=false:=by simp [interactive,I.ok.kind]
noncomputable def YM (te:TE):TS:=fun D σ H=>te σ H fun _ H1=>D.nx σ H1
theorem bI (he:PE X e te) (hs:swapsWith e none pos.line X.env=pure false:=by rfl):PS X (.Expr e pos) (YM te):=by
 intro pins s σ H D I h
 exact wpAny_Expr_any (dO (he pins s σ H _ I h) fun v s1 ⟨x,H1,I1,r1,q1⟩=>⟨σ,H1,I1,q1⟩) I.quiet hs
noncomputable def aaf (te:TE):TS:=fun D σ H=>te σ H D.rt
theorem aO (he:PE X e te):PS X (.Return (some e) pos) (aaf te):=by
 intro pins s σ H D I h
 exact wpAny_Return_some (dO (he pins s σ H _ I h) fun v s1 ⟨x,H1,I1,r1,q1⟩=>⟨x,σ,H1,I1,r1,q1⟩)
noncomputable def aay (c:TT) (t u:TS):TS:=fun D σ H=>c σ H fun b H1=>if b=true then t D σ H1 else u D σ H1
theorem bO {c:Expr} {a b:List Stmt} {tc:TT} (hc:PT X c tc) (ha:Pj X a t) (hb:Pj X b u):PS X (.If c a b pos) (aay tc t u):=by
 intro pins s σ H D I h
 refine wpAny_If (dO (hc pins s σ H _ I h) fun d s1 hpt=>?_)
 obtain⟨H1,I1,q1⟩:=hpt
 cases d with
 | true=>exact ha pins s1 σ H1 D I1 q1
 | false=>exact hb pins s1 σ H1 D I1 q1
noncomputable def Xe:TS:=fun _ _ _=>False
theorem dW:PS X st Xe:=fun _ _ _ _ _ _ h=>h.elim
end
noncomputable abbrev TG:=V->St->Hp->(St->Hp->Prop)->Prop
noncomputable abbrev Uw:=List V->St->Hp->(St->Hp->Prop)->Prop
noncomputable def PG (X:Cx) (target:Expr) (t:TG):Prop:=
 ∀(pins:List (Addr×Obj)) (s:Shared) (σ:St) (H:Hp) (v:V) (u:Value) (Q:St->Hp->Prop),Inv X pins σ H s->RelV v u->t v σ H Q->
  wpAny (model X.prog X.w) X.A (assign target X.env u) (fun _ s'=>∃σ' H',Inv X pins σ' H' s'/\Q σ' H') X.xe s
noncomputable def Y4 (X:Cx) (ts:List Expr) (t:Uw):Prop:=
 ∀(pins:List (Addr×Obj)) (s:Shared) (σ:St) (H:Hp) (vs:List V) (us:List Value) (Q:St->Hp->Prop),Inv X pins σ H s->Vals vs us->t vs σ H Q->
  wpAny (model X.prog X.w) X.A (assignInOrder ((assignEach ts X.env).map (·.2)) us) (fun _ s'=>∃σ' H',Inv X pins σ' H' s'/\Q σ' H') X.xe s
section
variable {X:Cx} {pos:Pos}
noncomputable def yI (i:Nat):TG:=fun v σ H Q=>Q (σ.set i (some v)) H
theorem wu {i:Nat} {x:Str} (hN:X.N.Nodup) (hi:X.N[i]?=some x) (hx:Loc X.env.scope x) (hf:X.fn x=true∨X.env.scope.names.lookup x=some .local:=by first | exact .inl rfl | exact .inr rfl | assumption):PG X (.Name x pos) (yI i):=by
 intro pins s σ H v u Q I r h
 exact wpAny_assign_Name (Ku I hN hi hx r (fun s' I'=>⟨_,H,I',h⟩) hf)
noncomputable def aao:Uw:=fun vs σ H Q=>vs=[]/\Q σ H
inductive Q7 (t:TG) (u:Uw) (vs:List V) (σ:St) (H:Hp) (Q:St->Hp->Prop):Prop where
 | mk:∀v r,vs=v:: r->(t v σ H fun σ' H'=>u r σ' H' Q)->Q7 t u vs σ H Q
noncomputable def Za (t:TG) (u:Uw):Uw:=fun vs σ H Q=>Q7 t u vs σ H Q
theorem vZ:Y4 X [] aao:=by
 intro pins s σ H vs us Q I r h
 obtain⟨e,h⟩:=h
 subst e
 cases r
 exact assignInOrder_nil ⟨σ,H,I,h⟩
theorem il {e:Expr} {es:List Expr} {t:TG} {u:Uw} (h1:PG X e t) (h2:Y4 X es u)
  (hs:(assignEach (e:: es) X.env).map (·.2)=assign e X.env:: (assignEach es X.env).map (·.2):=by rfl):Y4 X (e:: es) (Za t u):=by
 intro pins s σ H vs us Q I r h
 obtain⟨v,vr,e1,h⟩:=h
 subst e1
 cases r with
 | cons r rr=>
  rw [hs]
  refine assignInOrder_cons (dO (h1 pins s σ H _ _ _ I r h) fun _ s1 hpt=>?_)
  obtain⟨σ1,H1,I1,q1⟩:=hpt
  exact h2 pins s1 σ1 H1 _ _ Q I1 rr q1
inductive WP (K:PySem.W.Frag) (n:Nat) (t:Uw) (v:V) (σ:St) (H:Hp) (Q:St->Hp->Prop):Prop where
 | mk:∀a xs,v=.ref a->fH K H a xs->xs.length=n->t xs σ H Q->WP K n t v σ H Q
noncomputable def ZR (K:PySem.W.Frag) (n:Nat) (t:Uw):TG:=fun v σ H Q=>WP K n t v σ H Q
theorem Dv {es:List Expr} {k:Nat} {t:Uw} {n:Nat} (hc:X.calm=true) (h:Y4 X es t)
  (hn:(assignEach es X.env).length=n:=by rfl) (hst:(assignEach es X.env).findIdx? (·.1)=none:=by rfl):PG X (.Tuple es k pos) (ZR X.K n t):=by
 intro pins s σ H v u Q I r hw
 obtain⟨a,xs,e1,hq,hl,hw⟩:=hw
 subst e1
 cases r
 obtain⟨its,rv,ht,hz⟩:=I.tuple hq
 refine assign_Tuple_tuple (I.ok.hd hc) ht (by simp [hn,<-hl,rv.length]) hst fun h' hx=>?_
 have I1:Inv X pins σ H { s with heap:=h' }:=I.kept (t':=s.toks) fun b o e=>hx b o (Nat.ne_of_lt (Heap.lt_size e)) e
 exact h pins _ σ H xs _ Q I1 (by simpa using rv) hw
noncomputable def Rk (te:TE) (g:TG):TS:=fun D σ H=>te σ H fun x H1=>g x σ H1 D.nx
theorem Yi {tg e:Expr} {te:TE} {g:TG} (he:PE X e te) (hg:PG X tg g) (hs:swapsWithSole [tg] e pos.line X.env=pure false:=by rfl) (hw:swappedStores [tg] e X.env=pure none:=by rfl)
  (h1:(assignEach [tg] X.env).map (·.2)=[assign tg X.env]:=by rfl):PS X (.Assign [tg] e pos) (Rk te g):=by
 intro pins s σ H D I h
 refine wpAny_Assign_stores (dO (he pins s σ H _ I h) fun v s1 hpt=>?_) hs hw
 obtain⟨x,H1,I1,r1,q1⟩:=hpt
 rw [h1]
 exact dO (hg pins s1 σ H1 x v _ I1 r1 q1) fun _ s2 q=>q
theorem Xf {i:Nat} {x:Str} {e:Expr} {te:TE} {pos':Pos} (hN:X.N.Nodup) (hi:X.N[i]?=some x) (hx:Loc X.env.scope x) (he:PE X e te) (hs:swapsWith e (some (.Name x pos')) pos.line X.env=pure false:=by rfl) (hf:X.fn x=true∨X.env.scope.names.lookup x=some .local:=by first | exact .inl rfl | exact .inr rfl | assumption):
  PS X (.Assign [.Name x pos'] e pos) (Rk te (yI i)):=by
 intro pins s σ H D I h
 refine wpAny_Assign_Name (dO (he pins s σ H _ I h) fun v s1 hpt=>?_) hs
 obtain⟨y,H1,I1,r1,q1⟩:=hpt
 exact Ku I1 hN hi hx r1 (fun s2 I2=>⟨_,H1,I2,q1⟩) hf
end
section
variable {X:Cx} {pos:Pos}
inductive Ov (c:TT) (tb:TS) (D:Ends) (σ:St) (H:Hp):Prop where
 | mk:∀W:Nat->St->Hp->Prop,((∃m,W m σ H))->(∀m σ H,W m σ H->
 c σ H fun b H1=>if b=true then ∃N:St->Hp->Prop,(∀σ' H',N σ' H'->∃m',m' <m/\W m' σ' H')/\tb { D with nx:=N,ct:=N,bk:=D.nx } σ H1 else D.nx σ H1)->Ov c tb D σ H
noncomputable def Rf (c:TT) (tb:TS):TS:=fun D σ H=>Ov c tb D σ H
theorem Ef {c:Expr} {body:List Stmt} {tc:TT} {tb:TS} (hp:PassesOwn (model X.prog X.w) X.A X.env X.xe) (hc:PT X c tc) (hb:Pj X body tb):PS X (.While c body [] pos) (Rf tc tb):=by
 intro pins s σ H D I h
 obtain⟨W,⟨m0,w0⟩,turn⟩:=h
 refine wpAny_While (codeAny_whileLoop (fun n s'=>∃σ' H',Inv X pins σ' H' s'/\W n σ' H') ?_ m0 ⟨σ,H,I,w0⟩)
 rintro n s1 ⟨σ1,H1,I1,w1⟩
 refine wpAny_passesOwn hp (dO (hc pins s1 σ1 H1 _ I1 (turn n σ1 H1 w1)) fun b s2 hpt=>?_)
 obtain⟨H2,I2,q2⟩:=hpt
 cases b with
 | true=>
  obtain⟨N,hN,q2⟩:=q2
  rw [if_pos rfl]
  refine wpAny_passesOwn hp (dO (hb pins s2 σ1 H2 _ I2 q2) fun f s3 q3=>?_)
  cases f with
  | next=>
   obtain⟨σ3,H3,I3,n3⟩:=q3
   obtain⟨m',hm,w3⟩:=hN σ3 H3 n3
   exact⟨m',hm,σ3,H3,I3,w3⟩
  | cont=>
   obtain⟨σ3,H3,I3,n3⟩:=q3
   obtain⟨m',hm,w3⟩:=hN σ3 H3 n3
   exact⟨m',hm,σ3,H3,I3,w3⟩
  | brk=>exact q3
  | ret v=>exact q3
 | false=>
  rw [if_neg Bool.false_ne_true]
  exact wpAny_execs_nil ⟨σ1,H2,I2,q2⟩
end
structure It where
 go:Nat->Hp->Prop
 yld:Nat->Hp->V->Hp->Prop
 stop:Nat->Hp->Prop
noncomputable def JX (X:Cx) (pins:List (Addr×Obj)) (H:Hp) (b:Addr):Prop:=
 H b=none/\b≠X.env.locals/\b∉X.fs/\(b∈X.ex∨X.s₀.heap.objs.size<=b)/\(∀x c,X.env.cells.lookup x=some c->c≠b)/\∀p∈X.pn ++ pins,p.1≠b
theorem Inv.fpOk {X:Cx} {pins:List (Addr×Obj)} {σ:St} {H H':Hp} {s:Shared} {b:Addr} (I:Inv X pins σ H s) (hb:s.heap.objs.size<=b) (hn:H' b=none):JX X pins H' b:=by
 refine⟨hn,Nat.ne_of_gt (Nat.lt_of_lt_of_le I.lt hb),I.nofs hb,.inr (Nat.le_trans I.sz hb),fun x c e z=>?_,fun p hp z=>?_⟩
 ·obtain⟨v,q⟩:=I.cell x c e
  exact absurd (Nat.lt_of_lt_of_le q.lt (by rw [z];exact hb)) (Nat.lt_irrefl _)
 ·exact absurd (Nat.lt_of_lt_of_le (Heap.lt_size (I.pin p hp).1) (by rw [z];exact hb)) (Nat.lt_irrefl _)
structure Turn (P:Program) (w:World) (K:PySem.W.Frag) (tg:Expr) (J:It) (fp:List Addr) (it:Addr) (tn:Nat->Heap->Prop):Prop where
 mem:it∈fp
 obj:∀i h,tn i h->∀b∈fp,∃o,h.get? b=some o/\∀v,o.data≠.cell v
 keep:∀i h h',tn i h->(∀b∈fp,∀o,h.get? b=some o->h'.get? b=some o)->tn i h'
 item:∀(X:Cx),X.prog=P->X.w=w->X.K=K->X.calm=true->∀(i:Nat) (pins:List (Addr×Obj)) (s:Shared) (σ:St) (H:Hp) (E:Value->Shared->Prop),Inv X pins σ H s->(∀b∈fp,JX X pins H b)->tn i s.heap->J.go i H->
  wpAny (model P w) X.A (pyNext (.ref it)) (fun r s1=>∃u,r=some u/\
   wpAny (model P w) X.A (letOwnedTupleGo tg (.ref it) u) (fun _ s2=>∃x H',Inv X pins σ H' s2/\RelV x u/\J.yld i H x H'/\tn (i+1) s2.heap/\∀b∈fp,H' b=none) E s1) E s
 done:∀(X:Cx),X.prog=P->X.w=w->X.K=K->X.calm=true->∀(i:Nat) (pins:List (Addr×Obj)) (s:Shared) (σ:St) (H:Hp) (E:Value->Shared->Prop),Inv X pins σ H s->(∀b∈fp,JX X pins H b)->tn i s.heap->J.stop i H->
  wpAny (model P w) X.A (pyNext (.ref it)) (fun r s1=>r=none/\Inv X pins σ H s1) E s
 self:∀(A:Around) (i:Nat) (s:Shared) (Q:Value->Shared->Prop) (E:Value->Shared->Prop),tn i s.heap->Q (.ref it) s->wpAny (model P w) A (pyIter (.ref it)) Q E s
noncomputable abbrev TI:=St->Hp->(It->Hp->Prop)->Prop
noncomputable def PIE (X:Cx) (pins:List (Addr×Obj)) (σ:St) (tg:Expr) (R:It->Hp->Prop) (itv:Value) (s2:Shared):Prop:=
 ∃(it:Addr) (fp:List Addr) (tn:Nat->Heap->Prop) (J:It) (H':Hp),itv=.ref it/\Inv X pins σ H' s2/\Turn X.prog X.w X.K tg J fp it tn/\tn 0 s2.heap/\(∀b∈fp,JX X pins H' b)/\R J H'
noncomputable def PI (X:Cx) (tg iter:Expr) (wi:TI):Prop:=
 ∀(pins:List (Addr×Obj)) (s:Shared) (σ:St) (H:Hp) (R:It->Hp->Prop),Inv X pins σ H s->wi σ H R->
  wpAny (model X.prog X.w) X.A (eval iter X.env) (fun v s1=>wpAny (model X.prog X.w) X.A (pyIter v) (PIE X pins σ tg R) X.xe s1) X.xe s
theorem KH {M:Model} {A:Around} {E:Value->Shared->Prop} {s:Shared} {tg:Expr} {it:Addr} {u:Value} {o:Obj} {n:String} {vs:Array Value} {Q:Unit->Shared->Prop} (ho:s.heap.get? it=some o) (hc:o.cls=.type n) (hd:o.data=.fields vs)
  (hn:["enumerate", "zip", "dict_itemiterator", "dict_reverseitemiterator", "odict_iterator", "itertools.zip_longest", "itertools.pairwise"].contains n=false) (hQ:Q () s):wpAny M A (letOwnedTupleGo tg (.ref it) u) Q E s:=by
 unfold letOwnedTupleGo
 cases tg <;> first
  | exact wpAny_pure hQ
  | (cases u <;> first
    | exact wpAny_pure hQ
    | (refine wpAny_bind (wpAny_load ho ?_)
       rw [hc,hd]
       show wpAny M A (if (["enumerate", "zip", "dict_itemiterator", "dict_reverseitemiterator", "odict_iterator", "itertools.zip_longest", "itertools.pairwise"].contains n && vs[0]? == some (rawInt _))=true then _ else _) Q E s
       rw [if_neg (by intro h;rw [hn,Bool.false_and] at h;cases h)]
       exact wpAny_pure hQ))
noncomputable def X6 (K:PySem.W.Frag) (a:Addr):It:=
 ⟨fun i H=>∃xs x,bH K H a xs/\xs[i]?=some x,fun i H x H'=>H'=H/\∀xs,bH K H a xs->xs[i]?=some x,fun i H=>∃xs,bH K H a xs/\xs.length<=i⟩
noncomputable def Yj (K:PySem.W.Frag) (a:Addr):It:=
 ⟨fun i H=>∃xs x,fH K H a xs/\xs[i]?=some x,fun i H x H'=>H'=H/\∀xs,fH K H a xs->xs[i]?=some x,fun i H=>∃xs,fH K H a xs/\xs.length<=i⟩
noncomputable def Xn (lo:Int) (n:Nat):It:=⟨fun i _=>i <n,fun i H x H'=>H'=H/\x=.int (lo+i),fun i _=>n<=i⟩
theorem Qs {P:Program} {w:World} {K:PySem.W.Frag} {tg:Expr} (a it:Addr):Turn P w K tg (X6 K a) [it] it (fun i h=>h.IsListIter it a i) where
 mem:=by simp
 obj:=fun i h st b hb=>by
  have e:b=it:=by simpa using hb
  subst e
  obtain⟨o,e,c,d⟩:=st
  exact⟨o,e,fun v z=>by rw [d] at z;cases z⟩
 keep:=fun i h h' st k=>st.at fun o e=>k it (by simp) o e
 item:=by
  intro X hP hw hK hc i pins s σ H E I hf st hg
  subst hP hw hK
  obtain⟨xs,x,hq,hx⟩:=hg
  obtain⟨its,rv,p,hz⟩:=I.list hq
  obtain⟨u,hu,ru⟩:=rv.get hx
  obtain⟨f0,f1,f2,f3,f4,f5⟩:=hf it (by simp)
  refine wpAny_pyNext_list_item st p.isList (x:=u) (by simpa using hu) fun h' st' sb=>?_
  have I1:Inv X pins σ H { s with heap:=h' }:=I.turned (t':=s.toks) (fun b o hb e=>(sb.2 b hb).trans e) f0 f1 f3 f4 f5
  obtain⟨o,e,c,d⟩:=id st'
  exact⟨u,rfl,KH (s:={ s with heap:=h' }) e c d (by decide) ⟨x,H,I1,ru,⟨rfl,fun ys hy=>by rw [I.list_inj hy hq];exact hx⟩,st',fun b hb=>(hf b hb).1⟩⟩
 done:=by
  intro X hP hw hK hc i pins s σ H E I hf st hg
  subst hP hw hK
  obtain⟨xs,hq,hx⟩:=hg
  obtain⟨its,rv,p,hz⟩:=I.list hq
  obtain⟨f0,f1,f2,f3,f4,f5⟩:=hf it (by simp)
  have hl:=rv.length
  exact wpAny_pyNext_list_end (I.ok.hd hc) st p.isList (by simp;omega) fun h' eb=>⟨rfl,I.turned (t':=s.toks) (fun b o hb e=>eb b o hb e) f0 f1 f3 f4 f5⟩
 self:=fun _ _ _ _ _ st h=>wpAny_pyIter_listiter st h
theorem Mq {P:Program} {w:World} {K:PySem.W.Frag} {tg:Expr} (a it:Addr):Turn P w K tg (Yj K a) [it] it (fun i h=>h.IsTupleIter it a i) where
 mem:=by simp
 obj:=fun i h st b hb=>by
  have e:b=it:=by simpa using hb
  subst e
  obtain⟨o,e,c,d⟩:=st
  exact⟨o,e,fun v z=>by rw [d] at z;cases z⟩
 keep:=fun i h h' st k=>st.at fun o e=>k it (by simp) o e
 item:=by
  intro X hP hw hK hc i pins s σ H E I hf st hg
  subst hP hw hK
  obtain⟨xs,x,hq,hx⟩:=hg
  obtain⟨its,rv,p,hz⟩:=I.tuple hq
  obtain⟨u,hu,ru⟩:=rv.get hx
  obtain⟨f0,f1,f2,f3,f4,f5⟩:=hf it (by simp)
  refine wpAny_pyNext_tuple_item st (show s.heap.IsTuple a its.toArray from p) (x:=u) (by simpa using hu) fun h' st' sb=>?_
  have I1:Inv X pins σ H { s with heap:=h' }:=I.turned (t':=s.toks) (fun b o hb e=>(sb.2 b hb).trans e) f0 f1 f3 f4 f5
  obtain⟨o,e,c,d⟩:=id st'
  exact⟨u,rfl,KH (s:={ s with heap:=h' }) e c d (by decide) ⟨x,H,I1,ru,⟨rfl,fun ys hy=>by rw [I.tuple_inj hy hq];exact hx⟩,st',fun b hb=>(hf b hb).1⟩⟩
 done:=by
  intro X hP hw hK hc i pins s σ H E I hf st hg
  subst hP hw hK
  obtain⟨xs,hq,hx⟩:=hg
  obtain⟨its,rv,p,hz⟩:=I.tuple hq
  obtain⟨f0,f1,f2,f3,f4,f5⟩:=hf it (by simp)
  have hl:=rv.length
  exact wpAny_pyNext_tuple_end (I.ok.hd hc) st (show s.heap.IsTuple a its.toArray from p) (by simp;omega) fun h' eb=>⟨rfl,I.turned (t':=s.toks) (fun b o hb e=>eb b o hb e) f0 f1 f3 f4 f5⟩
 self:=fun _ _ _ _ _ st h=>wpAny_pyIter_tupleiter st h
theorem Nf {P:Program} {w:World} {K:PySem.W.Frag} {tg:Expr} (it:Addr) (lo:Int) (n:Nat):Turn P w K tg (Xn lo n) [it] it (fun i h=>IsRangeIter h it (lo+(i:Nat) * 1) ((n:Int) - (i:Nat)) 1) where
 mem:=by simp
 obj:=fun i h st b hb=>by
  have e:b=it:=by simpa using hb
  subst e
  exact⟨_,st,fun v z=>by
   have z':Data.fields _=Data.cell v:=z
   cases z'⟩
 keep:=fun i h h' st k=>k it (by simp) _ st
 item:=by
  intro X hP hw hK hc i pins s σ H E I hf st hg
  subst hP hw hK
  obtain⟨f0,f1,f2,f3,f4,f5⟩:=hf it (by simp)
  have W:=Walks.range (prog:=X.prog) (w:=X.w) (I.ok.hd hc) it lo 1 n
  refine W.item i s _ _ hg st fun v h' tk hv st' kk=>?_
  obtain⟨t,rfl⟩:=hv
  have I1:Inv X pins σ H { s with heap:=h',toks:=tk }:=I.turned (fun b o hb e=>kk b o (by simpa using hb) e) f0 f1 f3 f4 f5
  refine⟨_,rfl,KH (s:={ s with heap:=h',toks:=tk }) (n:= "range_iterator") st' rfl rfl (by decide) ⟨.int (lo+i),H,I1,⟨t,?_⟩,⟨rfl,rfl⟩,st',fun b hb=>(hf b hb).1⟩⟩
  rw [Int.mul_one]
 done:=by
  intro X hP hw hK hc i pins s σ H E I hf st hg
  subst hP hw hK
  obtain⟨f0,f1,f2,f3,f4,f5⟩:=hf it (by simp)
  exact wpAny_pyNext_range_end (I.ok.hd hc) st (by have:n<=i:=hg;omega) fun h' eb=>⟨rfl,I.turned (t':=s.toks) (fun b o hb e=>eb b o hb e) f0 f1 f3 f4 f5⟩
 self:=fun _ _ _ _ _ st h=>wpAny_pyIter_rangeiter st h
section
variable {X:Cx} {tg:Expr}
inductive Tt (K:PySem.W.Frag) (R:It->Hp->Prop) (x:V) (H1:Hp):Prop where
 | mk:∀a,x=.ref a->((∃xs,bH K H1 a xs))->R (X6 K a) H1->Tt K R x H1
noncomputable def WW (K:PySem.W.Frag) (tl:TE):TI:=fun σ H R=>tl σ H fun x H1=>Tt K R x H1
inductive W8 (K:PySem.W.Frag) (R:It->Hp->Prop) (x:V) (H1:Hp):Prop where
 | mk:∀a,x=.ref a->((∃xs,fH K H1 a xs))->R (Yj K a) H1->W8 K R x H1
noncomputable def ZD (K:PySem.W.Frag) (tl:TE):TI:=fun σ H R=>tl σ H fun x H1=>W8 K R x H1
theorem bT {l:Expr} {tl:TE} (hl:PE X l tl):PI X tg l (WW X.K tl):=by
 intro pins s σ H R I h
 refine dO (hl pins s σ H _ I h) fun v s1 hpt=>?_
 obtain⟨x,H1,I1,r1,q1⟩:=hpt
 obtain⟨a,e,⟨xs,hq⟩,q⟩:=q1
 subst e
 cases r1
 obtain⟨its,rv,p,hz⟩:=I1.list hq
 refine wpAny_pyIter_list p.isList ?_
 refine⟨s1.heap.objs.size,[s1.heap.objs.size],_,_,H1,rfl,I1.kept (t':=s1.toks) fun b o e=>Heap.get?_push_of_some _ e,Qs a _,⟨_,Heap.get?_push_size _ rfl,rfl,rfl⟩,fun b hb=>?_,q⟩
 have e:b=s1.heap.objs.size:=by simpa using hb
 subst e
 exact I1.fpOk (Nat.le_refl _) (I1.hok.fresh (Nat.le_refl _))
theorem JM {l:Expr} {tl:TE} (hl:PE X l tl):PI X tg l (ZD X.K tl):=by
 intro pins s σ H R I h
 refine dO (hl pins s σ H _ I h) fun v s1 hpt=>?_
 obtain⟨x,H1,I1,r1,q1⟩:=hpt
 obtain⟨a,e,⟨xs,hq⟩,q⟩:=q1
 subst e
 cases r1
 obtain⟨its,rv,p,hz⟩:=I1.tuple hq
 refine wpAny_pyIter_tuple (show s1.heap.IsTuple a its.toArray from p) ?_
 refine⟨s1.heap.objs.size,[s1.heap.objs.size],_,_,H1,rfl,I1.kept (t':=s1.toks) fun b o e=>Heap.get?_push_of_some _ e,Mq a _,⟨_,Heap.get?_push_size _ rfl,rfl,rfl⟩,fun b hb=>?_,q⟩
 have e:b=s1.heap.objs.size:=by simpa using hb
 subst e
 exact I1.fpOk (Nat.le_refl _) (I1.hok.fresh (Nat.le_refl _))
theorem Tg {pins:List (Addr×Obj)} {σ:St} {H:Hp} {s:Shared} {R:It->Hp->Prop} {E:Value->Shared->Prop} {lo hi:Int} {t u v:Tok} {tk:Nat} (I:Inv X pins σ H s) (h1: -(2 ^ 62)<=lo) (h2:lo <2 ^ 62) (h3: -(2 ^ 62)<=hi) (h4:hi <2 ^ 62)
  (q:R (Xn lo (hi - lo).toNat) H):wpAny (model X.prog X.w) X.A (pyIter (.ref s.heap.objs.size)) (PIE X pins σ tg R) E { s with heap:=s.heap.push { cls:=.type "range",data:=.fields #[.int lo t,.int hi u,.int 1 v] },toks:=tk }:=by
 refine wpAny_pyIter_range (IsRange.new ..) (small_one h1 h2 h3 h4) ?_
 have I1:Inv X pins σ H { s with heap:=s.heap.push { cls:=.type "range",data:=.fields #[.int lo t,.int hi u,.int 1 v] },toks:=tk }:=I.kept fun b o e=>Heap.get?_push_of_some _ e
 refine⟨(s.heap.push { cls:=.type "range",data:=.fields #[.int lo t,.int hi u,.int 1 v] }).objs.size,[(s.heap.push { cls:=.type "range",data:=.fields #[.int lo t,.int hi u,.int 1 v] }).objs.size],_,_,H,rfl,
  I1.kept (t':=tk) fun b o e=>Heap.get?_push_of_some _ e,Nf _ lo (hi - lo).toNat,?_,fun b hb=>?_,q⟩
 ·have e1:lo+((0:Nat):Int) * 1=lo:=by simp
  have e2:(((hi - lo).toNat:Nat):Int) - ((0:Nat):Int)=Builtin.Range.rangeSize lo hi 1:=by rw [rangeSize_one];split <;> omega
  show IsRangeIter _ _ (lo+((0:Nat):Int) * 1) ((((hi - lo).toNat:Nat):Int) - ((0:Nat):Int)) 1
  rw [e1,e2]
  exact Heap.get?_push_size _ rfl
 ·have e:b=(s.heap.push { cls:=.type "range",data:=.fields #[.int lo t,.int hi u,.int 1 v] }).objs.size:=by simpa using hb
  subst e
  exact I1.fpOk (Nat.le_refl _) (I1.hok.fresh (Nat.le_refl _))
inductive Ry (R:It->Hp->Prop) (vs:List V) (H1:Hp):Prop where
 | mk:∀j:Int,vs=[.int j]-> -(2 ^ 62)<=j->j <2 ^ 62->R (Xn 0 j.toNat) H1->Ry R vs H1
noncomputable def Yn (ta:TA):TI:=fun σ H R=>ta σ H fun vs H1=>Ry R vs H1
theorem fC {a:Expr} {ta:TA} {p pos:Pos} (hg:Gl X "range") (hm:X.mg "range" =none) (ha:PA X [a] ta) (hs:starEach [a] X.env=[(false,eval a X.env)]:=by rfl):PI X tg (.Call (.Name "range" p) [a] [] pos) (Yn ta):=by
 intro pins s σ H R I h
 refine Call_ (zU I hg hm boot_range (PyProof.Rows.callWith_type1 (dO (ha pos pins s σ H _ I h) fun us s1 ⟨vs,H1,I1,r1,q1⟩=>?_) hs rfl))
 obtain⟨j,e,q1,q2,q⟩:=q1
 subst e
 cases r1 with
 | cons r rr=>
  cases rr
  obtain⟨t,rfl⟩:=r
  exact call_range_1 (Tg I1 (by omega) (by omega) q1 q2 (by simpa using q))
noncomputable def aaq (wi:TI) (g:TG) (tb:TS):TS:=fun D σ H=>wi σ H fun J H1=>∃W:Nat->Nat->St->Hp->Prop,(∃m,W 0 m σ H1)/\∀i m σ H,W i m σ H->
 (J.stop i H/\D.nx σ H)∨(J.go i H/\∃N:St->Hp->Prop,(∀σ' H',N σ' H'->∃m',m' <m/\W (i+1) m' σ' H')/\∀x H',J.yld i H x H'->g x σ H' fun σ2 H2=>tb { D with nx:=N,ct:=N,bk:=D.nx } σ2 H2)
noncomputable def Iv (fp:List Addr) (h:Heap):List (Addr×Obj):=fp.filterMap fun b=>(h.get? b).map fun o=>(b,o)
theorem su {fp:List Addr} {h:Heap} {b:Addr} {o:Obj} (hb:b∈fp) (e:h.get? b=some o):(b,o)∈Iv fp h:=List.mem_filterMap.mpr ⟨b,hb,by rw [e];rfl⟩
theorem Qx {fp:List Addr} {h:Heap} {p:Addr×Obj} (hp:p∈Iv fp h):p.1∈fp/\h.get? p.1=some p.2:=by
 obtain⟨b,hb,e⟩:=List.mem_filterMap.mp hp
 cases q:h.get? b with
 | none=>rw [q] at e;cases e
 | some o=>
  rw [q] at e
  have e':(b,o)=p:=Option.some.inj e
  subst e'
  exact⟨hb,q⟩
theorem Inv.pinned {pins:List (Addr×Obj)} {σ:St} {H:Hp} {s:Shared} {fp:List Addr} (I:Inv X pins σ H s) (hf:∀b∈fp,JX X pins H b) (ho:∀b∈fp,∃o,s.heap.get? b=some o/\∀v,o.data≠.cell v):Inv X (pins ++ Iv fp s.heap) σ H s:=
 I.pins_of fun p hp=>(List.mem_append.mp hp).elim (fun z=>I.pin p (List.mem_append_right _ z)) fun z=>by
  obtain⟨hb,e⟩:=Qx z
  obtain⟨f0,f1,f2,_⟩:=hf p.1 hb
  obtain⟨o,e',d⟩:=ho p.1 hb
  rw [e] at e';cases e'
  exact⟨e,f0,f1,f2,d⟩
theorem Inv.unpinned {pins pl:List (Addr×Obj)} {σ:St} {H:Hp} {s:Shared} (I:Inv X (pins ++ pl) σ H s):Inv X pins σ H s:=I.pins_of fun p hp=>I.pin p (List.mem_append_right _ (List.mem_append_left _ hp))
theorem dq {iter:Expr} {body:List Stmt} {wi:TI} {g:TG} {tb:TS} {pos:Pos} (hp:PassesOwn (model X.prog X.w) X.A X.env X.xe) (hc:X.calm=true) (hi:PI X tg iter wi) (hg:PG X tg g) (hb:Pj X body tb)
  (hs:∀x,foldedSetIterable iter X.env x=pure x:=by intro _;rfl):PS X (.For tg iter body [] pos) (aaq wi g tb):=by
 intro pins s σ H D I h
 refine wpAny_For (dO (hi pins s σ H _ I h) fun v s1 h1=>dO h1 fun itv s2 h2=>?_) hs
 obtain⟨it,fp,tn,J,H2,e,I2,T,st2,f2,W,⟨m0,w0⟩,turn⟩:=h2
 subst e
 have stat:∀{H':Hp},(∀b∈fp,H' b=none)->∀b∈fp,JX X pins H' b:=fun hn b hb=>⟨hn b hb,(f2 b hb).2⟩
 refine codeAny_forLoop_any (fun n s'=>∃i σ' H',Inv X pins σ' H' s'/\tn i s'.heap/\(∀b∈fp,H' b=none)/\W i n σ' H') ?_ m0 ⟨0,σ,H2,I2,st2,fun b hb=>(f2 b hb).1,w0⟩
 rintro n s3 ⟨i,σ3,H3,I3,st3,fr3,w3⟩
 rcases turn i n σ3 H3 w3 with ⟨stop,qn⟩ | ⟨go,N,hN,step⟩
 ·refine wpAny_passesOwn hp (dO (T.done X rfl rfl rfl hc i pins s3 σ3 H3 X.xe I3 (stat fr3) st3 stop) fun r s4 hpt=>?_)
  obtain⟨hr,I4⟩:=hpt
  subst hr
  exact wpAny_execs_nil ⟨σ3,H3,I4,qn⟩
 ·refine wpAny_passesOwn hp (dO (T.item X rfl rfl rfl hc i pins s3 σ3 H3 X.xe I3 (stat fr3) st3 go) fun r s4 hpt=>?_)
  obtain⟨u,hr,h4⟩:=hpt
  subst hr
  refine wpAny_passesOwn hp (dO h4 fun _ s5 hpt=>?_)
  obtain⟨x,H5,I5,r5,y5,st5,fr5⟩:=hpt
  have I5':=I5.pinned (stat fr5) (T.obj _ _ st5)
  refine wpAny_passesOwn hp (dO (hg _ s5 σ3 H5 x u _ I5' r5 (step x H5 y5)) fun _ s6 hpt=>?_)
  obtain⟨σ6,H6,I6,q6⟩:=hpt
  refine wpAny_passesOwn hp (dO (hb _ s6 σ6 H6 _ I6 q6) fun f s7 q7=>?_)
  have again:∀{σ7:St} {H7:Hp},Inv X (pins ++ Iv fp s5.heap) σ7 H7 s7->N σ7 H7->∃m,m <n/\∃i σ' H',Inv X pins σ' H' s7/\tn i s7.heap/\(∀b∈fp,H' b=none)/\W i m σ' H':=fun {σ7 H7} I7 n7=>by
   obtain⟨m',hm,w7⟩:=hN σ7 H7 n7
   refine⟨m',hm,i+1,σ7,H7,I7.unpinned,T.keep _ _ _ st5 fun b hb o e=>(I7.pin (b,o) (List.mem_append_right _ (List.mem_append_right _ (su hb e)))).1,fun b hb=>?_,w7⟩
   obtain⟨o,e,d⟩:=T.obj _ _ st5 b hb
   exact(I7.pin (b,o) (List.mem_append_right _ (List.mem_append_right _ (su hb e)))).2.1
  cases f with
  | next=>obtain⟨σ7,H7,I7,n7⟩:=q7;exact again I7 n7
  | cont=>obtain⟨σ7,H7,I7,n7⟩:=q7;exact again I7 n7
  | brk=>obtain⟨σ7,H7,I7,q7⟩:=q7;exact⟨σ7,H7,I7.unpinned,q7⟩
  | ret v=>obtain⟨x7,σ7,H7,I7,r7,q7⟩:=q7;exact⟨x7,σ7,H7,I7.unpinned,r7,q7⟩
end
theorem dD {K:PySem.W.Frag} {a:Addr} {xs:List V} {g:TG} {tb:TS} {D:Ends} {σ:St} {H:Hp} (Pv:Nat->St->Hp->Prop) (h0:Pv 0 σ H) (hl:∀i σ H,i<=xs.length->Pv i σ H->bH K H a xs)
  (hs:∀i x σ H,xs[i]?=some x->Pv i σ H->g x σ H fun σ2 H2=>tb { D with nx:=Pv (i+1),ct:=Pv (i+1),bk:=D.nx } σ2 H2) (hd:∀σ H,Pv xs.length σ H->D.nx σ H):
  ∃W:Nat->Nat->St->Hp->Prop,(∃m,W 0 m σ H)/\∀i m σ H,W i m σ H->
   ((X6 K a).stop i H/\D.nx σ H)∨((X6 K a).go i H/\∃N:St->Hp->Prop,(∀σ' H',N σ' H'->∃m',m' <m/\W (i+1) m' σ' H')/\∀x H',(X6 K a).yld i H x H'->g x σ H' fun σ2 H2=>tb { D with nx:=N,ct:=N,bk:=D.nx } σ2 H2):=by
 refine⟨fun i m σ H=>m=xs.length - i/\i<=xs.length/\Pv i σ H,⟨xs.length,by simp,Nat.zero_le _,h0⟩,?_⟩
 rintro i m σ H ⟨rfl,hi,p⟩
 have q:=hl i σ H hi p
 by_cases hlt:i <xs.length
 ·refine .inr ⟨⟨xs,xs[i],q,by simp [hlt]⟩,Pv (i+1),fun σ' H' p'=>⟨xs.length - (i+1),by omega,rfl,hlt,p'⟩,fun x H' y=>?_⟩
  obtain⟨e,y⟩:=y
  subst e
  exact hs i x σ _ (y xs q) p
 ·have e:i=xs.length:=by omega
  subst e
  exact .inl ⟨⟨xs,q,Nat.le_refl _⟩,hd σ H p⟩
theorem Vg {K:PySem.W.Frag} {a:Addr} {xs:List V} {g:TG} {tb:TS} {D:Ends} {σ:St} {H:Hp} (Pv:Nat->St->Hp->Prop) (h0:Pv 0 σ H) (hl:∀i σ H,i<=xs.length->Pv i σ H->fH K H a xs)
  (hs:∀i x σ H,xs[i]?=some x->Pv i σ H->g x σ H fun σ2 H2=>tb { D with nx:=Pv (i+1),ct:=Pv (i+1),bk:=D.nx } σ2 H2) (hd:∀σ H,Pv xs.length σ H->D.nx σ H):
  ∃W:Nat->Nat->St->Hp->Prop,(∃m,W 0 m σ H)/\∀i m σ H,W i m σ H->
   ((Yj K a).stop i H/\D.nx σ H)∨((Yj K a).go i H/\∃N:St->Hp->Prop,(∀σ' H',N σ' H'->∃m',m' <m/\W (i+1) m' σ' H')/\∀x H',(Yj K a).yld i H x H'->g x σ H' fun σ2 H2=>tb { D with nx:=N,ct:=N,bk:=D.nx } σ2 H2):=by
 refine⟨fun i m σ H=>m=xs.length - i/\i<=xs.length/\Pv i σ H,⟨xs.length,by simp,Nat.zero_le _,h0⟩,?_⟩
 rintro i m σ H ⟨rfl,hi,p⟩
 have q:=hl i σ H hi p
 by_cases hlt:i <xs.length
 ·refine .inr ⟨⟨xs,xs[i],q,by simp [hlt]⟩,Pv (i+1),fun σ' H' p'=>⟨xs.length - (i+1),by omega,rfl,hlt,p'⟩,fun x H' y=>?_⟩
  obtain⟨e,y⟩:=y
  subst e
  exact hs i x σ _ (y xs q) p
 ·have e:i=xs.length:=by omega
  subst e
  exact .inl ⟨⟨xs,q,Nat.le_refl _⟩,hd σ H p⟩
theorem oE {lo:Int} {n:Nat} {g:TG} {tb:TS} {D:Ends} {σ:St} {H:Hp} (Pv:Nat->St->Hp->Prop) (h0:Pv 0 σ H)
  (hs:∀i σ H,i <n->Pv i σ H->g (.int (lo+i)) σ H fun σ2 H2=>tb { D with nx:=Pv (i+1),ct:=Pv (i+1),bk:=D.nx } σ2 H2) (hd:∀σ H,Pv n σ H->D.nx σ H):
  ∃W:Nat->Nat->St->Hp->Prop,(∃m,W 0 m σ H)/\∀i m σ H,W i m σ H->
   ((Xn lo n).stop i H/\D.nx σ H)∨((Xn lo n).go i H/\∃N:St->Hp->Prop,(∀σ' H',N σ' H'->∃m',m' <m/\W (i+1) m' σ' H')/\∀x H',(Xn lo n).yld i H x H'->g x σ H' fun σ2 H2=>tb { D with nx:=N,ct:=N,bk:=D.nx } σ2 H2):=by
 refine⟨fun i m σ H=>m=n - i/\i<=n/\Pv i σ H,⟨n,by simp,Nat.zero_le _,h0⟩,?_⟩
 rintro i m σ H ⟨rfl,hi,p⟩
 by_cases hlt:i <n
 ·refine .inr ⟨hlt,Pv (i+1),fun σ' H' p'=>⟨n - (i+1),by omega,rfl,hlt,p'⟩,fun x H' y=>?_⟩
  obtain⟨e,y⟩:=y
  subst e y
  exact hs i σ _ hlt p
 ·have e:i=n:=by omega
  subst e
  exact .inl ⟨Nat.le_refl _,hd σ H p⟩
theorem DW {c:TT} {tb:TS} {D:Ends} {σ:St} {H:Hp} (Pv:St->Hp->Prop) (μ:St->Hp->Nat) (h0:Pv σ H)
  (hs:∀σ H,Pv σ H->c σ H fun b H1=>if b=true then tb { D with nx:=fun σ' H'=>Pv σ' H'/\μ σ' H' <μ σ H,ct:=fun σ' H'=>Pv σ' H'/\μ σ' H' <μ σ H,bk:=D.nx } σ H1 else D.nx σ H1)
  (mono:∀σ H Q Q',(∀b H1,Q b H1->Q' b H1)->c σ H Q->c σ H Q'):Rf c tb D σ H:=by
 refine⟨fun m σ H=>m=μ σ H/\Pv σ H,⟨_,rfl,h0⟩,?_⟩
 rintro m σ H ⟨rfl,p⟩
 refine mono σ H _ _ (fun b H1 q=>?_) (hs σ H p)
 cases b with
 | true=>exact⟨_,fun σ' H' ⟨p',l⟩=>⟨_,l,rfl,p'⟩,q⟩
 | false=>exact q
noncomputable abbrev R2:=V->V->Hp->VK->Prop
noncomputable def vX (X:Cx) (f:Value->Value->Sem Value) (r:R2):Prop:=
 ∀(pins:List (Addr×Obj)) (s:Shared) (σ:St) (H:Hp) (x y:V) (v u:Value) (Q:VK),Inv X pins σ H s->RelV x v->RelV y u->r x y H Q->
  wpAny (model X.prog X.w) X.A (f v u) (EP X pins σ Q) X.xe s
noncomputable def jW (X:Cx) (f:Value) (r:List V->Hp->VK->Prop):Prop:=
 ∀(pins:List (Addr×Obj)) (s:Shared) (σ:St) (H:Hp) (xs:List V) (us:List Value) (Q:VK),Inv X pins σ H s->Vals xs us->r xs H Q->
  wpAny (model X.prog X.w) X.A (call f us) (EP X pins σ Q) X.xe s
noncomputable def UW (r:R2) (ta tb:TE):TE:=fun σ H Q=>ta σ H fun x H1=>tb σ H1 fun y H2=>r x y H2 Q
inductive rII (C:Int->Int->Prop) (g:Int->Int->V) (x:V) (y:V) (H:Hp) (Q:VK):Prop where
 | mk:∀i j,x=.int i->y=.int j->C i j->Q (g i j) H->rII C g x y H Q
noncomputable def rI (C:Int->Int->Prop) (g:Int->Int->V):R2:=fun x y H Q=>rII C g x y H Q
inductive Zd (g:Int->Int->V) (x:V) (y:V) (H:Hp) (Q:VK):Prop where
 | mk:∀i j,x=.int i->y=.int j->Q (g i j) H->Zd g x y H Q
noncomputable def Uy (g:Int->Int->V):R2:=fun x y H Q=>Zd g x y H Q
section
variable {X:Cx} {a b c:Expr} {ta tb tc:TE} {pos:Pos}
theorem X7 (ha:PE X a ta) (hb:PE X b tb) {pins:List (Addr×Obj)} {s:Shared} {σ:St} {H:Hp} {R:V->V->Hp->Prop} (I:Inv X pins σ H s)
  (h:ta σ H fun x H1=>tb σ H1 fun y H2=>R x y H2) {Q:Value->Shared->Prop} {f:Value->Value->Sem Value}
  (hf:∀v u s2 x y H2,Inv X pins σ H2 s2->RelV x v->RelV y u->R x y H2->wpAny (model X.prog X.w) X.A (f v u) Q X.xe s2):
  wpAny (model X.prog X.w) X.A (eval a X.env) (fun v s₁=>wpAny (model X.prog X.w) X.A (eval b X.env) (fun u s₂=>wpAny (model X.prog X.w) X.A (f v u) Q X.xe s₂) X.xe s₁) X.xe s:=by
 refine dO (ha pins s σ H _ I h) fun v s1 hpt=>?_
 obtain⟨x,H1,I1,r1,q1⟩:=hpt
 refine dO (hb pins s1 σ H1 _ I1 q1) fun u s2 hpt=>?_
 obtain⟨y,H2,I2,r2,q2⟩:=hpt
 exact hf v u s2 x y H2 I2 r1 r2 q2
theorem bc {op:Operator} {r:R2} (ho:vX X (binaryOp op) r) (ha:PE X a ta) (hb:PE X b tb):PE X (.BinOp a op b pos) (UW r ta tb):=by
 intro pins s σ H Q I h
 exact wpAny_BinOp (X7 ha hb I h fun v u s2 x y H2 I2 rx ry q=>ho pins s2 σ H2 x y v u Q I2 rx ry q)
theorem YB {f:Value->Value->Sem Value} {C:Int->Int->Prop} {g:Int->Int->Int}
  (rule:∀(i j:Int) (t u:Tok) (s:Shared) (Q:Value->Shared->Prop) (E:Value->Shared->Prop),C i j->Q (.int (g i j) s.toks) { s with toks:=s.toks+1 }->wpAny (model X.prog X.w) X.A (f (.int i t) (.int j u)) Q E s):
  vX X f (rI C fun i j=>.int (g i j)):=by
 intro pins s σ H x y v u Q I rx ry h
 obtain⟨i,j,rfl,rfl,hc,q⟩:=h
 obtain⟨t,rfl⟩:=rx
 obtain⟨t',rfl⟩:=ry
 exact rule i j t t' s _ _ hc ⟨.int (g i j),H,I.tok _,⟨_,rfl⟩,q⟩
theorem VD {f:Value->Value->Sem Value} {g:Int->Int->Int}
  (rule:∀(i j:Int) (t u:Tok) (s:Shared) (Q:Value->Shared->Prop) (E:Value->Shared->Prop),Q (.int (g i j) s.toks) { s with toks:=s.toks+1 }->wpAny (model X.prog X.w) X.A (f (.int i t) (.int j u)) Q E s):
  vX X f (Uy fun i j=>.int (g i j)):=by
 intro pins s σ H x y v u Q I rx ry h
 obtain⟨i,j,rfl,rfl,q⟩:=h
 obtain⟨t,rfl⟩:=rx
 obtain⟨t',rfl⟩:=ry
 exact rule i j t t' s _ _ ⟨.int (g i j),H,I.tok _,⟨_,rfl⟩,q⟩
theorem V0 {f:Value->Value->Sem Value} {g:Int->Int->Bool}
  (rule:∀(i j:Int) (t u:Tok) (s:Shared) (Q:Value->Shared->Prop) (E:Value->Shared->Prop),Q (.bool (g i j)) s->wpAny (model X.prog X.w) X.A (f (.int i t) (.int j u)) Q E s):
  vX X f (Uy fun i j=>.bl (g i j)):=by
 intro pins s σ H x y v u Q I rx ry h
 obtain⟨i,j,rfl,rfl,q⟩:=h
 obtain⟨t,rfl⟩:=rx
 obtain⟨t',rfl⟩:=ry
 exact rule i j t t' s _ _ ⟨.bl (g i j),H,I,rfl,q⟩
noncomputable def aak (i j:Int):Prop:=0<=j/\j<=1000000/\i.natAbs <2 ^ 64
theorem Nk (k:Nat):(0:Int)<=2 ^ k:=by
 rw [two_pow_cast]
 exact Int.natCast_nonneg _
theorem dm:vX X (binaryOp .Add) (Uy fun i j=>.int (i+j)):=VD fun _ _ _ _ _ _ _ q=>add_int q
theorem Nu:vX X (binaryOp .Sub) (Uy fun i j=>.int (i - j)):=VD fun _ _ _ _ _ _ _ q=>sub_int q
theorem cz:vX X (binaryOp .Mod) (rI (fun _ j=>0 <j) fun i j=>.int (i % j)):=YB fun i j _ _ _ _ _ hc q=>by
 have h1:(0:Int) <j:=hc
 exact mod_int' (by omega) (by rw [Int.fmod_eq_emod_of_nonneg i (by omega)];exact q)
theorem M6:vX X (binaryOp .Pow) (rI aak fun i j=>.int (i ^ j.toNat)):=YB fun _ _ _ _ _ _ _ hc q=>pow_int_small hc.1 hc.2.1 hc.2.2 q
theorem zT:vX X (binaryOp .RShift) (rI (fun _ j=>0<=j) fun i j=>.int (i / 2 ^ j.toNat)):=YB fun i j _ _ _ _ _ hc q=>
 rshift_int hc (by rw [Int.fdiv_eq_ediv_of_nonneg i (Nk _)];exact q)
theorem Jl:vX X (binaryOp .BitAnd) (Uy fun i j=>.int (Builtin.bitAnd i j)):=VD fun _ _ _ _ _ _ _ q=>and_int q
theorem J4:vX X (inplaceOp .Add) (Uy fun i j=>.int (i+j)):=VD fun _ _ _ _ _ _ _ q=>iadd_int q
end
noncomputable def Zm:V->V->Bool
 | .non,.non=>true | .non,.int _=>true | .int _,.non=>true | .non,.bl _=>true | .bl _,.non=>true | .non,.str _=>true | .str _,.non=>true
 | .int _,.int _=>true | .bl _,.bl _=>true | .str _,.str _=>true | .byt _,.byt _=>true
 | .int _,.str _=>true | .str _,.int _=>true | .bl _,.str _=>true | .str _,.bl _=>true
 | _,_=>false
noncomputable def rEq:R2:=fun x y H Q=>Zm x y=true/\Q (.bl (decide (x=y))) H
noncomputable def rNe:R2:=fun x y H Q=>Zm x y=true/\Q (.bl (!decide (x=y))) H
theorem Ox {i j:Int}:decide (V.int i=V.int j)=(i == j):=by
 rw [Bool.eq_iff_iff]
 simp
theorem SQ {i j:Bool}:decide (V.bl i=V.bl j)=(i == j):=by
 rw [Bool.eq_iff_iff]
 simp
theorem Oq {i j:Str}:decide (V.str i=V.str j)=(i == j):=by
 rw [Bool.eq_iff_iff]
 simp
theorem Ow {i j:Array UInt8}:decide (V.byt i=V.byt j)=(i.toList == j.toList):=by
 rw [Bool.eq_iff_iff]
 cases i
 cases j
 simp
section
variable {X:Cx} {a b c:Expr} {ta tb tc:TE} {pos:Pos}
theorem cU {pins:List (Addr×Obj)} {σ:St} {H:Hp} {s:Shared} {Q:VK} {k k':Bool} (I:Inv X pins σ H s) (q:Q (.bl k) H) (e:k=k'):EP X pins σ Q (.bool k') s:=by
 subst e
 exact⟨.bl k,H,I,rfl,q⟩
theorem eY:vX X (compareOp .Eq) rEq:=by
 intro pins s σ H x y v u Q I rx ry h
 obtain⟨hs,q⟩:=h
 cases x with
 | non=>
  cases rx
  cases y with
  | non=>cases ry;exact PySem.EqNone.eq_none_none (cU I q (by simp))
  | bl j=>cases ry;exact PySem.EqNone.eq_none_bool (cU I q (by simp))
  | int j=>obtain⟨t',rfl⟩:=ry;exact PySem.EqNone.eq_none_int (cU I q (by simp))
  | str j=>obtain⟨t',rfl⟩:=ry;exact PySem.EqNone.eq_none_str (cU I q (by simp))
  | _=>exact absurd (show false=true from hs) Bool.false_ne_true
 | bl i=>
  cases rx
  cases y with
  | non=>cases ry;exact PySem.EqNone.eq_bool_none (cU I q (by simp))
  | bl j=>cases ry;exact eq_bool (cU I q SQ)
  | str j=>obtain⟨t',rfl⟩:=ry;exact PySem.EqMixed.eq_bool_str (cU I q (by simp))
  | _=>exact absurd (show false=true from hs) Bool.false_ne_true
 | int i=>
  obtain⟨t,rfl⟩:=rx
  cases y with
  | non=>cases ry;exact PySem.EqNone.eq_int_none (cU I q (by simp))
  | int j=>obtain⟨t',rfl⟩:=ry;exact eq_int (cU I q Ox)
  | str j=>obtain⟨t',rfl⟩:=ry;exact PySem.EqMixed.eq_int_str (cU I q (by simp))
  | _=>exact absurd (show false=true from hs) Bool.false_ne_true
 | str i=>
  obtain⟨t,rfl⟩:=rx
  cases y with
  | non=>cases ry;exact PySem.EqNone.eq_str_none (cU I q (by simp))
  | bl j=>cases ry;exact PySem.EqMixed.eq_str_bool (cU I q (by simp))
  | int j=>obtain⟨t',rfl⟩:=ry;exact PySem.EqMixed.eq_str_int (cU I q (by simp))
  | str j=>obtain⟨t',rfl⟩:=ry;exact eq_str (cU I q Oq)
  | _=>exact absurd (show false=true from hs) Bool.false_ne_true
 | byt i=>
  obtain⟨t,rfl⟩:=rx
  cases y with
  | byt j=>obtain⟨t',rfl⟩:=ry;exact PySem.W.eq_bytes (cU I q Ow)
  | _=>exact absurd (show false=true from hs) Bool.false_ne_true
 | _=>cases y <;> exact absurd (show false=true from hs) Bool.false_ne_true
theorem Gf:vX X (compareOp .NotEq) rNe:=by
 intro pins s σ H x y v u Q I rx ry h
 obtain⟨hs,q⟩:=h
 cases x with
 | non=>
  cases rx
  cases y with
  | non=>cases ry;exact PySem.EqNone.ne_none_none (cU I q (by simp))
  | bl j=>cases ry;exact PySem.EqNone.ne_none_bool (cU I q (by simp))
  | int j=>obtain⟨t',rfl⟩:=ry;exact PySem.EqNone.ne_none_int (cU I q (by simp))
  | str j=>obtain⟨t',rfl⟩:=ry;exact PySem.EqNone.ne_none_str (cU I q (by simp))
  | _=>exact absurd (show false=true from hs) Bool.false_ne_true
 | bl i=>
  cases rx
  cases y with
  | non=>cases ry;exact PySem.EqNone.ne_bool_none (cU I q (by simp))
  | bl j=>cases ry;exact ne_bool (cU I q (congrArg not SQ))
  | str j=>obtain⟨t',rfl⟩:=ry;exact PySem.EqMixed.ne_bool_str (cU I q (by simp))
  | _=>exact absurd (show false=true from hs) Bool.false_ne_true
 | int i=>
  obtain⟨t,rfl⟩:=rx
  cases y with
  | non=>cases ry;exact PySem.EqNone.ne_int_none (cU I q (by simp))
  | int j=>obtain⟨t',rfl⟩:=ry;exact ne_int (cU I q (congrArg not Ox))
  | str j=>obtain⟨t',rfl⟩:=ry;exact PySem.EqMixed.ne_int_str (cU I q (by simp))
  | _=>exact absurd (show false=true from hs) Bool.false_ne_true
 | str i=>
  obtain⟨t,rfl⟩:=rx
  cases y with
  | non=>cases ry;exact PySem.EqNone.ne_str_none (cU I q (by simp))
  | bl j=>cases ry;exact PySem.EqMixed.ne_str_bool (cU I q (by simp))
  | int j=>obtain⟨t',rfl⟩:=ry;exact PySem.EqMixed.ne_str_int (cU I q (by simp))
  | str j=>obtain⟨t',rfl⟩:=ry;exact ne_str (cU I q (congrArg not Oq))
  | _=>exact absurd (show false=true from hs) Bool.false_ne_true
 | byt i=>
  obtain⟨t,rfl⟩:=rx
  cases y with
  | byt j=>obtain⟨t',rfl⟩:=ry;exact PySem.W.ne_bytes (cU I q (congrArg not Ow))
  | _=>exact absurd (show false=true from hs) Bool.false_ne_true
 | _=>cases y <;> exact absurd (show false=true from hs) Bool.false_ne_true
theorem yZ:vX X (compareOp .Lt) (Uy fun i j=>.bl (decide (i <j))):=V0 fun _ _ _ _ _ _ _ q=>lt_int q
theorem xf:vX X (compareOp .LtE) (Uy fun i j=>.bl (decide (i<=j))):=V0 fun _ _ _ _ _ _ _ q=>le_int q
theorem Hv:vX X (compareOp .Gt) (Uy fun i j=>.bl (decide (j <i))):=V0 fun _ _ _ _ _ _ _ q=>gt_int q
theorem ZC:vX X (compareOp .GtE) (Uy fun i j=>.bl (decide (j<=i))):=V0 fun _ _ _ _ _ _ _ q=>ge_int q
theorem Aa:vX X (compareOp .In) (fun x y H Q=>∃i j,x=.str i/\y=.str j/\Q (.bl (!(Builtin.Str.occurrences j i 0 j.length 1).isEmpty)) H):=by
 intro pins s σ H x y v u Q I rx ry h
 obtain⟨i,j,rfl,rfl,q⟩:=h
 obtain⟨t,rfl⟩:=rx
 obtain⟨t',rfl⟩:=ry
 exact in_str (cU I q rfl)
theorem bF (b:Expr) {op:CmpOp} (h:op≠.In:=by decide) (h2:op≠.NotIn:=by decide):behindInMarks op b=false:=by
 have e1:(op == CmpOp.In)=false:=by cases op <;> first | rfl | exact absurd rfl h
 have e2:(op == CmpOp.NotIn)=false:=by cases op <;> first | rfl | exact absurd rfl h2
 cases b <;> simp [behindInMarks,e1,e2]
theorem kW {op:CmpOp} {r:R2} (ho:vX X (compareOp op) r) (ha:PE X a ta) (hb:PE X b tb) (hm:behindInMarks op b=false):PE X (.Compare a [op] [b] pos) (UW r ta tb):=by
 intro pins s σ H Q I h
 exact wpAny_Compare1 (X7 ha hb I h fun v u s2 x y H2 I2 rx ry q=>ho pins s2 σ H2 x y v u Q I2 rx ry q) hm
inductive Ub (Q:Bool->Hp->Prop) (x:V) (H':Hp):Prop where
 | mk:∀k,x=.bl k->Q k H'->Ub Q x H'
noncomputable def HJ (t:TE):TT:=fun σ H Q=>t σ H fun x H'=>Ub Q x H'
theorem aZ {op:CmpOp} {r:R2} (ho:vX X (compareOp op) r) (ha:PE X a ta) (hb:PE X b tb) (hm:behindInMarks op b=false):PT X (.Compare a [op] [b] pos) (HJ (UW r ta tb)):=by
 intro pins s σ H Q I h
 refine wpAny_isTrue_Compare1 (dO (ha pins s σ H _ I h) fun v s1 ⟨x,H1,I1,r1,q1⟩=>dO (hb pins s1 σ H1 _ I1 q1) fun u s2 ⟨y,H2,I2,r2,q2⟩=>
  dO (ho pins s2 σ H2 x y v u _ I2 r1 r2 q2) fun c s3 ⟨z,H3,I3,r3,k,e,q3⟩=>?_) hm
 subst e
 cases r3
 exact wpAny_truthy_bool ⟨H3,I3,q3⟩
inductive O1 (r':R2) (tc:TE) (σ:St) (Q:VK) (y:V) (z:V) (H3:Hp):Prop where
 | mk:∀k,z=.bl k->((if k=true then tc σ H3 fun w' H4=>r' y w' H4 Q else Q (.bl false) H3))->O1 r' tc σ Q y z H3
noncomputable def Um (r r':R2) (ta tb tc:TE):TE:=fun σ H Q=>ta σ H fun x H1=>tb σ H1 fun y H2=>r x y H2 fun z H3=>O1 r' tc σ Q y z H3
theorem RC {op op':CmpOp} {r r':R2} (ho:vX X (compareOp op) r) (ho':vX X (compareOp op') r') (ha:PE X a ta) (hb:PE X b tb) (hc:PE X c tc)
  (hm:lastMarks [op,op'] [b,c]=false:=by with_unfolding_all rfl):PE X (.Compare a [op,op'] [b,c] pos) (Um r r' ta tb tc):=by
 intro pins s σ H Q I h
 refine Compare_chain (dO (ha pins s σ H _ I h) fun v s1 ⟨x,H1,I1,r1,q1⟩=>chain_link (dO (hb pins s1 σ H1 _ I1 q1) fun u s2 ⟨y,H2,I2,r2,q2⟩=>
  dO (ho pins s2 σ H2 x y v u _ I2 r1 r2 q2) fun d s3 ⟨z,H3,I3,r3,k,e,q3⟩=>?_)) hm
 subst e
 cases r3
 refine wpAny_truthy_bool ?_
 cases k with
 | false=>exact ite_ff ⟨.bl false,H3,I3,rfl,q3⟩
 | true=>exact ite_tt (chain_last (dO (hc pins s3 σ H3 _ I3 q3) fun w' s4 ⟨z',H4,I4,r4,q4⟩=>ho' pins s4 σ H4 y z' u w' Q I4 r2 r4 q4))
theorem yO {op op':CmpOp} {r r':R2} (ho:vX X (compareOp op) r) (ho':vX X (compareOp op') r') (ha:PE X a ta) (hb:PE X b tb) (hc:PE X c tc)
  (hm:lastMarks [op,op'] [b,c]=false:=by with_unfolding_all rfl):PT X (.Compare a [op,op'] [b,c] pos) (HJ (Um r r' ta tb tc)):=by
 intro pins s σ H Q I h
 refine isTrue_chain (dO (ha pins s σ H _ I h) fun v s1 ⟨x,H1,I1,r1,q1⟩=>test_link (dO (hb pins s1 σ H1 _ I1 q1) fun u s2 ⟨y,H2,I2,r2,q2⟩=>
  dO (ho pins s2 σ H2 x y v u _ I2 r1 r2 q2) fun d s3 ⟨z,H3,I3,r3,k,e,q3⟩=>?_)) hm
 subst e
 cases r3
 refine wpAny_truthy_bool ?_
 cases k with
 | false=>
  obtain⟨k',e',q'⟩:=q3
  cases e'
  exact ite_ff ⟨H3,I3,q'⟩
 | true=>
  refine ite_tt (test_last (dO (hc pins s3 σ H3 _ I3 q3) fun w' s4 ⟨z',H4,I4,r4,q4⟩=>dO (ho' pins s4 σ H4 y z' u w' _ I4 r2 r4 q4) fun d' s5 hpt=>?_))
  obtain⟨z2,H5,I5,r5,k2,e2,q5⟩:=hpt
  subst e2
  cases r5
  exact wpAny_truthy_bool ⟨H5,I5,q5⟩
theorem Jg:(sizeLine:Nat) <2 ^ 63:=by rw [sizeLine_eq];decide
theorem xO:vX X (binaryOp .Add) (fun x y H Q=>∃i j,x=.str i/\y=.str j/\i.length+j.length<=sizeLine/\Q (.str (i ++ j)) H):=by
 intro pins s σ H x y v u Q I rx ry h
 obtain⟨i,j,rfl,rfl,hz,q⟩:=h
 obtain⟨t,rfl⟩:=rx
 obtain⟨t',rfl⟩:=ry
 exact add_str (fun t' tk=>⟨.str (i ++ j),H,I.tok _,⟨_,rfl⟩,q⟩) hz
theorem vals1 {x:V} {us:List Value} (r:Vals [x] us):∃u,us=[u]/\RelV x u:=by
 cases r with
 | cons r1 r2=>cases r2;exact⟨_,rfl,r1⟩
theorem vals2 {x y:V} {us:List Value} (r:Vals [x,y] us):∃u w',us=[u,w']/\RelV x u/\RelV y w':=by
 cases r with
 | cons r1 r2=>
  cases r2 with
  | cons r3 r4=>cases r4;exact⟨_,_,rfl,r1,r3⟩
theorem G5 (hc:X.calm=true):jW X (.builtin "max") (fun xs H Q=>∃i j,xs=[.int i,.int j]/\Q (.int (if j >i then j else i)) H):=by
 intro pins s σ H xs us Q I r h
 obtain⟨i,j,rfl,q⟩:=h
 obtain⟨u,w',rfl,⟨t,rfl⟩,⟨t',rfl⟩⟩:=vals2 r
 refine max_two_ints (I.ok.hd hc) fun h' tk k=>⟨_,H,I.kept k,?_,q⟩
 by_cases hj:j >i
 ·rw [if_pos hj,if_pos hj];exact⟨_,rfl⟩
 ·rw [if_neg hj,if_neg hj];exact⟨_,rfl⟩
theorem Ik:jW X (.type "str") (fun xs H Q=>∃i,xs=[.int i]/\i.natAbs.log2 <1920/\Q (.str (toString i)) H):=by
 intro pins s σ H xs us Q I r h
 obtain⟨i,rfl,hz,q⟩:=h
 obtain⟨u,rfl,t,rfl⟩:=vals1 r
 exact PySem.P.str_of_int hz ⟨.str _,H,I.tok _,⟨_,rfl⟩,q⟩
noncomputable def Yo (K:PySem.W.Frag) (x:V) (H:Hp) (n:Nat):Prop:=
 match x with
 | .str y=>y.length<=sizeLine/\n=y.length
 | .byt y=>y.size<=sizeLine/\n=y.size
 | .ref p=>(∃xs,bH K H p xs/\n=xs.length)∨∃xs,fH K H p xs/\n=xs.length
 | _=>False
theorem bR:jW X (.builtin "len") (fun xs H Q=>∃x n,xs=[x]/\Yo X.K x H n/\Q (.int n) H):=by
 intro pins s σ H xs us Q I r h
 obtain⟨x,n,rfl,e,q⟩:=h
 obtain⟨u,rfl,rx⟩:=vals1 r
 have hl:=Jg
 have hs:sizeLine=16777216:=sizeLine_eq
 cases x with
 | str y=>
  obtain⟨t,rfl⟩:=rx
  obtain⟨hy,e'⟩:y.length<=sizeLine/\n=y.length:=e
  subst e'
  exact len_str (by omega) ⟨.int _,H,I.tok _,⟨_,rfl⟩,q⟩
 | byt y=>
  obtain⟨t,rfl⟩:=rx
  obtain⟨hy,e'⟩:y.size<=sizeLine/\n=y.size:=e
  subst e'
  exact PySem.W.len_bytes (by omega) ⟨.int _,H,I.tok _,⟨_,rfl⟩,q⟩
 | ref p=>
  cases rx
  have e':(∃xs,bH X.K H p xs/\n=xs.length)∨∃xs,fH X.K H p xs/\n=xs.length:=e
  rcases e' with ⟨xs,hx,e'⟩ | ⟨xs,hx,e'⟩
  ·subst e'
   obtain⟨its,r',pl,hz⟩:=I.list hx
   have hlen:=r'.length
   exact Calls.call_len_list pl.isList (by simp only [List.size_toArray];omega) ⟨.int xs.length,H,I.tok _,⟨_,by simp only [List.size_toArray];rw [hlen]⟩,q⟩
  ·subst e'
   obtain⟨its,r',pl,hz⟩:=I.tuple hx
   have hlen:=r'.length
   exact len_tuple pl (by simp only [List.size_toArray];omega) ⟨.int xs.length,H,I.tok _,⟨_,by simp only [List.size_toArray];rw [hlen]⟩,q⟩
 | _=>exact(show False from e).elim
end
structure Mv (h:Heap) (x dx C:Addr) (mA:Str->Option Value):Prop where
 obj:h.get? x=some (PySem.W.instObj C dx)
 ns:h.Ns1 dx mA
 ne:dx≠x
theorem Qo {h:Heap} {dx:Addr} {mA:Str->Option Value} (n:h.Ns1 dx mA):∃od,h.get? dx=some od/\∀name,PySem.W.lookIn name od=some (mA name):=by
 obtain⟨o,es,ep,ho,hd,hk,_,hm⟩:=n
 refine⟨o,ho,fun name=>?_⟩
 have e:=hm name
 unfold nsFind findBy at e
 rw [<-Array.find?_toList] at e
 unfold PySem.W.lookIn
 rw [hd]
 dsimp only
 split
 ·rename_i y q
  rw [q] at e
  exact congrArg some e
 ·rename_i q
  rw [q] at e
  have a:es.toList.any (·.refKey)=false:=by
   rw [List.any_eq_false]
   intro y hy
   obtain⟨z,t,hkey⟩:=hk y (Array.mem_toList_iff.mp hy)
   simp [DictEntry.refKey,hkey]
  have a':¬es.toList.any (·.refKey)=true:=by rw [a];exact Bool.false_ne_true
  rw [if_neg a']
  exact congrArg some e
theorem Mv.look {h:Heap} {x dx C:Addr} {mA:Str->Option Value} (I:Mv h x dx C mA):∃od,PySem.W.InstAt h x (PySem.W.instObj C dx) C (some od)/\∀name,PySem.W.lookIn name od=some (mA name):=
 let ⟨od,ho,hl⟩:=Qo I.ns
 ⟨od,⟨I.obj,rfl,rfl,ho⟩,hl⟩
section
variable {prog:Program} {w:World} {A:Around} {E:Value->Shared->Prop} {s:Shared} {K:PySem.W.Frag} {x dx C f:Addr} {mA:Str->Option Value} {name:Str} {v:Value}
theorem Va {expr:Bool} {Q:Value->Shared->Prop} (X:K.In s.heap) (I:Mv s.heap x dx C mA) (hg:PySem.W.plainGet K C name=true) (hh:PySem.W.hasDictIn K C=true)
  (ha:PySem.W.findIn K (.ref C) name=some none) (hv:mA name=some v) (hv':PySem.W.handedIn v=true) (h:Q v { s with toks:=s.toks+1 }):
  wpAny (model prog w) A (getAttr (.ref x) name expr) Q E s:=by
 obtain⟨od,J,hl⟩:=I.look
 exact PySem.W.get_value X J (PySem.W.plainGet_of hg).1 (PySem.W.findObj_own hh ha rfl (by rw [hl,hv])) hv' h
theorem Ul {pl:Sem Bool} {Q:Value×List Value->Shared->Prop} (X:K.In s.heap) (I:Mv s.heap x dx C mA) (hg:PySem.W.plainGet K C name=true)
  (hf:PySem.W.findIn K (.ref C) name=some (some (.ref f))) (ht:PySem.W.isFn K (.ref f)=true) (hv:mA name=none) (h:Q (.ref f,[.ref x]) s):
  wpAny (model prog w) A (getMethod (.ref x) name pl) Q E s:=by
 obtain⟨od,J,hl⟩:=I.look
 exact PySem.W.method_fn X J (PySem.W.plainGet_of hg).1 (PySem.W.plainGet_of hg).2 hf (beq_iff_eq.mp ht) (by show(PySem.W.lookIn name od).map (·.isSome)=some false;rw [hl,hv];rfl) h
theorem Vi {ns:List Str} {Q:Unit->Shared->Prop} (X:K.In s.heap) (I:Mv s.heap x dx C mA)
  (hs:PySem.W.findIn K (.ref C) "__setattr__" =some (some (.builtin "object.__setattr__"))) (hp:PySem.W.plainOver K C=true) (ht:PySem.W.takerIn K C name=some none) (hh:PySem.W.hasDictIn K C=true)
  (hw:PySem.Within mA ns) (hsz:ns.length<=sizeLine)
  (h:∀h',Mv h' x dx C (fun y=>if y=name then some v else mA y)->Heap.SameBut dx s.heap h'->Q () { s with heap:=h',toks:=s.toks+2 }):
  wpAny (model prog w) A (setAttr (.ref x) name v) Q E s:=by
 obtain⟨od,J,hl⟩:=I.look
 refine PySem.W.set_plain X J hs (PySem.W.osa_open (s:={ s with toks:=s.toks+1 }) (r:=none) X J hp ht fun b=>?_)
 obtain⟨cd,hc,hd'⟩:=PySem.W.any_some hh
 have hx:s.heap.get? x=some ⟨.ref C,some dx,.plain,#[]⟩:=I.obj
 refine wpAny_bind (wpAny_pure (wpAny_bind (wpAny_bind (wpAny_loadPart hx (wpAny_bind (PySem.W.Looks.here (s:={ s with toks:=s.toks+1 }) (PySem.W.looks_clsIn X hc) ?_))))))
 rw [hd']
 refine wpAny_pure (a:=some dx) (wpAny_bind (wpAny_pure (wpAny_bind ?_)))
 refine wpAny_nsSet1 (s:={ s with toks:=s.toks+1 }) I.ns fun h' hn2 hs2=>?_
 obtain⟨oD,esD,epD,hoD,hdD,hcD⟩:=hn2.count (PySem.Within.cons name v hw)
 refine wpAny_bind (wpAny_lookBehind hoD (by rw [hdD];exact pastItsLine_dict (Nat.le_trans hcD (by rw [List.length_cons];omega))) ?_)
 exact wpAny_pure (h _ ⟨(hs2.2 _ (Ne.symm I.ne)).trans I.obj,hn2,I.ne⟩ hs2)
theorem RN {R:Result->Shared->Prop} {vs:List Value} {kw:List (Str×Value)} (X:K.In s.heap) (hm:PySem.W.makesIn K C=true)
  (hi:PySem.W.findIn K (.ref C) "__init__" =some (some (.ref f))) (hf:PySem.W.typeIn K (.ref f)=some (.type "function"))
  (h:codeAny (model prog w) (A.under (.builtin "type.__call__" ⟨.ref C:: vs,kw⟩)) (.call (.ref f) ⟨.ref (s.heap.objs.size+1):: vs,kw⟩) (PySem.W.InitBack (s.heap.objs.size+1) R)
   { s with heap:=(s.heap.push PySem.W.emptyDict).push (PySem.W.instObj C s.heap.objs.size) }):
  codeAny (model prog w) A (.call (.ref C) ⟨vs,kw⟩) R s:=by
 obtain⟨hh,g,d,t,os⟩:=s
 exact PySem.W.make_core (PySem.W.makes_of X hm) (PySem.W.looks_findIn X hi) (fun self=>PySem.W.bind_fn X self hf) (.inl rfl) h
end
noncomputable def aJ (f:Str) (v:V):List (Str×V)->List (Str×V)
 | []=>[(f,v)]
 | (g,x):: r=>if g=f then(g,v):: r else(g,x):: aJ f v r
theorem aC (f g:Str) (v:V):∀fs:List (Str×V),(aJ f v fs).lookup g=if g=f then some v else fs.lookup g
 | []=>by
  show List.lookup g [(f,v)]=_
  by_cases h:g=f
  ·have hb:(g == f)=true:=beq_iff_eq.mpr h
   simp only [List.lookup,hb,if_pos h]
  ·have hb:(g == f)=false:=beq_eq_false_iff_ne.mpr h
   simp only [List.lookup,hb,if_neg h]
 | (k,x):: r=>by
  have ih:=aC f g v r
  rw [show aJ f v ((k,x):: r)=(if k=f then(k,v):: r else(k,x):: aJ f v r) from rfl]
  by_cases hk:k=f
  ·rw [if_pos hk]
   by_cases h:g=k
   ·have hb:(g == k)=true:=beq_iff_eq.mpr h
    simp only [List.lookup,hb,if_pos (h.trans hk)]
   ·have hb:(g == k)=false:=beq_eq_false_iff_ne.mpr h
    simp only [List.lookup,hb,if_neg (fun e:g=f=>h (e.trans hk.symm))]
  ·rw [if_neg hk]
   by_cases h:g=k
   ·have hb:(g == k)=true:=beq_iff_eq.mpr h
    simp only [List.lookup,hb,if_neg (fun e:g=f=>hk (h.symm.trans e))]
   ·have hb:(g == k)=false:=beq_eq_false_iff_ne.mpr h
    simp only [List.lookup,hb]
    exact ih
theorem Af (f:Str) (v:V):∀fs:List (Str×V),f∈(aJ f v fs).map (·.1)/\∀g,g∈fs.map (·.1)->g∈(aJ f v fs).map (·.1)
 | []=>⟨by simp [aJ],fun g h=>by simp at h⟩
 | (k,x):: r=>by
  obtain⟨i1,i2⟩:=Af f v r
  rw [show aJ f v ((k,x):: r)=(if k=f then(k,v):: r else(k,x):: aJ f v r) from rfl]
  by_cases hk:k=f
  ·rw [if_pos hk]
   subst hk
   exact⟨by simp,fun g h=>by simpa using h⟩
  ·rw [if_neg hk]
   refine⟨?_,fun g h=>?_⟩
   ·rw [List.map_cons]
    exact List.mem_cons_of_mem _ i1
   ·rw [List.map_cons] at h ⊢
    rcases List.mem_cons.mp h with e | e
    ·exact List.mem_cons.mpr (.inl e)
    ·exact List.mem_cons_of_mem _ (i2 g e)
theorem ut (f:Str) (v:V):∀fs:List (Str×V),(aJ f v fs).length<=fs.length+1
 | []=>by simp [aJ]
 | (k,x):: r=>by
  have ih:=ut f v r
  rw [show aJ f v ((k,x):: r)=(if k=f then(k,v):: r else(k,x):: aJ f v r) from rfl]
  by_cases hk:k=f
  ·rw [if_pos hk,List.length_cons,List.length_cons];omega
  ·rw [if_neg hk,List.length_cons,List.length_cons];omega
theorem ud.some_of {v:V} {o:Option Value} (r:ud (some v) o):∃u,o=some u/\RelV v u:=by
 cases o with
 | none=>exact(show False from r).elim
 | some u=>exact⟨u,rfl,r⟩
theorem ud.none_of {o:Option Value} (r:ud none o):o=none:=by
 cases o with
 | none=>rfl
 | some u=>exact(show False from r).elim
theorem Qp {v:V} {u:Value} (r:RelV v u):PySem.W.handedIn u=true:=by
 cases v with
 | non=>cases (show u=Value.none from r);rfl
 | bl b=>cases (show u=Value.bool b from r);rfl
 | int i=>obtain⟨t,e⟩:=(show ∃t,u=Value.int i t from r);cases e;rfl
 | str x=>obtain⟨t,e⟩:=(show ∃t,u=Value.str x t from r);cases e;rfl
 | byt b=>obtain⟨t,e⟩:=(show ∃t,u=Value.bytes b t from r);cases e;rfl
 | flt b=>obtain⟨t,e⟩:=(show ∃t,u=Value.float b t from r);cases e;rfl
 | ref a=>cases (show u=Value.ref a from r);rfl
 | ty n=>cases (show u=Value.type n from r);rfl
section
variable {P:Program} {w:World} {H H':Hp} {h h':Heap} {a C dx:Addr} {fs fs':List (Str×V)}
theorem J1 (hok:wC P w H h) (e:H a=some (.ins C dx fs)):∃mA,Mv h a dx C mA/\(∀f,ud (fs.lookup f) (mA f))/\PySem.Within mA (fs.map (·.1))/\fs.length<=1000/\H dx=some (.own a):=by
 obtain⟨d,z,ne,ob,mA,n,r,q⟩:=(show fJ P w H h a (.ins C dx fs) from hok a _ e)
 exact⟨mA,⟨ob,n,ne⟩,r,q,z,d⟩
end
structure QB (K:PySem.W.Frag) (C:Addr):Prop where
 pg:PySem.W.plainGet K C Str.empty=true
 hd:PySem.W.hasDictIn K C=true
 po:PySem.W.plainOver K C=true
 sa:PySem.W.findIn K (.ref C) "__setattr__" =some (some (.builtin "object.__setattr__"))
theorem QB.get {K:PySem.W.Frag} {C:Addr} (c:QB K C) (f:Str):PySem.W.plainGet K C f=true:=c.pg
noncomputable def oU (K:PySem.W.Frag) (C:Addr) (f:Str):Prop:=PySem.W.findIn K (.ref C) f=some none
theorem oU.taker {K:PySem.W.Frag} {C:Addr} {f:Str} (n:oU K C f):PySem.W.takerIn K C f=some none:=by
 unfold PySem.W.takerIn
 rw [show PySem.W.findIn K (.ref C) f=some none from n]
 rfl
structure Meth (K:PySem.W.Frag) (C:Addr) (m:Str) (f:Addr):Prop where
 at_:PySem.W.findIn K (.ref C) m=some (some (.ref f))
 fn:PySem.W.isFn K (.ref f)=true
 kp:PySem.W.keepIn K (.ref f)=true
section
variable {X:Cx} {pins:List (Addr×Obj)} {σ:St} {H:Hp} {s:Shared} {a C dx:Addr} {fs:List (Str×V)} {f:Str} {v:V} {A:Around} {E:Value->Shared->Prop}
theorem Eb {b:Bool} {Q:Value->Shared->Prop} (I:Inv X pins σ H s) (e:H a=some (.ins C dx fs)) (c:QB X.K C) (n:oU X.K C f) (l:fs.lookup f=some v)
  (h:∀u s',Inv X pins σ H s'->RelV v u->Q u s'):wpAny (model X.prog X.w) A (getAttr (.ref a) f b) Q E s:=by
 obtain⟨mA,O,r,_,_,_⟩:=J1 I.hok e
 obtain⟨u,hu,ru⟩:=ud.some_of (v:=v) (o:=mA f) (by rw [<-l];exact r f)
 exact Va I.kIn O (c.get f) c.hd n hu (Qp ru) (h u _ (I.tok _) ru)
theorem tD {m:Str} {g:Addr} {pl:Sem Bool} {Q:Value×List Value->Shared->Prop} (I:Inv X pins σ H s) (e:H a=some (.ins C dx fs)) (c:QB X.K C) (k:Meth X.K C m g) (l:fs.lookup m=none)
  (h:Q (.ref g,[.ref a]) s):wpAny (model X.prog X.w) A (getMethod (.ref a) m pl) Q E s:=by
 obtain⟨mA,O,r,_,_,_⟩:=J1 I.hok e
 have hn:mA m=none:=ud.none_of (by rw [<-l];exact r m)
 exact Ul I.kIn O (c.get m) k.at_ k.fn hn h
theorem Es {y:V} {u:Value} {Q:Unit->Shared->Prop} (I:Inv X pins σ H s) (e:H a=some (.ins C dx fs)) (c:QB X.K C) (n:oU X.K C f) (hl:fs.length <1000) (ry:RelV y u)
  (h:∀s',Inv X pins σ (upd H a (.ins C dx (aJ f y fs))) s'->Q () s'):wpAny (model X.prog X.w) A (setAttr (.ref a) f u) Q E s:=by
 obtain⟨mA,O,r,wi,_,ho⟩:=J1 I.hok e
 have hz:(fs.map (·.1)).length<=sizeLine:=by rw [List.length_map,sizeLine_eq];omega
 refine Vi I.kIn O c.sa c.po n.taker c.hd wi hz fun h' O' sb=>h _ ?_
 have hd:∃o,h'.get? dx=some o:=let ⟨o,_,_,e',_⟩:=O'.ns;⟨o,e'⟩
 refine I.write (x:=a) (e:=dx) (by rw [e];exact True.intro) (.inr ho) (fun b q hb z=>(sb.2 b hb).trans z) hd ?_
 refine⟨by rw [aM O.ne];exact ho,?_,O.ne,O'.obj,_,O'.ns,fun g=>?_,fun g hg=>?_⟩
 ·have:=ut f y fs;omega
 ·show ud ((aJ f y fs).lookup g) (if g=f then some u else mA g)
  rw [aC]
  by_cases q:g=f
  ·rw [if_pos q,if_pos q];exact ry
  ·rw [if_neg q,if_neg q];exact r g
 ·by_cases q:g=f
  ·rw [q];exact(Af f y fs).1
  ·refine(Af f y fs).2 g (wi g fun z=>hg ?_)
   show(if g=f then some u else mA g)=none
   rw [if_neg q];exact z
theorem Inv.made (I:Inv X pins σ H s):Inv X pins σ (upd (upd H s.heap.objs.size (.own (s.heap.objs.size+1))) (s.heap.objs.size+1) (.ins C s.heap.objs.size []))
  { s with heap:=(s.heap.push PySem.W.emptyDict).push (PySem.W.instObj C s.heap.objs.size) }:=by
 have e1:(s.heap.push PySem.W.emptyDict).get? s.heap.objs.size=some PySem.W.emptyDict:=Heap.get?_push_size s.heap rfl
 have e2:((s.heap.push PySem.W.emptyDict).push (PySem.W.instObj C s.heap.objs.size)).get? (s.heap.objs.size+1)=some (PySem.W.instObj C s.heap.objs.size):=by
  have:=Heap.get?_push_size (s.heap.push PySem.W.emptyDict) (o:=PySem.W.instObj C s.heap.objs.size) rfl
  rwa [Heap.size_push] at this
 have e3:(s.heap.push PySem.W.emptyDict).Ns s.heap.objs.size (fun _=>none):=⟨PySem.W.emptyDict,#[],_,e1,rfl,(fun e he=>absurd he (by simp)),fun _=>rfl⟩
 have I1:=I.laid (a:=s.heap.objs.size) (o:=.own (s.heap.objs.size+1)) (h':=s.heap.push PySem.W.emptyDict) (t':=s.toks) (fun b u q=>Heap.get?_push_of_some _ q) (Nat.le_refl _) ⟨_,e1⟩
 refine I1.laid (a:=s.heap.objs.size+1) (o:=.ins C s.heap.objs.size []) (t':=s.toks) (fun b u q=>Heap.get?_push_of_some _ q) (Nat.le_of_eq (Heap.size_push _ _)) ?_
 have ne:s.heap.objs.size≠s.heap.objs.size+1:=Nat.ne_of_lt (Nat.lt_succ_self _)
 refine⟨by rw [aM ne,az],Nat.zero_le _,ne,e2,fun _=>none,(Heap.Ns1.of_empty e3).at fun o q=>Heap.get?_push_of_some _ q,fun _=>True.intro,fun y hy=>absurd rfl hy⟩
theorem UV {prog:Program} {w:World} {env:Env} {e:Expr} {f:Str} {pos:Pos} {s:Shared} {Q:Value->Shared->Prop} (hb:attributeBase e f env (eval e env)=eval e env)
  (h:wpAny (model prog w) A (eval e env) (fun o s₁=>wpAny (model prog w) A (getAttr o f true) Q E s₁) E s):wpAny (model prog w) A (eval (.Attribute e f pos) env) Q E s:=
 Attribute_any_ h (by rw [arm_eval_Attribute,hb])
end
inductive Xb (K:PySem.W.Frag) (f:Str) (Q:VK) (x:V) (H1:Hp):Prop where
 | mk:∀a C dx fs v,x=.ref a->H1 a=some (.ins C dx fs)->QB K C->oU K C f->fs.lookup f=some v->Q v H1->Xb K f Q x H1
noncomputable def ZF (K:PySem.W.Frag) (ta:TE) (f:Str):TE:=fun σ H Q=>ta σ H fun x H1=>Xb K f Q x H1
inductive Wy (K:PySem.W.Frag) (f:Str) (D:Ends) (σ:St) (y:V) (x:V) (H2:Hp):Prop where
 | mk:∀a C dx fs,x=.ref a->H2 a=some (.ins C dx fs)->QB K C->oU K C f->fs.length <1000->D.nx σ (upd H2 a (.ins C dx (aJ f y fs)))->Wy K f D σ y x H2
noncomputable def aag (K:PySem.W.Frag) (ta tv:TE) (f:Str):TS:=fun D σ H=>tv σ H fun y H1=>ta σ H1 fun x H2=>Wy K f D σ y x H2
noncomputable def Zr (X:Cx) (op:Operator) (rd:V->V->Hp->VK->Prop):Prop:=
 ∀(pins:List (Addr×Obj)) (s:Shared) (σ:St) (H:Hp) (x y:V) (u v:Value) (Q:VK),Inv X pins σ H s->RelV x u->RelV y v->rd x y H Q->wpAny (model X.prog X.w) X.A (inplaceOp op u v) (EP X pins σ Q) X.xe s
inductive Kl (K:PySem.W.Frag) (tv:TE) (rd:V->V->Hp->VK->Prop) (f:Str) (D:Ends) (σ:St) (x:V) (H1:Hp):Prop where
 | mk:∀a C dx fs v,x=.ref a->H1 a=some (.ins C dx fs)->QB K C->oU K C f->fs.lookup f=some v->(tv σ H1 fun y H2=>rd v y H2 fun z H3=>∃dx' fs',H3 a=some (.ins C dx' fs')/\fs'.length <1000/\D.nx σ (upd H3 a (.ins C dx' (aJ f z fs'))))->Kl K tv rd f D σ x H1
noncomputable def Vf (K:PySem.W.Frag) (ta tv:TE) (rd:V->V->Hp->VK->Prop) (f:Str):TS:=fun D σ H=>ta σ H fun x H1=>Kl K tv rd f D σ x H1
section
variable {X:Cx} {o e value:Expr} {f:Str} {pos pos' tpos:Pos} {ta tv:TE}
theorem aY (he:PE X e ta) (hb:attributeBase e f X.env (eval e X.env)=eval e X.env):PE X (.Attribute e f pos) (ZF X.K ta f):=by
 intro pins s σ H Q I h
 refine UV hb (dO (he pins s σ H _ I h) fun u s1 hpt=>?_)
 obtain⟨x,H1,I1,rx,a,C,dx,fs,v,ex,ea,c,n,l,q⟩:=hpt
 subst ex
 obtain rfl:u=Value.ref a:=rx
 exact Eb I1 ea c n l fun u' s2 I2 ru=>⟨v,H1,I2,ru,q⟩
theorem iy (ha:PE X o ta) (hv:PE X value tv) (hs:swapsWith value (some (.Attribute o f pos')) pos.line X.env=pure false):PS X (.Assign [.Attribute o f pos'] value pos) (aag X.K ta tv f):=by
 intro pins s σ H D I h
 refine plainObj_wpAny_Assign_Attribute (dO (hv pins s σ H _ I h) fun u s1 ⟨y,H1,I1,ry,q⟩=>dO (ha pins s1 σ H1 _ I1 q) fun ov s2 hpt=>?_) hs
 obtain⟨x,H2,I2,rx,a,C,dx,fs,ex,ea,c,n,l,q2⟩:=hpt
 subst ex
 obtain rfl:ov=Value.ref a:=rx
 exact Es I2 ea c n l ry fun s3 I3=>⟨σ,_,I3,q2⟩
theorem QG {op:Operator} {rd:V->V->Hp->VK->Prop} (ha:PE X o ta) (hv:PE X value tv) (hop:Zr X op rd):PS X (.AugAssign (.Attribute o f tpos) op value pos) (Vf X.K ta tv rd f):=by
 intro pins s σ H D I h
 refine wpAny_AugAssign_AttributeAny (dO (ha pins s σ H _ I h) fun ov s1 hpt=>?_)
 obtain⟨x,H1,I1,rx,a,C,dx,fs,v,ex,ea,c,n,l,q⟩:=hpt
 subst ex
 obtain rfl:ov=Value.ref a:=rx
 refine Eb I1 ea c n l fun u s2 I2 ru=>dO (hv pins s2 σ H1 _ I2 q) fun w3 s3 ⟨y,H2,I3,ry,q3⟩=>dO (hop pins s3 σ H2 v y u w3 _ I3 ru ry q3) fun w4 s4 hpt=>?_
 obtain⟨z,H3,I4,rz,dx',fs',ea',l',q4⟩:=hpt
 exact Es I4 ea' c n l' rz fun s5 I5=>⟨σ,_,I5,q4⟩
end
section
variable {X:Cx} {pins:List (Addr×Obj)} {σ:St} {H:Hp} {s:Shared} {A:Around} {E:Value->Shared->Prop} {Q:Value->Shared->Prop} {c:Value} {b:Bool}
end
structure ji (k:Nat) (A:Around):Prop where
 hd:A.handled=none
 dp:A.depth+3 * k+5 <recursionLimit
 un:A.units+16 * k+200 <cLine
theorem ji.mono {j k:Nat} {A:Around} (r:ji k A) (h:j<=k):ji j A:=⟨r.hd,by have:=r.dp;omega,by have:=r.un;omega⟩
theorem ji.deeper {k:Nat} {A:Around} (r:ji (k+1) A) (env:Env):ji k (A.deeper env):=
 ⟨r.hd,by have:=r.dp;show A.depth+1+3 * k+5 <_;omega,by have:=r.un;show A.units+3+16 * k+200 <_;omega⟩
theorem Nv {A:Around} {C:Addr} {us:List Value} {kw:List (Str×Value)}:(A.under (.builtin "type.__call__" ⟨.ref C:: us,kw⟩)).depth=A.depth+1:=by
 first | rfl | simp [Around.under,Code.weight,Code.isCreation,Code.isGuard,Code.isCaller,Code.frames,Code.isFrame,guardIds]
theorem N6 {A:Around} {C:Addr} {us:List Value} {kw:List (Str×Value)}:(A.under (.builtin "type.__call__" ⟨.ref C:: us,kw⟩)).units=A.units+1:=by
 first | rfl | simp [Around.under,Code.cUnits,Code.frames,Code.isFrame]
theorem ji.make {k:Nat} {A:Around} (r:ji (k+1) A) (C:Addr) (us:List Value) (kw:List (Str×Value)):ji k (A.under (.builtin "type.__call__" ⟨.ref C:: us,kw⟩)):=
 ⟨r.hd,by have:=r.dp;rw [Nv];omega,by have:=r.un;rw [N6];omega⟩
theorem ji.depth {k:Nat} {A:Around} (r:ji k A):A.depth <recursionLimit:=by have:=r.dp;omega
theorem ji.units {k:Nat} {A:Around} (r:ji k A):A.units+64 <cLine:=by have:=r.un;omega
noncomputable def Q6:TA:=fun _ H Q=>Q [] H
noncomputable def YH (ta:TE) (tr:TA):TA:=fun σ H Q=>ta σ H fun x H1=>tr σ H1 fun xs H2=>Q (x:: xs) H2
section
variable {X:Cx} {e:Expr} {es:List Expr} {te:TE} {t:TA} {pos:Pos}
theorem ak:PA X [] Q6:=fun _ _ _ _ H Q I h=>Calls.spliced_nil ⟨[],H,I,.nil,h⟩
theorem aa (ha:PE X e te) (hr:PA X es t) (hs:starEach (e:: es) X.env=(false,eval e X.env):: starEach es X.env:=by rfl):PA X (e:: es) (YH te t):=by
 intro pos pins s σ H Q I h
 rw [hs]
 show wpAny _ _ (spliced ((false,eval e X.env):: backTo pos (starEach es X.env))) _ _ s
 refine Calls.spliced_cons (dO (ha pins s σ H _ I h) fun u s1 hpt=>?_)
 obtain⟨x,H1,I1,r1,q1⟩:=hpt
 exact dO (hr pos pins s1 σ H1 _ I1 q1) fun us s2 ⟨xs,H2,I2,r2,q2⟩=>⟨x:: xs,H2,I2,.cons r1 r2,q2⟩
noncomputable def Z8 (t:TA):TE:=fun σ H Q=>t σ H fun xs H1=>xs.length<=sizeLine/\∀p,H1 p=none->Q (.ref p) (upd H1 p (.tup xs))
noncomputable def aaB (t:TA):TE:=fun σ H Q=>t σ H fun xs H1=>xs.length<=sizeLine/\∀p,H1 p=none->Q (.ref p) (upd H1 p (.lst xs))
theorem cM {x1} (h:PA X es t):PE X (.Tuple es x1 pos) (Z8 t):=by
 intro pins s σ H Q I hq
 refine wpAny_Tuple_spliced (dO (h pos pins s σ H _ I hq) fun us s1 ⟨xs,H1,I1,r,z,q⟩=>⟨by rw [<-r.length];exact z,?_⟩)
 have hf:H1 s1.heap.objs.size=none:=I1.hok.fresh (Nat.le_refl _)
 refine⟨.ref s1.heap.objs.size,upd H1 s1.heap.objs.size (.tup xs),I1.laid (t':=s1.toks) (fun b u e=>Heap.get?_push_of_some _ e) (Nat.le_refl _) ?_,rfl,q _ hf⟩
 exact⟨z,us,r,⟨_,Heap.get?_push_size _ rfl,rfl,_,rfl⟩⟩
theorem bB (h:PA X es t):PE X (.List es pos) (aaB t):=by
 intro pins s σ H Q I hq
 refine wpAny_List_spliced (dO (h pos pins s σ H _ I hq) fun us s1 ⟨xs,H1,I1,r,z,q⟩=>⟨by rw [<-r.length];exact z,?_⟩)
 have hf:H1 s1.heap.objs.size=none:=I1.hok.fresh (Nat.le_refl _)
 refine⟨.ref s1.heap.objs.size,upd H1 s1.heap.objs.size (.lst xs),I1.laid (t':=s1.toks) (fun b u e=>Heap.get?_push_of_some _ e) (Nat.le_refl _) ?_,rfl,q _ hf⟩
 exact⟨z,us,0,r,Heap.get?_push_size _ rfl⟩
end
noncomputable abbrev Sp:=List V->Hp->VK->XK->Prop
noncomputable abbrev Hy:=List Env->Hp->Shared->XK->Value->Shared->Prop
structure MT (P:Program) (w:World) (K:PySem.W.Frag) (mg:Str->Option Value) (base:Heap) (A:Around) (outer:List Env) (s:Shared) (H:Hp):Prop where
 frames:A.frames=some outer
 mod:Mod K mg base
 bs:∀b o,base.get? b=some o->s.heap.get? b=some o/\H b=none
 bsz:base.objs.size<=s.heap.objs.size
 funs:s.heap.FunFrames base outer
 frf:∀b∈frs outer,H b=none
 hok:wC P w H s.heap
 bare:AllBare s.gens
noncomputable def CE (outer:List Env) (P:Program) (w:World) (H:Hp) (s:Shared) (Q:VK) (u:Value) (s':Shared):Prop:=
 ∃v H',s'.os=s.os/\AllBare s'.gens/\Un (frs outer) [] H H' s.heap s'.heap/\wC P w H' s'.heap/\RelV v u/\Q v H'
noncomputable def CR (CX:Hy) (outer:List Env) (P:Program) (w:World) (H:Hp) (s:Shared) (Q:VK) (E:XK) (r:Result) (s':Shared):Prop:=
 match r with
 | .ok (.ret u)=>CE outer P w H s Q u s'
 | .ok _=>False
 | .error e=>CX outer H s E e s'
structure iK (P:Program) (w:World) (K:PySem.W.Frag) (mg:Str->Option Value) (base:Heap) (CX:Hy) (k:Nat) (f:Addr) (fd:FuncData) (ps:List Str) (sp:Sp):Prop where
 len:∀vs H Q E,sp vs H Q E->vs.length=ps.length
 run:∀(A:Around) (outer:List Env) (s:Shared) (H:Hp) (args:Args) (us:List Value) (vs:List V) (Q:VK) (E:XK),ji k A->MT P w K mg base A outer s H->BindsTo s fd args (ps.zip us)->Vals vs us->sp vs H Q E->
  codeAny (model P w) A (.call (.ref f) args) (CR CX outer P w H s Q E) s
theorem iK.mono {P:Program} {w:World} {K:PySem.W.Frag} {mg:Str->Option Value} {base:Heap} {CX:Hy} {j k:Nat} {f:Addr} {fd:FuncData} {ps:List Str} {sp:Sp} (F:iK P w K mg base CX j f fd ps sp) (h:j<=k):
  iK P w K mg base CX k f fd ps sp:=⟨F.len,fun A outer s H args us vs Q E hr=>F.run A outer s H args us vs Q E (hr.mono h)⟩
theorem iK.imp {P:Program} {w:World} {K:PySem.W.Frag} {mg:Str->Option Value} {base:Heap} {CX:Hy} {k:Nat} {f:Addr} {fd:FuncData} {ps:List Str} {sp sp':Sp} (F:iK P w K mg base CX k f fd ps sp)
  (h:∀vs H Q E,sp' vs H Q E->sp vs H Q E):iK P w K mg base CX k f fd ps sp':=
 ⟨fun vs H Q E q=>F.len vs H Q E (h _ _ _ _ q),fun A outer s H args us vs Q E hr he hb hv hs=>F.run A outer s H args us vs Q E hr he hb hv (h _ _ _ _ hs)⟩
theorem MT.make {P:Program} {w:World} {K:PySem.W.Frag} {mg:Str->Option Value} {base:Heap} {A:Around} {outer:List Env} {s:Shared} {H:Hp} (e:MT P w K mg base A outer s H) (C:Addr) (us:List Value) (kw:List (Str×Value)):
  MT P w K mg base (A.under (.builtin "type.__call__" ⟨.ref C:: us,kw⟩)) outer s H:=⟨by first | exact e.frames | (simpa [Around.under,Code.envs,Code.isFrame,pushEnvs] using e.frames),e.mod,e.bs,e.bsz,e.funs,e.frf,e.hok,e.bare⟩
section
variable {X:Cx} {pins:List (Addr×Obj)} {σ:St} {H:Hp} {s s':Shared}
theorem Inv.env0 (I:Inv X pins σ H s):MT X.prog X.w X.K X.mg X.base X.A X.stack s H:=
 ⟨I.ok.frames,I.ok.mod,I.bs,Nat.le_trans I.ok.bsz I.sz,I.stack,I.stkFree,I.hok,I.bare⟩
theorem Inv.after {Q:VK} {u:Value} (I:Inv X pins σ H s) (h:CE X.stack X.prog X.w H s Q u s'):EP X pins σ Q u s':=by
 obtain⟨v,H',os,bare,un,hok,r,q⟩:=h
 obtain⟨hh,g,d,t,os'⟩:=s'
 obtain rfl:os'=s.os:=os
 exact⟨v,H',I.call (h':=hh) (g':=g) (d':=d) (t':=t) (ch:=[]) un hok bare (fun b z=>absurd z (by simp)),r,q⟩
end
noncomputable def Wv (sp:Sp) (dvs:List V) (E:XK) (t:TA):TE:=fun σ H Q=>t σ H fun vs H1=>sp (vs ++ dvs) H1 Q E
inductive Uj (C:Addr) (m:Str) (sp:Sp) (dvs:List V) (E:XK) (t:TA) (σ:St) (Q:VK) (x:V) (H1:Hp):Prop where
 | mk:∀a dx fs,x=.ref a->H1 a=some (.ins C dx fs)->fs.lookup m=none->(t σ H1 fun vs H2=>sp (x:: (vs ++ dvs)) H2 Q E)->Uj C m sp dvs E t σ Q x H1
noncomputable def Oo (C:Addr) (m:Str) (sp:Sp) (dvs:List V) (E:XK) (ta:TE) (t:TA):TE:=fun σ H Q=>ta σ H fun x H1=>Uj C m sp dvs E t σ Q x H1
noncomputable def YQ (C:Addr) (sp:Sp) (dvs:List V) (E:XK) (t:TA):TE:=fun σ H Q=>t σ H fun vs H1=>∀x dx,H1 x=none->H1 dx=none->dx≠x->
 sp (.ref x:: (vs ++ dvs)) (upd (upd H1 dx (.own x)) x (.ins C dx [])) (fun v H2=>v=.non/\Q (.ref x) H2) E
noncomputable def Binds (K:PySem.W.Frag) (fd:FuncData) (ps:List Str) (ds:List Value):Prop:=
 ∀(s:Shared) (us:List Value),K.In s.heap->(us ++ ds).length=ps.length->BindsTo s fd ⟨us,[]⟩ (ps.zip (us ++ ds))
theorem Binds.all {K:PySem.W.Frag} {fd:FuncData} {ps:List Str} (h:∀us:List Value,us.length=ps.length->bindArgs fd ⟨us,[]⟩=pure (ps.zip us)):Binds K fd ps []:=fun s us _ hl=>by
 rw [List.append_nil] at hl ⊢
 exact .of_eq (h us hl)
noncomputable def qU (CX:Hy) (X:Cx) (E:XK):Prop:=∀(pins:List (Addr×Obj)) (σ:St) (H:Hp) (s:Shared) (e:Value) (s':Shared),Inv X pins σ H s->CX X.stack H s E e s'->X.xe e s'
section
variable {X:Cx} {CX:Hy} {k:Nat} {f C:Addr} {fd:FuncData} {ps:List Str} {sp:Sp} {dvs:List V} {ds:List Value} {E:XK} {x m:Str} {p pos apos:Pos} {e o:Expr} {es:List Expr} {ta:TE} {t:TA}
theorem Ey {pins:List (Addr×Obj)} {σ:St} {H:Hp} {s:Shared} {Q:VK} {us:List Value} {vs:List V} (F:iK X.prog X.w X.K X.mg X.base CX k f fd ps sp) (hr:ji k X.A) (hb:Binds X.K fd ps ds) (hd:Vals dvs ds) (hx:qU CX X E)
  (I:Inv X pins σ H s) (r:Vals vs us) (h:sp (vs ++ dvs) H Q E):wpAny (model X.prog X.w) X.A (call (.ref f) us) (EP X pins σ Q) X.xe s:=by
 have r2:Vals (vs ++ dvs) (us ++ ds):=r.append hd
 have hl:(us ++ ds).length=ps.length:=by rw [<-r2.length];exact F.len _ _ _ _ h
 refine wpAny_call (codeAny_mono (F.run X.A X.stack s H ⟨us,[]⟩ (us ++ ds) (vs ++ dvs) Q E hr I.env0 (hb s us I.kIn hl) r2 h) fun r s' hq=>?_)
 cases r with
 | error e=>exact hx pins σ H s e s' I hq
 | ok fl=>
  cases fl with
  | ret u=>exact I.after hq
  | next=>exact False.elim hq
  | brk=>exact False.elim hq
  | cont=>exact False.elim hq
theorem Vv (F:iK X.prog X.w X.K X.mg X.base CX k f fd ps sp) (hr:ji k X.A) (hg:Gl X x) (hm:X.mg x=some (.ref f)) (hk:PySem.W.keepIn X.K (.ref f)=true) (hb:Binds X.K fd ps ds) (hd:Vals dvs ds) (hx:qU CX X E)
  (ha:PA X (e:: es) t) (hdb:(x == ("__debug__" :Str))=false:=by decide) (he:starEach (e:: es) X.env=(false,eval e X.env):: starEach es X.env:=by rfl) (hpl:(backTo pos (starEach es X.env)).any (·.1)=false:=by rfl):
  PE X (.Call (.Name x p) (e:: es) [] pos) (Wv sp dvs E t):=by
 intro pins s σ H Q I h
 refine wpAny_Call_Name_kw (Ir I hg hm ?_ hdb)
 refine PySem.W.callWith_K (h₀:=X.base) I.ok.mod.kin hk (dO (ha pos pins s σ H _ I h) fun us s1 ⟨vs,H1,I1,r,q⟩=>⟨I1.kIn,?_⟩) he hpl
 exact Ey F hr hb hd hx I1 r q
theorem PQ {pl:Sem Bool} (he:PE X o ta) (c:QB X.K C) (hm:Meth X.K C m f) (F:iK X.prog X.w X.K X.mg X.base CX k f fd ps sp) (hr:ji k X.A) (hb:Binds X.K fd ps ds) (hd:Vals dvs ds) (hx:qU CX X E) (ha:PA X (e:: es) t)
  (hst:starEach (e:: es) X.env=(false,eval e X.env):: starEach es X.env:=by rfl) (hpl:(backTo pos (starEach es X.env)).any (·.1)=false:=by rfl)
  (ht:eval (.Call (.Attribute o m apos) (e:: es) [] pos) X.env=(do
   let ov <-eval o X.env
   standAt apos.atName
   let (f,first) <-holding [ov] (getMethod ov m pl)
   callWith pos f first (backTo pos (starEach (e:: es) X.env)) (backToKw pos (keywordEach [] X.env))):=by rfl):
  PE X (.Call (.Attribute o m apos) (e:: es) [] pos) (Oo C m sp dvs E ta t):=by
 intro pins s σ H Q I h
 refine PySem.W.methodCall_KW (pl:=pl) (dO (he pins s σ H _ I h) fun u s1 hpt=>?_) ht
 obtain⟨x,H1,I1,rx,a,dx,fs,ex,ea,l,q⟩:=hpt
 subst ex
 obtain rfl:u=Value.ref a:=rx
 refine tD I1 ea c hm l ?_
 refine PySem.W.callWith_K (first:=[.ref a]) (h₀:=X.base) I.ok.mod.kin hm.kp (dO (ha pos pins s1 σ H1 _ I1 q) fun us s2 ⟨vs,H2,I2,r,q2⟩=>⟨I2.kIn,?_⟩) hst hpl
 exact Ey (us:=.ref a:: us) (vs:=.ref a:: vs) F hr hb hd hx I2 (.cons rfl r) q2
theorem Ls {pl:Sem Bool} (he:PE X o ta) (c:QB X.K C) (hm:Meth X.K C m f) (F:iK X.prog X.w X.K X.mg X.base CX k f fd ps sp) (hr:ji k X.A) (hb:Binds X.K fd ps ds) (hd:Vals dvs ds) (hx:qU CX X E)
  (ht:eval (.Call (.Attribute o m apos) [] [] pos) X.env=(do
   let ov <-eval o X.env
   standAt apos.atName
   let (f,first) <-holding [ov] (getMethod ov m pl)
   callWith pos f first (backTo pos (starEach [] X.env)) (backToKw pos (keywordEach [] X.env))):=by rfl):
  PE X (.Call (.Attribute o m apos) [] [] pos) (Oo C m sp dvs E ta Q6):=by
 intro pins s σ H Q I h
 refine PySem.W.methodCall_KW (pl:=pl) (dO (he pins s σ H _ I h) fun u s1 hpt=>?_) ht
 obtain⟨x,H1,I1,rx,a,dx,fs,ex,ea,l,q⟩:=hpt
 subst ex
 obtain rfl:u=Value.ref a:=rx
 refine tD I1 ea c hm l ?_
 exact PySem.W.callWith_K0 (first:=[.ref a]) I1.kIn hm.kp (Ey (us:=[.ref a]) (vs:=[.ref a]) F hr hb hd hx I1 (.cons rfl .nil) q)
structure Mk (K:PySem.W.Frag) (C f:Addr):Prop where
 makes:PySem.W.makesIn K C=true
 init:PySem.W.findIn K (.ref C) "__init__" =some (some (.ref f))
 fn:PySem.W.isFn K (.ref f)=true
 kp:PySem.W.keepIn K (.ref C)=true
theorem R4 {pins:List (Addr×Obj)} {σ:St} {H:Hp} {s:Shared} {Q:VK} {us:List Value} {vs:List V} (M:Mk X.K C f) (F:iK X.prog X.w X.K X.mg X.base CX k f fd ps sp) (hr:ji (k+1) X.A) (hb:Binds X.K fd ps ds) (hd:Vals dvs ds)
  (hx:qU CX X E) (I:Inv X pins σ H s) (r:Vals vs us)
  (h:∀x dx,H x=none->H dx=none->dx≠x->sp (.ref x:: (vs ++ dvs)) (upd (upd H dx (.own x)) x (.ins C dx [])) (fun v H2=>v=.non/\Q (.ref x) H2) E):
  wpAny (model X.prog X.w) X.A (call (.ref C) us) (EP X pins σ Q) X.xe s:=by
 have hq:=h (s.heap.objs.size+1) s.heap.objs.size (I.hok.fresh (Nat.le_succ _)) (I.hok.fresh (Nat.le_refl _)) (Nat.ne_of_lt (Nat.lt_succ_self _))
 have I2:=Inv.made (C:=C) I
 have r2:Vals (V.ref (s.heap.objs.size+1):: (vs ++ dvs)) (Value.ref (s.heap.objs.size+1):: (us ++ ds)):=.cons rfl (r.append hd)
 have hl:(Value.ref (s.heap.objs.size+1):: us ++ ds).length=ps.length:=by
  have e:=r2.length
  rw [F.len _ _ _ _ hq] at e
  exact e.symm
 refine wpAny_call (RN (f:=f) I.kIn M.makes M.init (beq_iff_eq.mp M.fn) (codeAny_mono (F.run _ X.stack _ _ ⟨Value.ref (s.heap.objs.size+1):: us,[]⟩ (Value.ref (s.heap.objs.size+1):: (us ++ ds)) _ _ E (hr.make C us [])
  (I2.env0.make C us []) (hb _ (Value.ref (s.heap.objs.size+1):: us) I2.kIn hl) r2 hq) fun r s' hq'=>?_))
 cases r with
 | error e=>exact hx pins σ _ _ e s' I2 hq'
 | ok fl=>
  cases fl with
  | ret u=>
   obtain⟨v,H',I3,rv,ev,q3⟩:=I2.after hq'
   subst ev
   exact⟨rv,⟨V.ref (s.heap.objs.size+1),H',I3,rfl,q3⟩⟩
  | next=>exact False.elim hq'
  | brk=>exact False.elim hq'
  | cont=>exact False.elim hq'
theorem iB (M:Mk X.K C f) (F:iK X.prog X.w X.K X.mg X.base CX k f fd ps sp) (hr:ji (k+1) X.A) (hg:Gl X x) (hm:X.mg x=some (.ref C)) (hb:Binds X.K fd ps ds) (hd:Vals dvs ds) (hx:qU CX X E)
  (ha:PA X (e:: es) t) (hdb:(x == ("__debug__" :Str))=false:=by decide) (he:starEach (e:: es) X.env=(false,eval e X.env):: starEach es X.env:=by rfl) (hpl:(backTo pos (starEach es X.env)).any (·.1)=false:=by rfl):
  PE X (.Call (.Name x p) (e:: es) [] pos) (YQ C sp dvs E t):=by
 intro pins s σ H Q I h
 refine wpAny_Call_Name_kw (Ir I hg hm ?_ hdb)
 refine PySem.W.callWith_K (h₀:=X.base) I.ok.mod.kin M.kp (dO (ha pos pins s σ H _ I h) fun us s1 ⟨vs,H1,I1,r,q⟩=>⟨I1.kIn,?_⟩) he hpl
 exact R4 M F hr hb hd hx I1 r q
end
section
variable {X:Cx} {CX:Hy} {k:Nat} {f C:Addr} {fd:FuncData} {ps ks:List Str} {sp:Sp} {E:XK} {x m:Str} {p pos apos kpos:Pos} {e o:Expr} {es:List Expr} {kws:List Keyword} {te ta:TE} {t tk:TA} {nm:Option Str}
variable {g:List Value->List Value->List Value} {gV:List V->List V->List V}
end
structure gm (N P:List Str) (sc:Scope):Prop where
 kind:sc.kind=.function
 co:sc.isCoroutine=false
 gen:sc.isGenerator=false
 nd:N.Nodup
 pre:N.take P.length=P
 par:∀x∈P,sc.names.lookup x=some .local∨sc.names.lookup x=some .cell
 nofree:∀y∈sc.names,y.2≠.free
theorem HW {kindOf:Str->Option NameKind} {x:Str}:∀{binds:List (Str×Value)} {m:Str->Option Value},(∀v,(x,v)∉binds)->bindL kindOf binds m x=m x
 | [],_,_=>rfl
 | (n,v):: r,m,h=>by
  unfold bindL
  rw [HW fun w hw=>h w (List.mem_cons_of_mem _ hw)]
  split
  ·have:x≠n:=by rintro rfl;exact h v List.mem_cons_self
   simp [this]
  ·rfl
theorem G9 {kindOf:Str->Option NameKind} {x:Str}:∀{binds:List (Str×Value)} {m:Str->Option Value},(∀v,(x,v)∉binds)->bindC kindOf binds m x=m x
 | [],_,_=>rfl
 | (n,v):: r,m,h=>by
  unfold bindC
  rw [G9 fun w hw=>h w (List.mem_cons_of_mem _ hw)]
  split
  ·rfl
  ·have:x≠n:=by rintro rfl;exact h v List.mem_cons_self
   simp [this]
theorem GP {kindOf:Str->Option NameKind} {x:Str} {v:Value}:∀{P:List Str} {vs:List Value} {i:Nat} {m:Str->Option Value},P.Nodup->P[i]?=some x->vs[i]?=some v->kindOf x=some .local->
  bindL kindOf (P.zip vs) m x=some v
 | [],_,_,_,_,h,_,_=>by simp at h
 | _:: _,[],_,_,_,_,h,_=>by simp at h
 | p:: P,w:: vs,0,m,nd,h1,h2,hk=>by
  simp at h1 h2;subst h1;subst h2
  show bindL kindOf ((p,w):: P.zip vs) m p=_
  unfold bindL
  rw [HW fun v hv=>(List.nodup_cons.mp nd).1 (List.of_mem_zip hv).1,if_pos hk]
  simp
 | p:: P,w:: vs,i+1,m,nd,h1,h2,hk=>by
  show bindL kindOf ((p,w):: P.zip vs) m x=_
  unfold bindL
  exact GP (i:=i) (List.nodup_cons.mp nd).2 (by simpa using h1) (by simpa using h2) hk
theorem G8 {kindOf:Str->Option NameKind} {x:Str} {v:Value}:∀{P:List Str} {vs:List Value} {i:Nat} {m:Str->Option Value},P.Nodup->P[i]?=some x->vs[i]?=some v->kindOf x≠some .local->
  bindC kindOf (P.zip vs) m x=some v
 | [],_,_,_,_,h,_,_=>by simp at h
 | _:: _,[],_,_,_,_,h,_=>by simp at h
 | p:: P,w:: vs,0,m,nd,h1,h2,hk=>by
  simp at h1 h2;subst h1;subst h2
  show bindC kindOf ((p,w):: P.zip vs) m p=_
  unfold bindC
  rw [G9 fun v hv=>(List.nodup_cons.mp nd).1 (List.of_mem_zip hv).1,if_neg hk]
  simp
 | p:: P,w:: vs,i+1,m,nd,h1,h2,hk=>by
  show bindC kindOf ((p,w):: P.zip vs) m x=_
  unfold bindC
  exact G8 (i:=i) (List.nodup_cons.mp nd).2 (by simpa using h1) (by simpa using h2) hk
noncomputable def start (N:List Str) (vs:List V):St:=vs.map some ++ List.replicate (N.length - vs.length) none
noncomputable def Ny (CX:Hy) (P:Program) (w:World) (K:PySem.W.Frag) (mg:Str->Option Value) (base:Heap) (N:List Str) (qual:Str) (scope:Scope) (f:Addr) (cd:Value) (A:Around) (outer:List Env) (s:Shared) (H:Hp) (E:XK):Cx where
 prog:=P
 w:=w
 K:=K
 mg:=mg
 base:=base
 A:=A.deeper (envOfC qual scope s.heap.objs.size f cd)
 N:=N
 s₀:=s
 H₀:=H
 env:=envOfC qual scope s.heap.objs.size f cd
 outer:=outer
 stack:=envOfC qual scope s.heap.objs.size f cd:: outer
 ex:=[]
 calm:=true
 fn:=fun _=>true
 pn:=[]
 xe:=fun e s'=>wpAny (model P w) (A.deeper (envOfC qual scope s.heap.objs.size f cd)) (leaving (envOfC qual scope s.heap.objs.size f cd) e) (fun _ s''=>CX outer H s E e s'') (fun e' s''=>CX outer H s E e' s'') s'
theorem KR {sc:Scope} {n:Nat} {x:Str} (h:sc.names.lookup x=some .cell):∃c,(cellsFrom n sc.names []).lookup x=some c:=by
 have q:=PySem.W.cellsFrom_some sc.names n [] (.inl h)
 exact Option.isSome_iff_exists.mp q
theorem QH {CX:Hy} {P:Program} {w:World} {K:PySem.W.Frag} {mg:Str->Option Value} {base:Heap} {N ps:List Str} {qual:Str} {scope:Scope} {f:Addr} {cd:Value} {A:Around} {outer:List Env} {s s1:Shared} {H:Hp} {E:XK} {us:List Value} {vs:List V}
  (S:gm N ps scope) (hd:A.handled=none) (e0:MT P w K mg base A outer s H) (hl:vs.length=ps.length) (r:Vals vs us)
  (x:InCallC s s.heap.objs.size (bindL (envOfC qual scope s.heap.objs.size f cd).kindOf (ps.zip us) fun _=>none) (cellsFrom (s.heap.objs.size+1) scope.names []) (bindC (envOfC qual scope s.heap.objs.size f cd).kindOf (ps.zip us) fun _=>none) s1):
  Inv (Ny CX P w K mg base N qual scope f cd A outer s H E) [] (start N vs) H s1:=by
 have hpl:ps.length<=N.length:=by have:=congrArg List.length S.pre;rw [List.length_take] at this;omega
 obtain⟨h1,tk,rfl,hk⟩:=x.done
 have noA:∀b:Addr,b∉(Ny CX P w K mg base N qual scope f cd A outer s H E).ex:=fun b z=>absurd (show b∈([]:List Addr) from z) (by simp)
 refine⟨⟨e0.mod,S.kind,rfl,rfl,Nat.le_refl _,fun y z c h1 h2=>?_,fun y hy=>?_,fun y c _ h=>?_,fun _=>hd,Around.frames_deeper e0.frames,.inr ⟨rfl,rfl⟩,fun b z=>absurd z (noA b),e0.bs,e0.bsz,fun b _ _=>noA b,fun b z=>absurd z (noA b),e0.funs,e0.frf⟩,
  rfl,e0.bare,Un.kept hk,⟨_,x.toInCall.ns,fun i y v h1 h2 h3=>?_⟩,fun y c h=>⟨_,x.cell y c h⟩,e0.hok.fresh (Nat.le_refl _),fun y c h=>?_,fun p hp=>absurd (show p∈([]:List (Addr×Obj)) from hp) (by simp),e0.hok.kept hk,?_⟩
 ·exact name_of_addr x.apart (PySem.mem_of_lookup h1) (PySem.mem_of_lookup h2)
 ·have hy:scope.names.lookup y=some .cell∨scope.names.lookup y=some .free:=hy
  rcases hy with hy | hy
  ·exact KR hy
  ·exact absurd rfl (S.nofree _ (PySem.mem_of_lookup hy))
 ·exact Nat.le_of_lt (x.above y c (PySem.mem_of_lookup h))
 ·have hi:i <vs.length:=by
   unfold start at h2
   by_cases hi:i <vs.length
   ·exact hi
   ·rw [List.getElem?_append_right (by simpa using hi)] at h2
    rw [List.getElem?_replicate] at h2
    split at h2 <;> cases h2
  have ha:vs[i]?=some v:=by
   unfold start at h2
   rw [List.getElem?_append_left (by simpa using hi),List.getElem?_map] at h2
   cases e:vs[i]? with
   | none=>rw [e] at h2;cases h2
   | some a=>rw [e] at h2;cases h2;rfl
  obtain⟨u,hu,rv⟩:=r.get ha
  have hp:ps[i]?=some y:=by
   rw [<-S.pre,List.getElem?_take_of_lt (by omega)];exact h1
  have ndP:ps.Nodup:=by rw [<-S.pre];exact S.nd.sublist (List.take_sublist _ _)
  refine⟨u,rv,?_⟩
  rcases S.par y (List.mem_of_getElem? hp) with k | k
  ·exact .inl ⟨k,GP ndP hp hu k⟩
  ·obtain⟨c,e⟩:=KR (n:=s.heap.objs.size+1) k
   refine .inr ⟨.inl k,c,e,?_⟩
   have q:=x.cell y c e
   rw [G8 ndP hp hu (by show scope.names.lookup y≠_;rw [k];decide)] at q
   exact q
 ·exact e0.hok.fresh (Nat.le_of_lt (x.above y c (PySem.mem_of_lookup h)))
 ·unfold start
  show _=N.length
  rw [List.length_append,List.length_map,List.length_replicate]
  omega
theorem WY {CX:Hy} {P:Program} {w:World} {K:PySem.W.Frag} {mg:Str->Option Value} {base:Heap} {k:Nat} {f:Addr} {name qual:Str} {params:Arguments} {body:List Stmt} {scope:Scope} {dV kV doc pm cdv ct oc:Value} {an od:Option Addr}
  {osl:Array (Option Value)} {N ps:List Str} {sp:Sp} (lk:K.lookup f=some ⟨oc,od,.func (PySem.W.fnOf name qual params body scope dV kV doc pm an cdv ct),osl⟩) (hcd:PySem.W.codeIn K cdv qual=true) (S:gm N ps scope)
  (len:∀vs H Q E,sp vs H Q E->vs.length=ps.length)
  (hbody:∀(A:Around) (outer:List Env) (s:Shared) (H:Hp) (vs:List V) (Q:VK) (E:XK),ji k (A.deeper (envOfC qual scope s.heap.objs.size f cdv))->sp vs H Q E->
   ∃t,Pj (Ny CX P w K mg base N qual scope f cdv A outer s H E) body t/\t { nx:=fun _ H'=>Q .non H',rt:=Q } (start N vs) H):
  iK P w K mg base CX (k+1) f (PySem.W.fnOf name qual params body scope dV kV doc pm an cdv ct) ps sp:=by
 refine⟨len,fun A outer s H args us vs Q E hr e0 hb r hsp=>?_⟩
 have hl:=len _ _ _ _ hsp
 have KX:K.In s.heap:=e0.mod.kin.keeps fun b o e=>(e0.bs b o e).1
 have lim:s.heap.NoLimit:=e0.mod.nolimit.keeps fun b o e=>(e0.bs b o e).1
 have hkind:∀y∈ps.zip us,scope.names.lookup y.1=some .local∨(scope.names.lookup y.1=some .cell/\((cellsFrom (s.heap.objs.size+1) scope.names []).lookup y.1).isSome=true):=fun⟨n,v⟩ hy=>by
  rcases S.par n (List.of_mem_zip hy).1 with q | q
  ·exact .inl q
  ·exact .inr ⟨q,PySem.W.cellsFrom_some _ _ _ (.inl q)⟩
 refine codeAny_call_function hr.depth (KX _ _ lk) rfl S.co S.gen rfl (PySem.W.codeRec_of KX hcd) (hb _ _ _ _ ?_)
 refine wpAny_newFunctionEnv_cells S.kind hkind fun env he s1 x=>?_
 subst he
 refine⟨lim.keeps x.toInCall.keep,codeAny_func ?_⟩
 obtain⟨t,ht,hq⟩:=hbody A outer s H vs Q E (hr.deeper _) hsp
 have I:Inv (Ny CX P w K mg base N qual scope f cdv A outer s H E) [] (start N vs) H s1:=QH S hr.hd e0 hl r x
 refine wpAny_mono (ht [] s1 (start N vs) H _ I hq) (fun fl s' hs=>?_) fun e s' hs=>hs
 have fin:∀{σ':St} {H':Hp} {v:V} {u:Value},Inv (Ny CX P w K mg base N qual scope f cdv A outer s H E) [] σ' H' s'->RelV v u->Q v H'->CE outer P w H s Q u s':=
  fun {σ' H' v u} J rv q=>⟨v,H',J.os,J.bare,J.base,J.hok,rv,q⟩
 cases fl with
 | ret u=>
  obtain⟨v,σ',H',J,rv,q⟩:=hs
  exact fin J rv q
 | next=>
  obtain⟨σ',H',J,q⟩:=hs
  exact fin (v:=V.non) (u:=Value.none) J rfl q
 | brk=>
  obtain⟨_,_,_,q⟩:=hs
  exact False.elim q
 | cont=>
  obtain⟨_,_,_,q⟩:=hs
  exact False.elim q
section
variable {X:Cx} {x:Str} {p pos:Pos} {e:Expr} {es:List Expr} {t:TA} {id T:String} {r:List V->Hp->VK->Prop}
noncomputable def tCB (r:List V->Hp->VK->Prop) (t:TA):TE:=fun σ H Q=>t σ H fun vs H1=>r vs H1 Q
theorem bw (hc:jW X (.builtin id) r) (hg:Gl X x) (hm:X.mg x=none) (hv:bootBuiltins x=some (.builtin id)) (ha:PA X (e:: es) t) (hn:x≠ "__name__" :=by decide) (hdb:(x == ("__debug__" :Str))=false:=by decide)
  (he:starEach (e:: es) X.env=(false,eval e X.env):: starEach es X.env:=by rfl) (hpl:(backTo pos (starEach es X.env)).any (·.1)=false:=by rfl):PE X (.Call (.Name x p) (e:: es) [] pos) (tCB r t):=by
 intro pins s σ H Q I h
 refine wpAny_Call_Name_kw (zU I hg hm hv ?_ hn hdb)
 exact PyProof.Rows.callWith_builtin1 (dO (ha pos pins s σ H _ I h) fun us s1 ⟨vs,H1,I1,r1,q1⟩=>hc pins s1 σ H1 vs us Q I1 r1 q1) he hpl
theorem fL (hc:jW X (.type T) r) (hg:Gl X x) (hm:X.mg x=none) (hv:bootBuiltins x=some (.type T)) (ha:PA X (e:: es) t) (hn:x≠ "__name__" :=by decide) (hdb:(x == ("__debug__" :Str))=false:=by decide)
  (he:starEach (e:: es) X.env=(false,eval e X.env):: starEach es X.env:=by rfl) (hpl:(backTo pos (starEach es X.env)).any (·.1)=false:=by rfl):PE X (.Call (.Name x p) (e:: es) [] pos) (tCB r t):=by
 intro pins s σ H Q I h
 refine wpAny_Call_Name_kw (zU I hg hm hv ?_ hn hdb)
 exact PyProof.Rows.callWith_type1 (dO (ha pos pins s σ H _ I h) fun us s1 ⟨vs,H1,I1,r1,q1⟩=>hc pins s1 σ H1 vs us Q I1 r1 q1) he hpl
end
end L2
namespace HT
open PySem PyProof.Rows
section
open PySem.SeqAt
open PySem.AutoSeq1 (wpAny_loadPart')
open PySem.MeetsSeq PySem.MeetsSeq2 PySem.MeetsSeq3
end
section
variable {prog:Program} {w:World} {A:Around} {E:Value->Shared->Prop} {s:Shared}
noncomputable def K3 (n d:Nat):Option Int->Nat
 | none=>d
 | some v=>if v <0 then(v+(n:Int)).toNat else min v.toNat n
theorem yE (n d:Nat):K3 n d none=d:=rfl
theorem vQ (n d k:Nat):K3 n d (some (k:Int))=min k n:=by
 show(if (k:Int) <0 then((k:Int)+(n:Int)).toNat else min (k:Int).toNat n)=min k n
 rw [if_neg (by omega),Int.toNat_natCast]
end
end HT
namespace L2
open PySem PySem.Spec PyProof.Rows
noncomputable abbrev TO:=St->Hp->(Option Int->Hp->Prop)->Prop
noncomputable def PO (X:Cx) (e:Option Expr) (t:TO):Prop:=
 ∀(pins:List (Addr×Obj)) (s:Shared) (σ:St) (H:Hp) (Q:Option Int->Hp->Prop),Inv X pins σ H s->t σ H Q->
  wpAny (model X.prog X.w) X.A (evalPart e X.env) (fun u s'=>∃o H',Inv X pins σ H' s'/\IsPart u o/\Q o H') X.xe s
noncomputable def V9:TO:=fun _ H Q=>Q none H
inductive Up (Q:Option Int->Hp->Prop) (x:V) (H1:Hp):Prop where
 | mk:∀i,x=.int i->Q (some i) H1->Up Q x H1
noncomputable def Zt (t:TE):TO:=fun σ H Q=>t σ H fun x H1=>Up Q x H1
section
variable {X:Cx} {e:Expr} {te:TE} {lo hi:Option Expr} {tl th:TO} {pos p2:Pos}
theorem m8:PO X none V9:=by
 intro pins s σ H Q I h
 rw [evalPart_none]
 exact wpAny_pure ⟨none,H,I,.none,h⟩
theorem jU (h:PE X e te):PO X (some e) (Zt te):=by
 intro pins s σ H Q I hw
 rw [evalPart_some]
 refine dO (h pins s σ H _ I hw) fun u s1 hpt=>?_
 obtain⟨x,H1,I1,r1,q1⟩:=hpt
 obtain⟨i,rfl,q⟩:=q1
 obtain⟨t,rfl⟩:=r1
 exact⟨some i,H1,I1,.int i t,q⟩
noncomputable def SlR (X:Cx) (r:V->Option Int->Option Int->Hp->VK->Prop):Prop:=
 ∀(pins:List (Addr×Obj)) (s:Shared) (σ:St) (H:Hp) (x:V) (v vl vu:Value) (lo hi:Option Int) (sl:Addr) (Q:VK),Inv X pins σ H s->RelV x v->s.heap.IsSliceOf sl vl vu .none->IsPart vl lo->IsPart vu hi->r x lo hi H Q->
  ∃T id,typeLookup (.type T) "__getitem__" =pure (some (.builtin id))/\s.TypeIs v T/\wpAny (model X.prog X.w) X.A (getItem v (.ref sl)) (EP X pins σ Q) X.xe s
noncomputable def tSl (r:V->Option Int->Option Int->Hp->VK->Prop) (te:TE) (tl th:TO):TE:=fun σ H Q=>te σ H fun x H1=>tl σ H1 fun l H2=>th σ H2 fun u H3=>r x l u H3 Q
theorem jl {r:V->Option Int->Option Int->Hp->VK->Prop} (hr:SlR X r) (he:PE X e te) (hl:PO X lo tl) (hu:PO X hi th):PE X (.Subscript e (.Slice lo hi none p2) pos) (tSl r te tl th):=by
 intro pins s σ H Q I h
 refine Subscript_ (dO (he pins s σ H _ I h) fun v s1 hpt=>?_)
 obtain⟨x,H1,I1,r1,q1⟩:=hpt
 refine wpAny_Slice (dO (hl pins s1 σ H1 _ I1 q1) fun vl s2 ⟨l,H2,I2,pl,q2⟩=>dO (hu pins s2 σ H2 _ I2 q2) fun vu s3 hpt=>?_)
 obtain⟨u,H3,I3,pu,q3⟩:=hpt
 rw [evalPart_none]
 refine wpAny_pure ?_
 have I4:Inv X pins σ H3 { s3 with heap:=s3.heap.push { cls:=.type "slice",data:=.fields #[vl,vu,.none] } }:=I3.kept (t':=s3.toks) fun b ob q=>Heap.get?_push_of_some _ q
 obtain⟨T,id,hT,ht,hg⟩:=hr pins { s3 with heap:=s3.heap.push { cls:=.type "slice",data:=.fields #[vl,vu,.none] } } σ H3 x v vl vu l u s3.heap.objs.size Q I4 r1 (Heap.IsSliceOf.new ..) pl pu q3
 show wpAny (model X.prog X.w) X.A (subscriptTail e (.Slice lo hi none p2) v (.ref s3.heap.objs.size)) (EP X pins σ Q) X.xe { s3 with heap:=s3.heap.push { cls:=.type "slice",data:=.fields #[vl,vu,.none] } }
 exact tail_any (ops:=[.ref s3.heap.objs.size,v]) ht hT hg (by with_unfolding_all rfl)
noncomputable def xM (xs:List V) (lo hi:Option Int):List V:=(xs.drop (HT.K3 xs.length 0 lo)).take (HT.K3 xs.length xs.length hi - HT.K3 xs.length 0 lo)
theorem LR (xs:List V) (lo hi:Option Int):(xM xs lo hi).length<=xs.length:=by
 unfold xM
 rw [List.length_take,List.length_drop]
 omega
end
noncomputable def Yk (n:Nat) (i:Int):Option Nat:=if 0<=i then(if i <n then some i.toNat else none) else if -(n:Int)<=i then some (i+n).toNat else none
noncomputable def Gk {α:Type} (xs:List α) (i:Int):Option α:=(Yk xs.length i).bind fun j=>xs[j]?
theorem Vm {n:Nat} {i:Int} {j:Nat} (h:Yk n i=some j):seqIndex? i n=some j/\j <n/\ -(n:Int)<=i/\i <n:=by
 unfold Yk at h
 by_cases h0:0<=i
 ·rw [if_pos h0] at h
  by_cases h1:i <n
  ·rw [if_pos h1] at h
   have e:i.toNat=j:=Option.some.inj h
   exact⟨by rw [seqIndex_of h0 h1,e],by omega,by omega,h1⟩
  ·rw [if_neg h1] at h;cases h
 ·rw [if_neg h0] at h
  by_cases h1: -(n:Int)<=i
  ·rw [if_pos h1] at h
   have e:(i+n).toNat=j:=Option.some.inj h
   exact⟨by rw [seqIndex_neg (by omega) h1,e],by omega,h1,by omega⟩
  ·rw [if_neg h1] at h;cases h
theorem Jb {α:Type} {xs:List α} {i:Int} {v:α} (h:Gk xs i=some v):∃j,seqIndex? i xs.length=some j/\xs[j]?=some v/\j <xs.length/\ -(xs.length:Int)<=i/\i <xs.length:=by
 unfold Gk at h
 cases e:Yk xs.length i with
 | none=>rw [e] at h;cases h
 | some j=>
  rw [e] at h
  obtain⟨h1,h2,h3,h4⟩:=Vm e
  exact⟨j,h1,h,h2,h3,h4⟩
theorem aN {α:Type} {xs:List α} {j:Nat} {v:α} (h:xs[j]?=some v):Gk xs (j:Int)=some v:=by
 have hj:j <xs.length:=(List.getElem?_eq_some_iff.mp h).1
 have e:Yk xs.length (j:Int)=some j:=by
  unfold Yk
  rw [if_pos (by omega),if_pos (by omega)];simp
 unfold Gk;rw [e];exact h
noncomputable def PJ (b:Expr):Prop:=∀o i,subscripted b false o i=operate [o,i] (getItem o i)
noncomputable def Q0 (X:Cx) (r:R2):Prop:=
 ∀(value slice:Expr) (pins:List (Addr×Obj)) (s:Shared) (σ:St) (H:Hp) (x y:V) (v u:Value) (Q:VK),Inv X pins σ H s->RelV x v->RelV y u->r x y H Q->
  subscripted slice false v u=operate [v,u] (getItem v u)->wpAny (model X.prog X.w) X.A (subscriptTail value slice v u) (EP X pins σ Q) X.xe s
noncomputable def MtR (X:Cx) (id:String) (r:V->List V->Hp->VK->Prop):Prop:=
 ∀(pins:List (Addr×Obj)) (s:Shared) (σ:St) (H:Hp) (x:V) (xs:List V) (v:Value) (us:List Value) (Q:VK),Inv X pins σ H s->RelV x v->Vals xs us->r x xs H Q->
  wpAny (model X.prog X.w) X.A (call (.builtin id) (v:: us)) (EP X pins σ Q) X.xe s
section
variable {X:Cx} {a b:Expr} {ta tb:TE} {pos:Pos}
theorem Q0.or {r r':R2} (h:Q0 X r) (h':Q0 X r'):Q0 X (fun x y H Q=>r x y H Q∨r' x y H Q):=by
 intro value slice pins s σ H x y v u Q I rx ry q hs
 rcases q with q | q
 ·exact h value slice pins s σ H x y v u Q I rx ry q hs
 ·exact h' value slice pins s σ H x y v u Q I rx ry q hs
theorem aR {r:R2} (hr:Q0 X r) (ha:PE X a ta) (hb:PE X b tb) (hs:PJ b):PE X (.Subscript a b pos) (UW r ta tb):=by
 intro pins s σ H Q I h
 exact Subscript_ (X7 ha hb I h fun v u s2 x y H2 I2 rx ry q=>hr a b pins s2 σ H2 x y v u Q I2 rx ry q (hs _ _))
inductive WR (K:PySem.W.Frag) (x:V) (y:V) (H:Hp) (Q:VK):Prop where
 | mk:∀p xs i v,x=.ref p->y=.int i->bH K H p xs->Gk xs i=some v->Q v H->WR K x y H Q
noncomputable def Xx (K:PySem.W.Frag):R2:=fun x y H Q=>WR K x y H Q
inductive WN (K:PySem.W.Frag) (x:V) (y:V) (H:Hp) (Q:VK):Prop where
 | mk:∀p xs i v,x=.ref p->y=.int i->fH K H p xs->Gk xs i=some v->Q v H->WN K x y H Q
noncomputable def Xu (K:PySem.W.Frag):R2:=fun x y H Q=>WN K x y H Q
inductive WX (x:V) (y:V) (H:Hp) (Q:VK):Prop where
 | mk:∀z i c,x=.str z->y=.int i->z.length<=sizeLine->Gk z.cps.toList i=some c->Q (.str ⟨#[c]⟩) H->WX x y H Q
noncomputable def ZP:R2:=fun x y H Q=>WX x y H Q
theorem aW:Q0 X (Xx X.K):=by
 intro value slice pins s σ H x y v u Q I rx ry h hs
 obtain⟨p,xs,i,z,rfl,rfl,hq,he,q⟩:=h
 cases rx
 obtain⟨t,rfl⟩:=ry
 obtain⟨its,r,pl,hz⟩:=I.list hq
 obtain⟨j,h1,h2,h3,h4,h5⟩:=Jb he
 obtain⟨w,ew,rw'⟩:=r.get h2
 have hl:=r.length
 have hn:=Jg
 have fin:EP X pins σ Q w s:=⟨z,H,I,rw',q⟩
 by_cases h0:0<=i
 ·have hj:i.toNat=j:=by
   rw [seqIndex_of h0 h5] at h1
   exact Option.some.inj h1
  exact item_listR pl.isList h0 (by omega) (by rw [hj];simpa using ew) fin hs
 ·have hj:(i+(its.toArray.size:Int)).toNat=j:=by
   rw [seqIndex_neg (by omega) h4] at h1
   rw [List.size_toArray,<-hl]
   exact Option.some.inj h1
  exact subscriptTail_builtinR (x:=w) pl.isList.typeIs slot_list_getitem.lookup
   (wpAny_getItem_list_neg (Q:=fun r s'=>r=w/\EP X pins σ Q r s') pl.isList (by omega) (by rw [List.size_toArray] <;> omega) (by omega) (by rw [hj];simpa using ew) ⟨rfl,fin⟩) hs
theorem cj:Q0 X (Xu X.K):=by
 intro value slice pins s σ H x y v u Q I rx ry h hs
 obtain⟨p,xs,i,z,rfl,rfl,hq,he,q⟩:=h
 cases rx
 obtain⟨t,rfl⟩:=ry
 obtain⟨its,r,pl,hz⟩:=I.tuple hq
 obtain⟨j,h1,h2,h3,h4,h5⟩:=Jb he
 obtain⟨w,ew,rw'⟩:=r.get h2
 have hl:=r.length
 have hn:=Jg
 have fin:EP X pins σ Q w s:=⟨z,H,I,rw',q⟩
 exact subscriptTail_builtinR (x:=w) pl.typeIs slot_tuple_getitem.lookup
  (getItem_tuple (j:=j) (Q:=fun r s'=>r=w/\EP X pins σ Q r s') pl (by omega) (by omega) (by rw [List.size_toArray,<-hl];exact h1) (by simpa using ew) ⟨rfl,fin⟩) hs
theorem Em:Q0 X ZP:=by
 intro value slice pins s σ H x y v u Q I rx ry h hs
 obtain⟨z,i,c,rfl,rfl,hz,he,q⟩:=h
 obtain⟨t,rfl⟩:=rx
 obtain⟨t',rfl⟩:=ry
 obtain⟨j,h1,h2,h3,h4,h5⟩:=Jb he
 have hl:z.cps.toList.length=z.length:=by simp [Str.length]
 rw [hl] at h1 h4 h5
 have hn:=Jg
 exact tail_any (typeIs_str s z t) slot_str_getitem.lookup (getItem_str (c:=c) (by
  have e1:decide (i < -(2 ^ 63:Int))=false:=decide_eq_false (by omega)
  have e2:decide (i≥2 ^ 63)=false:=decide_eq_false (by omega)
  rw [e1,e2,Bool.or_false]) (by rw [h1];simpa using h2) ⟨.str ⟨#[c]⟩,H,I.tok _,⟨_,rfl⟩,q⟩) hs
noncomputable def rIx (K:PySem.W.Frag):R2:=fun x y H Q=>Xx K x y H Q∨Xu K x y H Q∨ZP x y H Q
theorem Mi:Q0 X (rIx X.K):=aW.or (cj.or Em)
theorem Iz (lo hi:Option Int) (n:Nat):(sliceBounds lo hi none n).1=((HT.K3 n 0 lo:Nat):Int)/\(sliceBounds lo hi none n).2.1=((HT.K3 n n hi:Nat):Int)/\(sliceBounds lo hi none n).2.2=1:=by
 refine⟨?_,?_,rfl⟩
 ·cases lo with
  | none=>simp [sliceBounds,HT.K3]
  | some i=>
   simp only [sliceBounds,HT.K3,Option.getD_none,show(1:Int) >0 by decide,if_true]
   by_cases h:i <0
   ·simp only [h,if_true] <;> omega
   ·simp only [h,if_false] <;> omega
 ·cases hi with
  | none=>simp [sliceBounds,HT.K3]
  | some i=>
   simp only [sliceBounds,HT.K3,Option.getD_none,show(1:Int) >0 by decide,if_true]
   by_cases h:i <0
   ·simp only [h,if_true] <;> omega
   ·simp only [h,if_false] <;> omega
theorem Gy (its:List Value) (lo hi:Option Int):slicePick its.toArray lo hi none=((its.drop (HT.K3 its.length 0 lo)).take (HT.K3 its.length its.length hi - HT.K3 its.length 0 lo)).toArray:=by
 obtain⟨h1,h2,h3⟩:=Iz lo hi its.toArray.size
 unfold slicePick
 rw [h1,h2,h3]
 simp only [sliceRange_one,pick_run,List.size_toArray] <;> rfl
inductive Xa (K:PySem.W.Frag) (x:V) (lo:Option Int) (hi:Option Int) (H:Hp) (Q:VK):Prop where
 | mk:∀a xs,x=.ref a->bH K H a xs->(∀p,H p=none->Q (.ref p) (upd H p (.lst (xM xs lo hi))))->Xa K x lo hi H Q
noncomputable def aav (K:PySem.W.Frag):V->Option Int->Option Int->Hp->VK->Prop:=fun x lo hi H Q=>Xa K x lo hi H Q
theorem qi:SlR X (aav X.K):=by
 intro pins s σ H x v vl vu lo hi sl Q I rx hs pl pu h
 obtain⟨a,xs,rfl,hx,q⟩:=h
 cases rx
 obtain⟨its,r,ht,hz⟩:=I.list hx
 have hlen:=r.length
 refine⟨"list",_,slot_list_getitem.lookup,ht.isList.typeIs,?_⟩
 refine wpAny_getItem_list_slice ht.isList hs pl pu .none (by simp) ?_ (by rw [List.size_toArray] <;> omega)
 rw [Gy,<-hlen]
 refine⟨.ref s.heap.objs.size,_,I.laid (t':=s.toks) (o:=.lst (xM xs lo hi)) (fun b ob q=>Heap.get?_push_of_some _ q) (Nat.le_refl _) ?_,rfl,q _ (I.hok.fresh (Nat.le_refl _))⟩
 exact⟨Nat.le_trans (LR xs lo hi) hz,_,0,(r.drop (HT.K3 xs.length 0 lo)).take (HT.K3 xs.length xs.length hi - HT.K3 xs.length 0 lo),Heap.get?_push_size _ rfl⟩
noncomputable def mU:V->Bool
 | .non=>true
 | .bl _=>true
 | .int _=>true
 | .str _=>true
 | _=>false
noncomputable def Mf:V->V->Bool
 | .non,.non=>true
 | .bl a,.bl b=>a == b
 | .bl a,.int b=>(if a then 1 else 0) == b
 | .int a,.bl b=>a == (if b then 1 else 0)
 | .int a,.int b=>a == b
 | .str a,.str b=>a == b
 | _,_=>false
theorem X3 {A:Around} {s:Shared} {y x:V} {u v:Value} (ry:RelV y u) (rx:RelV x v) (fy:mU y=true) (fx:mU x=true):SeqAt.EqAt A s u v (Mf y x):=by
 cases y with
 | non=>
  cases ry
  cases x with
  | non=>cases rx;exact SeqAt.EqAt.same _
  | bl b=>cases rx;exact SeqAt.EqAt.none_bool b
  | int b=>obtain⟨t,rfl⟩:=rx;exact SeqAt.EqAt.none_int b t
  | str b=>obtain⟨t,rfl⟩:=rx;exact SeqAt.EqAt.none_str b t
  | _=>exact absurd (show false=true from fx) Bool.false_ne_true
 | bl a=>
  cases ry
  cases x with
  | non=>cases rx;exact SeqAt.EqAt.bool_none a
  | bl b=>cases rx;exact SeqAt.EqAt.bool_bool a b
  | int b=>obtain⟨t,rfl⟩:=rx;exact SeqAt.EqAt.bool_int a b t
  | str b=>obtain⟨t,rfl⟩:=rx;exact SeqAt.EqAt.bool_str a b t
  | _=>exact absurd (show false=true from fx) Bool.false_ne_true
 | int a=>
  obtain⟨t',rfl⟩:=ry
  cases x with
  | non=>cases rx;exact SeqAt.EqAt.int_none a t'
  | bl b=>cases rx;exact SeqAt.EqAt.int_bool a t' b
  | int b=>obtain⟨t,rfl⟩:=rx;exact SeqAt.EqAt.int_int a t' b t
  | str b=>obtain⟨t,rfl⟩:=rx;exact SeqAt.EqAt.int_str a t' b t
  | _=>exact absurd (show false=true from fx) Bool.false_ne_true
 | str a=>
  obtain⟨t',rfl⟩:=ry
  cases x with
  | non=>cases rx;exact SeqAt.EqAt.str_none a t'
  | bl b=>cases rx;exact SeqAt.EqAt.str_bool a t' b
  | int b=>obtain⟨t,rfl⟩:=rx;exact SeqAt.EqAt.str_int a t' b t
  | str b=>obtain⟨t,rfl⟩:=rx;exact SeqAt.EqAt.str_str a t' b t
  | _=>exact absurd (show false=true from fx) Bool.false_ne_true
 | _=>exact absurd (show false=true from fy) Bool.false_ne_true
noncomputable def M8 (x:V) (u:Value):Bool:=match u with
 | .none=>Mf .non x
 | .bool b=>Mf (.bl b) x
 | .int i _=>Mf (.int i) x
 | .str z _=>Mf (.str z) x
 | _=>false
theorem S6 {x y:V} {u:Value} (r:RelV y u) (f:mU y=true):M8 x u=Mf y x:=by
 cases y with
 | non=>cases r;rfl
 | bl b=>cases r;rfl
 | int i=>obtain⟨t,rfl⟩:=r;rfl
 | str z=>obtain⟨t,rfl⟩:=r;rfl
 | _=>exact absurd (show false=true from f) Bool.false_ne_true
theorem zr {x:V}:∀{xs:List V} {us:List Value},Vals xs us->xs.all mU=true->us.any (M8 x)=xs.any fun y=>Mf y x
 | _,_,.nil,_=>rfl
 | y:: xs,u:: us,.cons r t,f=>by
  rw [List.all_cons,Bool.and_eq_true] at f
  rw [List.any_cons,List.any_cons,S6 r f.1,zr t f.2]
theorem uv {A:Around} {s:Shared} {x:V} {v:Value} (rx:RelV x v) (fx:mU x=true):∀{xs:List V} {us:List Value},Vals xs us->xs.all mU=true->∀u∈us,SeqAt.EqAt A s u v (M8 x u)
 | _,_,.nil,_=>fun u hu=>by cases hu
 | y:: xs,u:: us,.cons r t,f=>fun u' hu=>by
  rw [List.all_cons,Bool.and_eq_true] at f
  rcases List.mem_cons.mp hu with rfl | hu
  ·rw [S6 r f.1];exact X3 r rx f.1 fx
  ·exact uv rx fx t f.2 u' hu
noncomputable def inV (x:V) (xs:List V):Bool:=xs.any fun y=>Mf y x
inductive Zj (K:PySem.W.Frag) (neg:Bool) (x:V) (y:V) (H:Hp) (Q:VK):Prop where
 | mk:∀p xs,y=.ref p->((bH K H p xs∨fH K H p xs))->mU x=true->xs.all mU=true->(Q (.bl (if neg then !inV x xs else inV x xs)) H)->Zj K neg x y H Q
noncomputable def Wj (K:PySem.W.Frag) (neg:Bool):R2:=fun x y H Q=>Zj K neg x y H Q
theorem Hx:vX X (compareOp .In) (Wj X.K false):=by
 intro pins s σ H x y v u Q I rx ry h
 obtain⟨p,xs,rfl,hq,fx,fs,q⟩:=h
 cases ry
 rcases hq with hq | hq
 ·obtain⟨its,r,pl,hz⟩:=I.list hq
  refine SeqAt.in_listAt (M8 x) pl.isList (fun w hw=>uv rx fx r fs w (by simpa using hw)) ⟨.bl _,H,I,rfl,?_⟩
  rw [show its.toArray.any (M8 x)=its.any (M8 x) by simp,zr r fs]
  exact q
 ·obtain⟨its,r,pl,hz⟩:=I.tuple hq
  refine SeqAt.in_tupleAt (M8 x) pl (fun w hw=>uv rx fx r fs w (by simpa using hw)) ⟨.bl _,H,I,rfl,?_⟩
  rw [show its.toArray.any (M8 x)=its.any (M8 x) by simp,zr r fs]
  exact q
theorem jf:vX X (compareOp .NotIn) (Wj X.K true):=by
 intro pins s σ H x y v u Q I rx ry h
 obtain⟨p,xs,rfl,hq,fx,fs,q⟩:=h
 cases ry
 rcases hq with hq | hq
 ·obtain⟨its,r,pl,hz⟩:=I.list hq
  refine SeqAt.notIn_listAt (M8 x) pl.isList (fun w hw=>uv rx fx r fs w (by simpa using hw)) ⟨.bl _,H,I,rfl,?_⟩
  rw [show its.toArray.any (M8 x)=its.any (M8 x) by simp,zr r fs]
  exact q
 ·obtain⟨its,r,pl,hz⟩:=I.tuple hq
  refine SeqAt.notIn_tupleAt (M8 x) pl (fun w hw=>uv rx fx r fs w (by simpa using hw)) ⟨.bl _,H,I,rfl,?_⟩
  rw [show its.toArray.any (M8 x)=its.any (M8 x) by simp,zr r fs]
  exact q
theorem yt:jW X (.type "list") (fun xs H Q=>∃p ys,xs=[.ref p]/\(bH X.K H p ys∨fH X.K H p ys)/\∀l,H l=none->Q (.ref l) (upd H l (.lst ys))):=by
 intro pins s σ H xs us Q I r h
 obtain⟨p,ys,rfl,hq,q⟩:=h
 obtain⟨u,rfl,rx⟩:=vals1 r
 cases rx
 have fin:∀(its:List Value),Vals ys its->ys.length<=sizeLine->∀(h':Heap) (c':Nat),(∀b o',s.heap.get? b=some o'->h'.get? b=some o')->
   h'.get? s.heap.objs.size=some { cls:=.type "list",dict:=none,data:=.seq its.toArray c',slots:=#[] }->EP X pins σ Q (.ref s.heap.objs.size) { s with heap:=h' }:=fun its r' hz h' c' kp e=>
  ⟨.ref s.heap.objs.size,_,I.laid (t':=s.toks) kp (Nat.le_refl _) (show fJ X.prog X.w _ h' _ (.lst ys) from⟨hz,its,c',r',e⟩),rfl,q _ (I.hok.fresh (Nat.le_refl _))⟩
 rcases hq with hq | hq
 ·obtain⟨its,r',pl,hz⟩:=I.list hq
  have hlen:=r'.length
  obtain⟨o,ho,hc,n,hd⟩:=pl.isList
  exact call_list_seq p (.inl rfl) ho hc hd (fun h' c' kp e=>fin its r' hz h' c' kp e) (by simp only [List.size_toArray] <;> omega)
 ·obtain⟨its,r',pl,hz⟩:=I.tuple hq
  have hlen:=r'.length
  obtain⟨o,ho,hc,n,hd⟩:=pl
  exact call_list_seq p (.inr rfl) ho hc hd (fun h' c' kp e=>fin its r' hz h' c' kp e) (by simp only [List.size_toArray] <;> omega)
theorem Gh:jW X (.type "tuple") (fun xs H Q=>∃p ys,xs=[.ref p]/\((bH X.K H p ys/\∀l,H l=none->Q (.ref l) (upd H l (.tup ys)))∨(fH X.K H p ys/\Q (.ref p) H))):=by
 intro pins s σ H xs us Q I r h
 obtain⟨p,ys,rfl,h⟩:=h
 obtain⟨u,rfl,rx⟩:=vals1 r
 cases rx
 rcases h with ⟨hq,q⟩ | ⟨hq,q⟩
 ·obtain⟨its,r',pl,hz⟩:=I.list hq
  have hlen:=r'.length
  refine call_tuple_list pl.isList (fun h' kp=>?_) (by simp only [List.size_toArray] <;> omega)
  have I1:Inv X pins σ H { s with heap:=h' }:=I.kept (t':=s.toks) kp
  have I2:Inv X pins σ (upd H h'.objs.size (.tup ys)) { s with heap:=h'.push { cls:=.type "tuple",data:=.seq its.toArray } }:=
   I1.laid (t':=s.toks) (fun b o e=>Heap.get?_push_of_some _ e) (Nat.le_refl _) (show fJ X.prog X.w _ _ _ (.tup ys) from⟨hz,its,r',IsTup.new _ _⟩)
  exact⟨.ref h'.objs.size,_,I2,rfl,q _ (I1.hok.fresh (Nat.le_refl _))⟩
 ·obtain⟨its,r',pl,hz⟩:=I.tuple hq
  exact call_tuple_same pl ⟨.ref p,H,I,rfl,q⟩
noncomputable def tyV (K:PySem.W.Frag) (T:String) (x:V) (H:Hp):Prop:=match x with
 | .str _=>T= "str"
 | .int _=>T= "int"
 | .ref p=>(T= "list" /\∃xs,bH K H p xs)∨(T= "tuple" /\∃o,K.lookup p=some o/\o.cls=.type "tuple" /\o.dict=none)∨
   (T= "dict" /\((∃kvs,H p=some (.dK kvs))∨∃kvs,H p=some (.dT kvs)))∨(T= "set" /\∃S n,H p=some (.set S n))
 | _=>False
theorem Th {pins:List (Addr×Obj)} {σ:St} {H:Hp} {s:Shared} {T:String} {x:V} {v:Value} (I:Inv X pins σ H s) (r:RelV x v) (ty:tyV X.K T x H):
  s.TypeIs v T/\∀a,v=.ref a->∃ob,s.heap.get? a=some ob/\ob.dict=none:=by
 cases x with
 | str z=>
  obtain⟨t,rfl⟩:=r
  cases (show T= "str" from ty)
  exact⟨typeIs_str s z t,fun _ e=>nomatch e⟩
 | int i=>
  obtain⟨t,rfl⟩:=r
  cases (show T= "int" from ty)
  exact⟨typeIs_int s i t,fun _ e=>nomatch e⟩
 | ref p=>
  cases r
  rcases ty with ⟨rfl,xs,hq⟩ | ⟨rfl,o,hk,hc,hd⟩ | ⟨rfl,hk⟩ | ⟨rfl,S,n,hk⟩
  ·obtain⟨its,_,pl,_⟩:=I.list hq
   refine⟨pl.isList.typeIs,fun a e=>?_⟩
   cases e
   obtain⟨o,n,e,c,hd,_⟩:=pl
   exact⟨o,e,hd⟩
  ·refine⟨⟨o,I.kIn p o hk,hc⟩,fun a e=>?_⟩
   cases e
   exact⟨o,I.kIn _ o hk,hd⟩
  ·have z:∃o,s.heap.get? p=some o/\o.ExactDict:=by
    rcases hk with ⟨kvs,hk⟩ | ⟨kvs,hk⟩
    ·obtain⟨_,_,_,_,o,_,_,e,ex,_⟩:=I.hok p _ hk
     exact⟨o,e,ex⟩
    ·obtain⟨_,_,_,_,o,_,_,e,ex,_⟩:=I.hok p _ hk
     exact⟨o,e,ex⟩
   obtain⟨o,e,ex⟩:=z
   refine⟨⟨o,e,ex.1⟩,fun a e2=>?_⟩
   cases e2
   exact⟨o,e,ex.2.1⟩
  ·obtain⟨o,_,_,_,e,ex,_⟩:=I.hok p _ hk
   refine⟨⟨o,e,ex.1⟩,fun a e2=>?_⟩
   cases e2
   exact⟨o,e,ex.2.1⟩
 | _=>exact False.elim ty
noncomputable def Z7 (K:PySem.W.Frag) (T:String) (r:V->List V->Hp->VK->Prop) (to:TE):TE:=fun σ H Q=>to σ H fun x H1=>tyV K T x H1/\r x [] H1 Q
noncomputable def tBM (K:PySem.W.Frag) (T:String) (r:V->List V->Hp->VK->Prop) (to:TE) (t:TA):TE:=fun σ H Q=>to σ H fun x H1=>tyV K T x H1/\t σ H1 fun xs H2=>r x xs H2 Q
variable {o e:Expr} {es:List Expr} {to:TE} {t:TA} {name:Str} {apos cpos:Pos} {T id:String} {r:V->List V->Hp->VK->Prop}
theorem Mr (pa:PlainAttrs T) (slot:Slot T name id) (hty:typeOf (.builtin id)=pure (.type "method_descriptor")) (hm:MtR X id r) (ho:PE X o to)
  (hbase:attributeBase o name X.env (eval o X.env)=eval o X.env:=by rfl) (hline:(apos.endLine == cpos.line)=true:=by rfl):PE X (.Call (.Attribute o name apos) [] [] cpos) (Z7 X.K T r to):=by
 intro pins s σ H Q I h
 refine wpAny_Call_method0_late hbase hline (dO (ho pins s σ H _ I h) fun v s1 hpt=>?_)
 obtain⟨x,H1,I1,r1,ty,q1⟩:=hpt
 obtain⟨h1,h2⟩:=Th I1 r1 ty
 exact⟨T,id,pa,slot,hty,h1,h2,Calls.callWith_builtin rfl (PySem.evalArgs_none (hm pins s1 σ H1 x [] v [] Q I1 r1 .nil q1))⟩
theorem yG (pa:PlainAttrs T) (slot:Slot T name id) (hty:typeOf (.builtin id)=pure (.type "method_descriptor")) (hm:MtR X id r) (ho:PE X o to) (ha:PA X (e:: es) t)
  (hbase:attributeBase o name X.env (eval o X.env)=eval o X.env:=by rfl)
  (hfew:((backTo cpos (starEach (e:: es) X.env)).all (fun x=>!x.1) && (backToKw cpos (keywordEach [] X.env)).all (fun x=>x.1.isSome)
   && decide ((e:: es).length+([]:List Keyword).length+(if ([]:List Keyword).isEmpty then 0 else 1) <30))=true:=by rfl)
  (hline:(apos.endLine == cpos.line)=true:=by rfl) (hs:starEach (e:: es) X.env=(false,eval e X.env):: starEach es X.env:=by rfl) (hplain:(backTo cpos (starEach es X.env)).any (·.1)=false:=by rfl):
  PE X (.Call (.Attribute o name apos) (e:: es) [] cpos) (tBM X.K T r to t):=by
 intro pins s σ H Q I h
 refine wpAny_Call_method_late hbase hfew hline rfl (dO (ho pins s σ H _ I h) fun v s1 hpt=>?_)
 obtain⟨x,H1,I1,r1,ty,q1⟩:=hpt
 obtain⟨h1,h2⟩:=Th I1 r1 ty
 refine⟨T,id,pa,slot,hty,h1,h2,?_⟩
 have hA:=ha cpos pins s1 σ H1 _ I1 q1
 rw [hs] at hA ⊢
 refine Calls.callWith_builtin (by show(false || (backTo cpos (starEach es X.env)).any (·.1))=false;rw [hplain] <;> rfl) (Calls.evalArgs_plain ?_)
 exact dO hA fun us s2 ⟨vs,H2,I2,r2,q2⟩=>hm pins s2 σ H2 x vs v us Q I2 r1 r2 q2
end
noncomputable def Yx (X:Cx) (id:String) (r:V->List V->Hp->VK->Prop):Prop:=
 ∀(pins:List (Addr×Obj)) (s:Shared) (σ:St) (H:Hp) (x:V) (xs:List V) (v:Value) (us:List Value) (Q:VK),Inv X pins σ H s->RelV x v->Vals xs us->r x xs H Q->
  wpAny (model X.prog X.w) X.A (call (.builtin id) (v:: us)) (EP X pins σ Q) X.xe s
theorem Vals.one:∀{x:V} {us:List Value},Vals [x] us->∃u,us=[u]/\RelV x u
 | _,_,.cons r .nil=>⟨_,rfl,r⟩
theorem Vals.zero:∀{us:List Value},Vals [] us->us=[]
 | _,.nil=>rfl
theorem Vals.dropLast {xs:List V} {us:List Value} (h:Vals xs us):Vals xs.dropLast us.dropLast:=by
 induction h with
 | nil=>exact .nil
 | cons r t ih=>
  cases t with
  | nil=>exact .nil
  | cons q t'=>exact .cons r ih
theorem Vals.eraseIdx:∀{xs:List V} {us:List Value} (i:Nat),Vals xs us->Vals (xs.eraseIdx i) (us.eraseIdx i)
 | _,_,_,.nil=>.nil
 | _,_,0,.cons _ t=>t
 | _,_,i+1,.cons r t=>.cons r (Vals.eraseIdx i t)
theorem Np {α:Type} (l:List α):l.eraseIdx (l.length - 1)=l.dropLast:=by
 induction l with
 | nil=>rfl
 | cons a r ih=>
  cases r with
  | nil=>rfl
  | cons b r=>
   have e:(a:: b:: r).length - 1=((b:: r).length - 1)+1:=by
    have h1:(a:: b:: r).length=r.length+2:=rfl
    have h2:(b:: r).length=r.length+1:=rfl
    omega
   rw [e,List.eraseIdx_cons_succ,ih]
   all_goals rfl
theorem HR {α:Type}:∀(l:List α) (i:Nat),(l.eraseIdx i).length<=l.length
 | [],_=>Nat.le_refl _
 | _:: _,0=>Nat.le_succ _
 | _:: r,i+1=>Nat.succ_le_succ (HR r i)
section
variable {X:Cx} {pins:List (Addr×Obj)} {σ:St} {H:Hp} {s:Shared} {l b:Addr} {xs ys zs:List V}
theorem Inv.lset {its its':List Value} {n:Nat} {f:Array Value->Array Value} {t':Nat} (I:Inv X pins σ H s) (hH:H l=some (.lst xs))
  (e:s.heap.get? l=some { cls:=.type "list",data:=.seq its.toArray n }) (hf:f its.toArray=its'.toArray) (hv:Vals ys its') (hz:ys.length<=sizeLine):
  Inv X pins σ (upd H l (.lst ys)) { s with heap:=s.heap.update l (Obj.mapSeq f),toks:=t' }:=by
 have q:=PySem.IsL.update e f
 rw [hf] at q
 refine I.write (x:=l) (e:=l) (by rw [hH];exact trivial) (.inl rfl) (fun b' u hb hu=>(Heap.get?_update_other s.heap (Obj.mapSeq f) (Ne.symm hb)).trans hu) ⟨_,q⟩ ?_
 exact⟨hz,its',_,hv,q⟩
theorem Inv.lnew {its:List Value} {t':Nat} (I:Inv X pins σ H s) (hv:Vals ys its) (hz:ys.length<=sizeLine):
  Inv X pins σ (upd H s.heap.objs.size (.lst ys)) { s with heap:=s.heap.push { cls:=.type "list",data:=.seq its.toArray },toks:=t' }:=
 I.laid (fun _ _ q=>Heap.get?_push_of_some _ q) (Nat.le_refl _) ⟨hz,its,0,hv,Heap.get?_push_size _ rfl⟩
theorem Inv.fresh (I:Inv X pins σ H s):H s.heap.objs.size=none:=I.hok.fresh (Nat.le_refl _)
theorem Inv.lstM (I:Inv X pins σ H s) (hH:H l=some (.lst xs)):xs.length<=sizeLine/\∃(its:List Value) (n:Nat),Vals xs its/\xs.length=its.length/\s.heap.get? l=some { cls:=.type "list",data:=.seq its.toArray n }:=by
 obtain⟨z,its,n,r,e⟩:=I.hok l _ hH
 exact⟨z,its,n,r,r.length,e⟩
theorem TX {n:Nat} (h:n<=sizeLine):Builtin.List.listTooLong n=false:=by
 unfold Builtin.List.listTooLong
 exact decide_eq_false (by omega)
end
section
variable {X:Cx}
inductive Kq (x:V) (vs:List V) (H:Hp) (Q:VK):Prop where
 | mk:∀l xs y,x=.ref l->vs=[y]->H l=some (.lst xs)->xs.length <sizeLine->Q .non (upd H l (.lst (xs ++ [y])))->Kq x vs H Q
noncomputable def Od:V->List V->Hp->VK->Prop:=fun x vs H Q=>Kq x vs H Q
theorem Qq:Yx X "list.append" Od:=by
 intro pins s σ H x vs v us Q I rx rv h
 obtain⟨l,xs,y,rfl,rfl,hH,hz,q⟩:=h
 cases rx
 obtain⟨u,rfl,ru⟩:=rv.one
 obtain⟨z,its,n,r,hl,e⟩:=I.lstM hH
 refine call_meets F.slot_list_append ⟨_,e,rfl⟩ F.entry_list_append (F.args_list_append_2 _ _) (PySem.list_append l its.toArray n u (by rw [List.size_toArray];omega)) ⟨e,?_⟩
 refine⟨.non,_,I.lset (its':=its ++ [u]) hH e (by simp) (r.append (.cons ru .nil)) ?_,rfl,q⟩
 rw [List.length_append,List.length_singleton]
 omega
inductive KQ (x:V) (vs:List V) (H:Hp) (Q:VK):Prop where
 | mk:∀l b xs zs,x=.ref l->vs=[.ref b]->H l=some (.lst xs)->H b=some (.lst zs)->xs.length+zs.length<=sizeLine->Q .non (upd H l (.lst (xs ++ zs)))->KQ x vs H Q
noncomputable def V5:V->List V->Hp->VK->Prop:=fun x vs H Q=>KQ x vs H Q
theorem Ij:Yx X "list.extend" V5:=by
 intro pins s σ H x vs v us Q I rx rv h
 obtain⟨l,b,xs,zs,rfl,rfl,hH,hB,hz,q⟩:=h
 cases rx
 obtain⟨u,rfl,ru⟩:=rv.one
 cases ru
 obtain⟨z,its,n,r,hl,e⟩:=I.lstM hH
 obtain⟨z2,its2,n2,r2,hl2,e2⟩:=I.lstM hB
 have hsz:its.toArray.size+its2.toArray.size<=sizeLine:=by rw [List.size_toArray,List.size_toArray];omega
 have hlong:¬(!its.toArray.isEmpty && Builtin.List.listTooLong (its.toArray.size+its2.toArray.size))=true:=by
  rw [TX hsz,Bool.and_false]
  exact Bool.false_ne_true
 refine call_meets F.slot_list_extend ⟨_,e,rfl⟩ F.entry_list_extend (F.args_list_extend_2 _ _)
  (AutoSeq1.list_extend_list_list_0 l its.toArray n b its2.toArray n2 hlong (by rw [List.size_toArray];omega) (by omega)) ⟨e,e2,?_⟩
 refine⟨.non,_,I.lset (its':=its ++ its2) hH e (by simp) (r.append r2) ?_,rfl,q⟩
 rw [List.length_append]
 omega
inductive WD (x:V) (vs:List V) (H:Hp) (Q:VK):Prop where
 | mk:∀l xs y,x=.ref l->vs=[]->H l=some (.lst xs)->xs[xs.length - 1]?=some y->Q y (upd H l (.lst xs.dropLast))->WD x vs H Q
noncomputable def aaz:V->List V->Hp->VK->Prop:=fun x vs H Q=>WD x vs H Q
theorem MK:Yx X "list.pop" aaz:=by
 intro pins s σ H x vs v us Q I rx rv h
 obtain⟨l,xs,y,rfl,rfl,hH,hy,q⟩:=h
 cases rx
 have hus:=rv.zero
 subst hus
 obtain⟨z,its,n,r,hl,e⟩:=I.lstM hH
 obtain⟨u,hu,ru⟩:=r.get hy
 have hy':its.toArray[its.toArray.size - 1]?=some u:=by
  show its.toArray[its.length - 1]?=some u
  rw [<-Array.getElem?_toList,<-hl]
  exact hu
 refine call_meets F.slot_list_pop ⟨_,e,rfl⟩ F.entry_list_pop (F.args_list_pop_1 _) (MeetsSeq.list_pop_last l its.toArray n u hy' (by rw [List.size_toArray];omega)) ⟨e,?_⟩
 refine⟨y,_,I.lset (its':=its.dropLast) hH e ?_ r.dropLast ?_,ru,q⟩
 ·show its.toArray.eraseIdxIfInBounds (its.toArray.size - 1)=its.dropLast.toArray
  rw [List.size_toArray,List.eraseIdxIfInBounds_toArray,Np]
 ·rw [List.length_dropLast]
  omega
inductive Ph (x:V) (vs:List V) (H:Hp) (Q:VK):Prop where
 | mk:∀l xs i k y,x=.ref l->vs=[.int i]->H l=some (.lst xs)-> -(2 ^ 63)<=i->i <2 ^ 63->seqIndex? i xs.length=some k->xs[k]?=some y->Q y (upd H l (.lst (xs.eraseIdx k)))->Ph x vs H Q
noncomputable def Xr:V->List V->Hp->VK->Prop:=fun x vs H Q=>Ph x vs H Q
theorem Ge:Yx X "list.pop" Xr:=by
 intro pins s σ H x vs v us Q I rx rv h
 obtain⟨l,xs,i,k,y,rfl,rfl,hH,h1,h2,hk,hy,q⟩:=h
 cases rx
 obtain⟨u,rfl,ru⟩:=rv.one
 obtain⟨t,rfl⟩:=ru
 obtain⟨z,its,n,r,hl,e⟩:=I.lstM hH
 obtain⟨w,hw,rw'⟩:=r.get hy
 refine call_meets F.slot_list_pop ⟨_,e,rfl⟩ F.entry_list_pop (F.args_list_pop_2 _ _)
  (MeetsSeq.list_pop_at l its.toArray n i t k w (fitsIndex_both h1 h2) (by rw [List.size_toArray,<-hl];exact hk) (by rw [<-Array.getElem?_toList];exact hw) (by rw [List.size_toArray];omega)) ⟨e,?_⟩
 refine⟨y,_,I.lset (its':=its.eraseIdx k) hH e ?_ (r.eraseIdx k) ?_,rw',q⟩
 ·show its.toArray.eraseIdxIfInBounds k=(its.eraseIdx k).toArray
  rw [List.eraseIdxIfInBounds_toArray]
 ·have:=HR xs k
  omega
inductive Wx (x:V) (y:V) (H:Hp) (Q:VK):Prop where
 | mk:∀l b xs zs,x=.ref l->y=.ref b->H l=some (.lst xs)->H b=some (.lst zs)->xs.length+zs.length<=sizeLine->(∀p,H p=none->Q (.ref p) (upd H p (.lst (xs ++ zs))))->Wx x y H Q
noncomputable def aai:R2:=fun x y H Q=>Wx x y H Q
theorem NK:vX X (binaryOp .Add) aai:=by
 intro pins s σ H x y v u Q I rx ry h
 obtain⟨l,b,xs,zs,rfl,rfl,hH,hB,hz,q⟩:=h
 cases rx
 cases ry
 obtain⟨z,its,n,r,hl,e⟩:=I.lstM hH
 obtain⟨z2,its2,n2,r2,hl2,e2⟩:=I.lstM hB
 refine PySem.P.add_list e e2 ?_ (by rw [List.size_toArray,List.size_toArray];omega)
 have ea:its.toArray ++ its2.toArray=(its ++ its2).toArray:=by simp
 rw [ea]
 exact⟨.ref _,_,I.lnew (t':=s.toks) (r.append r2) (by rw [List.length_append];omega),rfl,q _ I.fresh⟩
end
section
variable {prog:Program} {w:World} {A:Around} {E:Value->Shared->Prop} {s:Shared}
end
section
variable {X:Cx}
end
end L2
namespace Att
open PySem PySem.W PySem.Calls PyProof.Rows
theorem Ci {P:Params} {h:Heap}:∀(ns:List Int) (vs:List Value),WellAll P h vs (ns.map WData.int)->IntsAre vs ns:=by
 intro ns
 induction ns with
 | nil=>
  intro vs w
  rw [List.map_nil] at w
  cases w
  exact .nil
 | cons n ns ih=>
  intro vs w
  rw [List.map_cons] at w
  cases w with
  | cons a b=>
   cases a
   exact .cons _ _ (ih _ b)
theorem QX {l:OpenLaw} {n:Nat} (hn:l.most=some n) {P:Params} {h:Heap} {args:List WData} {vals:List Value}
  (hpre:l.row.toRowW.claim.pre args=true) (hwl:WellAll P h vals args):
  ∃a vs ns,vals=[Value.ref a]/\args=[WData.list (ns.map WData.int)]/\h.get? a=some { cls:=.type "list",data:=.seq vs.toArray }/\IntsAre vs ns/\ns.length<=n:=by
 have hsh:WShape.hasAll [] args [.list .int]=true:=(pre_splitW hpre).1
 have hc:l.pre.holds [] { args:=args }=true:=(pre_splitW hpre).2
 obtain⟨d,r,rfl,h1,h2⟩:=hasAllW_cons hsh
 obtain rfl:=hasAllW_nil h2
 obtain⟨xs,rfl,h3⟩:=hasW_list h1
 obtain⟨ns,rfl⟩:=items_int h3
 have hlen:ns.length<=n:=by
  unfold OpenLaw.pre at hc
  have h4:(WTm.not (.lt (.lit (.int (n:Int))) (.len (.arg 0)))).holds [] { args:=[.list (ns.map .int)] }=true:=by
   have h4:=(holds_andW hc).1
   rw [hn] at h4
   exact h4
  have h5:=condW_of h4 (w_not (w_lt w_lit (w_len_list (w_arg rfl))))
  rw [List.length_map] at h5
  refine Nat.le_of_not_lt fun q=>?_
  have q':(n:Int) <((ns.length:Nat):Int):=by omega
  first
   | (rw [decide_eq_true q'] at h5;exact absurd h5 (by decide))
   | (simp at h5;omega)
 cases hwl with
 | cons w1 w2=>
  cases w2
  cases w1 with
  | list ho hall=>exact⟨_,_,ns,rfl,rfl,ho,Ci ns _ hall,hlen⟩
theorem Qn (l:OpenLaw) (args:List WData):l.row.toRowW.claim.post args (.bool true) args=true:=
 postW_of (r:=l.row.toRowW) (X:=(true == true))
  (show WShape.has [] (.bool true) .bool=true by first | rfl | decide | simp [WShape.has,WShape.arms,WShape.armsAll])
  (show(WTm.eq .res (.lit (.bool true))).value [] { args:=args,res:=some (.bool true),after:=args }=some (.bool (true == true)) from w_eq_bool (w_res rfl) w_lit) rfl
theorem Lb {l:OpenLaw} {n:Nat} {q:Program} {loose:List Str} {XP:(Str->Option Value)->Heap->Prop} {YP:World->Heap->Prop} {d:DefRec}
  (hn:l.most=some n) (hdf:d.params.defaults=[])
  (call:∀(w:World) (s₀ s₁:Shared) (mg mb:Str->Option Value) (fa:Addr) (o:Obj) (pm cd doc:Value) (a:Addr) (vs:List Value) (ns:List Int),
   Ground q loose [] XP w s₀ mg mb s₁.heap->YP w s₁.heap->
   s₁.heap.get? fa=some o->o.data=.func (docDef d.name d.params d.body d.scope pm cd doc)->s₁.heap.CodeRec cd d.name->mg d.name=some (.ref fa)->
   s₁.heap.get? a=some { cls:=.type "list",data:=.seq vs.toArray }->IntsAre vs ns->ns.length<=n->s₁.gens= #[]->
   codeAny (model l.prog w) callerA (.call (.ref fa) ⟨[.ref a],[]⟩) (fun r s'=>r=.ok (.ret (.bool true))/\OldK s₁.heap s'.heap/\s'.os=s₁.os/\AllBare s'.gens) s₁):
  WalkO q loose XP YP l.row.toRowW d [] (fun f vs=>PySem.call f vs):=by
 intro w s₀ s₁ mg mb G Y fa o pm cd doc dV kV ho hd hcd hD hmg hg args vals as hpre hlay hrd hwl hlo
 obtain rfl:dV=.none:=Dflts.none hD hdf
 obtain rfl:kV=.none:=Dflts.noKw hD
 obtain⟨a,vs,ns,rfl,rfl,hobj,hints,hlen⟩:=QX hn hpre hwl
 refine enter_call (codeAny_mono (call w s₀ s₁ mg mb fa o pm cd doc a vs ns G Y ho (fd_plain hd) hcd hmg hobj hints hlen hg) fun r s' hq=>?_)
 obtain⟨rfl,h2,h3,h4⟩:=hq
 exact⟨.inl ⟨.bool true,.bool true,[],rfl,fun _=>rfl,.bool true,Qn l _,fun _=>⟨List.Pairwise.nil,fun _ hm=>(nomatch hm)⟩⟩,h2,h3,h4⟩
section
variable {prog:Program} {w:World} {A:Around} {E:Value->Shared->Prop} {s:Shared} {K:Frag}
end
end Att
namespace L2
open PySem PySem.Spec PyProof.Rows
theorem Hw:∀{vs:List Value} {ns:List Int},IntsAre vs ns->Vals (ns.map V.int) vs
 | _,_,.nil=>.nil
 | _,_,.cons n t h=>.cons ⟨t,rfl⟩ (Hw h)
noncomputable def Only (H:Hp):Prop:=∀b,H b=none∨∃o xs,H b=some (.frz o (.lst xs))
theorem Rh {P:Program} {w:World} {K:PySem.W.Frag} {mg mb:Str->Option Value} {CX:Hy} {k:Nat} {fa a:Addr} {fd:FuncData} {x:Str} {sp:Sp} {s₁:Shared} {vs:List Value} {ns:List Int}
  (KX:K.In s₁.heap) (hns:s₁.heap.Ns mainGlobals mg) (hb:s₁.heap.Ns builtinsNs mb) (hbb:∀x:Str,x≠ "__name__" ->mb x=bootBuiltins x) (hlim:s₁.heap.NoLimit) (hg:s₁.gens= #[])
  (ha:s₁.heap.get? a=some { cls:=.type "list",data:=.seq vs.toArray }) (hi:IntsAre vs ns) (hl:ns.length<=sizeLine) (hr:ji k callerA)
  (F:∀base:Heap,K.In base->base.Ns mainGlobals mg->iK P w K mg base CX k fa fd [x] sp) (hbind:∀(s:Shared) (u:Value),BindsTo s fd ⟨[u],[]⟩ [(x,u)])
  (hsp:∀H:Hp,Only H->bH K H a (ns.map V.int)->sp [.ref a] H (fun v _=>v=.bl true) fun _ _ _=>False)
  (hCX:∀H e s',CX [] H s₁ (fun _ _ _=>False) e s'->False):
  codeAny (model P w) callerA (.call (.ref fa) ⟨[.ref a],[]⟩) (fun r s'=>r=.ok (.ret (.bool true))/\OldK s₁.heap s'.heap/\s'.os=s₁.os/\AllBare s'.gens) s₁:=by
 have rv:=Hw hi
 have lenV:=hi.length
 have core:∀H:Hp,Only H->bH K H a (ns.map V.int)->wC P w H s₁.heap->(∀b,H b≠none->b=a)->(H a≠none->K.lookup a=none)->
   codeAny (model P w) callerA (.call (.ref fa) ⟨[.ref a],[]⟩) (fun r s'=>r=.ok (.ret (.bool true))/\OldK s₁.heap s'.heap/\s'.os=s₁.os/\AllBare s'.gens) s₁:=by
  intro H hO hS hok hA hK
  have base_of:∀{b:Addr} {o:Obj},s₁.heap.get? b=some o->H b=none->(Jr s₁.heap H).get? b=some o:=fun e n=>Tf e n
  have noA:∀{b:Addr} {o:Obj} {es:Array DictEntry} {ep:Nat},s₁.heap.get? b=some o->o.data=.dict es ep->H b=none:=fun {b o es ep} e d=>by
   cases q:H b with
   | none=>rfl
   | some u=>
    have e':b=a:=hA b (by rw [q];simp)
    subst e'
    rw [ha] at e;cases e
    have d':Data.seq vs.toArray _=Data.dict es ep:=d
    cases d'
  have Q3:∀{b:Addr} {m:Str->Option Value},s₁.heap.Ns b m->(Jr s₁.heap H).Ns b m:=fun {b m} ⟨o,es,ep,e,d,r⟩=>⟨o,es,ep,base_of e (noA e d),d,r⟩
  have hKb:K.In (Jr s₁.heap H):=fun b o e=>base_of (KX b o e) (by
   cases q:H b with
   | none=>rfl
   | some u=>
    have e':b=a:=hA b (by rw [q];simp)
    subst e'
    rw [hK (by rw [q];simp)] at e;cases e)
  have hM:Mod K mg (Jr s₁.heap H):=⟨hKb,Q3 hns,⟨mb,Q3 hb,hbb⟩,let ⟨mc,h1,h2⟩:=hlim;⟨mc,Q3 h1,h2⟩⟩
  have e0:MT P w K mg (Jr s₁.heap H) callerA [] s₁ H:=⟨rfl,hM,fun b o e=>Vw e,Nat.le_of_eq (Qg _ _),trivial,fun b hb=>absurd (show b∈([]:List Addr) from hb) (by simp),hok,.of_eq hg⟩
  refine codeAny_mono ((F _ hKb (Q3 hns)).run callerA [] s₁ H ⟨[.ref a],[]⟩ [.ref a] [.ref a] _ _ hr e0 (hbind s₁ (.ref a)) (.cons rfl .nil) (hsp H hO hS)) fun r s' h=>?_
  cases r with
  | error e=>exact(hCX H e s' h).elim
  | ok fl=>
   cases fl with
   | next=>exact False.elim h
   | brk=>exact False.elim h
   | cont=>exact False.elim h
   | ret u=>
    obtain⟨v,H',os,bare,un,hok',r',q⟩:=h
    have q':v=.bl true:=q
    subst q'
    obtain rfl:u=Value.bool true:=r'
    refine⟨rfl,OldK.of_keep fun b o e=>?_,os,bare⟩
    cases q:H b with
    | none=>exact un.keep b o e q (by intro z;exact absurd (show b∈([]:List Addr) from z) (by simp)) (by simp)
    | some u=>
     rcases hO b with z | ⟨ob,xs,z⟩
     ·rw [q] at z;cases z
     ·have z2:=un.frzs b ob _ z
      obtain⟨e1,_⟩:=hok b _ z
      obtain⟨e2,_⟩:=hok' b _ z2
      rw [e] at e1;cases e1
      exact e2
 cases hk:K.lookup a with
 | some o=>
  have e:=KX a o hk
  rw [ha] at e
  cases e
  refine core (fun _=>none) (fun _=>.inl rfl) (.inr ⟨_,vs.toArray,_,hk,rfl,rfl,rfl,by rw [List.size_toArray,lenV];exact hl,by simpa using rv⟩) (fun b u z=>by have z':(none:Option HO)=some u:=z;cases z') (fun b z=>absurd rfl z) fun z=>absurd rfl z
 | none=>
  refine core (fun b=>if b=a then some (.frz { cls:=.type "list",data:=.seq vs.toArray } (.lst (ns.map V.int))) else none) (fun b=>?_) (.inl (.inr ⟨{ cls:=.type "list",data:=.seq vs.toArray },if_pos rfl⟩)) (fun b u z=>?_) (fun b z=>?_) fun _=>hk
  ·by_cases hb:b=a
   ·exact .inr ⟨_,_,if_pos hb⟩
   ·exact .inl (if_neg hb)
  ·by_cases hb:b=a
   ·have z':=(if_pos hb).symm.trans z
    cases z'
    subst hb
    exact⟨ha,by rw [List.length_map];exact hl,vs,_,rv,ha⟩
   ·have z':=(if_neg hb).symm.trans z
    cases z'
  ·by_cases hb:b=a
   ·exact hb
   ·exact absurd (if_neg hb) z
theorem Vj {l:PySem.W.OpenLaw} {n k:Nat} {q:Program} {loose:List Str} {XP:(Str->Option Value)->Heap->Prop} {YP:World->Heap->Prop} {d:DefRec} {K:Params->PySem.W.Frag} {CX:World->Hy} {sp:World->Sp} {x:Str}
  (hn:l.most=some n) (hn2:n<=sizeLine) (hdf:d.params.defaults=[]) (hr:ji k callerA)
  (hY:∀(w:World) (h:Heap),YP w h->(K w.params).In h)
  (F:∀(w:World) (mg:Str->Option Value) (fa:Addr) (h:Heap),(K w.params).In h->h.Ns mainGlobals mg->mg d.name=some (.ref fa)->
   ∃fd:FuncData,(∀(s:Shared) (u:Value),BindsTo s fd ⟨[u],[]⟩ [(x,u)])/\
    ∀base:Heap,(K w.params).In base->base.Ns mainGlobals mg->iK l.prog w (K w.params) mg base (CX w) k fa fd [x] (sp w))
  (hsp:∀(w:World) (H:Hp) (a:Addr) (ns:List Int),ns.length<=n->Only H->bH (K w.params) H a (ns.map V.int)->sp w [.ref a] H (fun v _=>v=.bl true) fun _ _ _=>False)
  (hCX:∀(w:World) (H:Hp) (s:Shared) (e:Value) (s':Shared),CX w [] H s (fun _ _ _=>False) e s'->False):
  PySem.W.WalkO q loose XP YP l.row.toRowW d [] (fun f vs=>PySem.call f vs):=by
 refine Att.Lb hn hdf fun w s₀ s₁ mg mb fa o pm cd doc a vs ns G Y ho hd hcd hmg hobj hints hlen hg=>?_
 have KX:=hY w _ Y
 obtain⟨fd,hb,hF⟩:=F w mg fa _ KX G.T.g hmg
 exact Rh KX G.T.g G.T.b G.T.builtins G.T.nolimit hg hobj hints (Nat.le_trans hlen hn2) hr hF hb (fun H hO hS=>hsp w H a ns hlen hO hS) fun H e s'=>hCX w H s₁ e s'
noncomputable def inClass (s:Stmt) (j:Nat):Stmt:=match s with
 | .ClassDef _ _ _ body _ _ _ _ _ _ _=>body.getD j (.Pass ⟨0,0,0,0⟩)
 | _=>.Pass ⟨0,0,0,0⟩
noncomputable def gW (s:Stmt):Arguments:=match s with
 | .FunctionDef _ a _ _ _ _ _ _ _ _=>a
 | _=>{ posonlyargs:=[],args:=[],vararg:=none,kwonlyargs:=[],kw_defaults:=[],kwarg:=none,defaults:=[] }
noncomputable def fV (s:Stmt):List Stmt:=match s with
 | .FunctionDef _ _ b _ _ _ _ _ _ _=>b
 | _=>[]
noncomputable def aV (s:Stmt):Scope:=match s with
 | .FunctionDef _ _ _ _ _ _ sc _ _ _=>sc
 | _=>{ kind:=.function,names:=[],isGenerator:=false,isCoroutine:=false }
noncomputable abbrev Fw:Hy:=fun _ _ _ _ _ _=>False
noncomputable abbrev E0:XK:=fun _ _ _=>False
theorem ik {X:Cx}:qU Fw X E0:=fun _ _ _ _ _ _ _ h=>h.elim
structure Wf (K:PySem.W.Frag) (x qual:Str) (st:Stmt) (f:Addr) (fd:FuncData):Prop where
 ex:∃(oc:Value) (od:Option Addr) (kV doc pm:Value) (an:Option Addr) (cdv ct:Value) (osl:Array (Option Value)),
  fd=PySem.W.fnOf x qual (gW st) (fV st) (aV st) .none kV doc pm an cdv ct/\K.lookup f=some ⟨oc,od,.func fd,osl⟩/\PySem.W.codeIn K cdv qual=true
 kp:PySem.W.keepIn K (.ref f)=true
section
variable {P:Program} {w:World} {K:PySem.W.Frag} {mg:Str->Option Value} {base:Heap}
theorem Wf.ok {x qual:Str} {st:Stmt} {f:Addr} {fd:FuncData} {N ps:List Str} {k:Nat} {sp:Sp} (F:Wf K x qual st f fd) (S:gm N ps (aV st)) (len:∀vs H Q E,sp vs H Q E->vs.length=ps.length)
  (hbody:∀(cdv:Value) (A:Around) (outer:List Env) (s:Shared) (H:Hp) (vs:List V) (Q:VK) (E:XK),ji k (A.deeper (envOfC qual (aV st) s.heap.objs.size f cdv))->sp vs H Q E->
   ∃t,Pj (Ny Fw P w K mg base N qual (aV st) f cdv A outer s H E).nox (fV st) t/\t { nx:=fun _ H'=>Q .non H',rt:=Q } (start N vs) H):iK P w K mg base Fw (k+1) f fd ps sp:=by
 obtain⟨oc,od,kV,doc,pm,an,cdv,ct,osl,rfl,lk,hcd⟩:=F.ex
 refine WY lk hcd S len fun A outer s H vs Q E hr hsp=>?_
 obtain⟨t,h,q⟩:=hbody cdv A outer s H vs Q E hr hsp
 exact⟨t,h.nox,q⟩
theorem Wf.binds {x qual:Str} {st:Stmt} {f:Addr} {fd:FuncData} {ps:List Str} (F:Wf K x qual st f fd)
  (h:∀(kV doc pm:Value) (an:Option Addr) (cdv ct:Value) (us:List Value),us.length=ps.length->bindArgs (PySem.W.fnOf x qual (gW st) (fV st) (aV st) .none kV doc pm an cdv ct) ⟨us,[]⟩=pure (ps.zip us)):Binds K fd ps []:=by
 obtain⟨oc,od,kV,doc,pm,an,cdv,ct,osl,rfl,lk,hcd⟩:=F.ex
 exact .all (h kV doc pm an cdv ct)
theorem Xv {x qual:Str} {st:Stmt} {f:Addr} {oc:Value} {od an:Option Addr} {osl:Array (Option Value)} {kV doc pm cdv ct:Value} (l:K.lookup f=some ⟨oc,od,.func (PySem.W.fnOf x qual (gW st) (fV st) (aV st) .none kV doc pm an cdv ct),osl⟩)
  (c:PySem.W.codeIn K cdv qual=true) (k:PySem.W.keepIn K (.ref f)=true):Wf K x qual st f (PySem.W.fnOf x qual (gW st) (fV st) (aV st) .none kV doc pm an cdv ct):=⟨⟨oc,od,kV,doc,pm,an,cdv,ct,osl,rfl,l,c⟩,k⟩
end
section
variable {X:Cx}
theorem pv (i:Nat) {x:Str} {pos:Pos} (hN:X.N[i]?=some x:=by rfl) (hv:ZV X.env.scope x:=by first | exact Or.inl rfl | exact Or.inr (Or.inl rfl) | exact Or.inr (Or.inr rfl)) (hd:(x == ("__debug__" :Str))=false:=by decide)
  (hcd:(x == ("__classdict__" :Str))=false:=by decide):PE X (.Name x pos) (yL i):=Yd hN hv hd hcd
end
theorem cB {A B:Prop} (h:B):if false=true then A else B:=by
 rw [if_neg Bool.false_ne_true]
 exact h
theorem gh {A B:Prop} (h:A):if true=true then A else B:=by
 rw [if_pos rfl]
 exact h
theorem iu {c A B:Prop} [Decidable c] (h1:c->A) (h2:¬c->B):if c then A else B:=by
 by_cases h:c
 ·rw [if_pos h]
  exact h1 h
 ·rw [if_neg h]
  exact h2 h
noncomputable def aK (H H':Hp):Prop:=∀b o,H b=some o->H' b=some o
theorem aK.refl (H:Hp):aK H H:=fun _ _ h=>h
theorem aK.trans {H H1 H2:Hp} (a:aK H H1) (b:aK H1 H2):aK H H2:=fun c o h=>b c o (a c o h)
theorem aK.free {H H':Hp} (e:aK H H') {l:Addr} (h:H' l=Option.none):H l=Option.none:=by
 cases q:H l with
 | none=>rfl
 | some o=>
  rw [e l o q] at h
  cases h
theorem aK.seq {K:PySem.W.Frag} {H H':Hp} {a:Addr} {xs:List V} (e:aK H H') (h:bH K H a xs):bH K H' a xs:=by
 rcases h with (h | ⟨o,h⟩) | h
 ·exact .inl (.inl (e _ _ h))
 ·exact .inl (.inr ⟨o,e _ _ h⟩)
 ·exact .inr h
end L2
set_option maxHeartbeats 4000000
namespace L2
open PySem PySem.Spec PyProof.Rows
theorem Qu {P:Program} {w:World} {H:Hp} {h:Heap} {a:Addr} {o:HO} (x:wC P w H h) (hn:H a=none) (new:fJ P w (upd H a o) h a o):wC P w (upd H a o) h:=fun b u e=>by
 by_cases hb:b=a
 ·subst hb;rw [az] at e;cases e;exact new
 ·rw [aM hb] at e
  exact(x b u e).stay (fun c v _ q=>q) (fun c q=>by rw [aM (aD q hn)];exact q) fun c xs q=>by rw [aM (aD q hn)];exact q
theorem DQ {α β:Type} {f:α->β->Sem (ForInStep β)} (g:α->β->β):∀(l:List α) (c:β),(∀x∈l,∀c,f x c=pure (.yield (g x c)))->forIn l c f=pure (l.foldl (fun c x=>g x c) c)
 | [],_,_=>rfl
 | x:: l,c,h=>by
  rw [List.forIn_cons,h x List.mem_cons_self,pure_bind]
  exact DQ g l (g x c) fun y hy=>h y (List.mem_cons_of_mem _ hy)
noncomputable def xr (env:Env) (x:Str×NameKind) (cs:List (Str×Addr)):List (Str×Addr):=
 if x.2=.free then(match env.cells.lookup x.1 with | some c=>(x.1,c):: cs | none=>cs) else cs
noncomputable def clos (env:Env) (l:List (Str×NameKind)) (c:List (Str×Addr)):List (Str×Addr):=l.foldl (fun c x=>xr env x c) c
theorem lA {env:Env} {scope:Scope} (h:∀y∈scope.names,y.2=.free->∃c,env.cells.lookup y.1=some c):closureFor scope env=pure (clos env scope.names []):=by
 simp only [closureFor]
 rw [DQ (xr env) scope.names [] fun x hx c=>?_]
 ·rfl
 ·obtain⟨n,k⟩:=x
  by_cases hk:k=.free
  ·subst hk
   obtain⟨a,ha⟩:=h _ hx rfl
   have ha':env.cells.lookup n=some a:=ha
   simp [cellOf,ha',xr]
  ·have:(k == NameKind.free)=false:=by simpa using hk
   simp [this,xr,hk]
theorem Li {env:Env}:∀(l:List (Str×NameKind)) (c:List (Str×Addr)),(∀y a,c.lookup y=some a->env.cells.lookup y=some a)->∀y a,(clos env l c).lookup y=some a->env.cells.lookup y=some a
 | [],_,h=>h
 | x:: l,c,h=>by
  refine Li l (xr env x c) fun y a e=>?_
  unfold xr at e
  by_cases hk:x.2=.free
  ·rw [if_pos hk] at e
   cases q:env.cells.lookup x.1 with
   | none=>rw [q] at e;exact h y a e
   | some b=>
    rw [q] at e
    by_cases hy:(y == x.1)=true
    ·have:y=x.1:=by simpa using hy
     subst this
     have e':((x.1,b):: c).lookup x.1=some a:=e
     simp [List.lookup_cons] at e'
     rw [q,e']
    ·have hy':(y == x.1)=false:=by simpa using hy
     have e':((x.1,b):: c).lookup y=some a:=e
     rw [List.lookup_cons,hy'] at e'
     exact h y a e'
  ·rw [if_neg hk] at e;exact h y a e
theorem Dm {env:Env}:∀(l:List (Str×NameKind)) (c:List (Str×Addr)) (y:Str),((∃a,c.lookup y=some a)∨∃k∈l,k.1=y/\k.2=.free/\∃a,env.cells.lookup y=some a)->∃a,(clos env l c).lookup y=some a
 | [],_,_,h=>by
  rcases h with h | ⟨k,hk,_⟩
  ·exact h
  ·cases hk
 | x:: l,c,y,h=>by
  refine Dm l (xr env x c) y ?_
  have up:(∃a,c.lookup y=some a)->∃a,(xr env x c).lookup y=some a:=fun⟨a,e⟩=>by
   unfold xr
   split
   ·split
    ·rename_i b q
     by_cases hy:(y == x.1)=true
     ·exact⟨b,by rw [List.lookup_cons,hy]⟩
     ·have hy':(y == x.1)=false:=by simpa using hy
      exact⟨a,by rw [List.lookup_cons,hy'];exact e⟩
    ·exact⟨a,e⟩
   ·exact⟨a,e⟩
  rcases h with h | ⟨k,hk,h1,h2,a,h3⟩
  ·exact .inl (up h)
  ·rcases List.mem_cons.mp hk with e | hk
   ·subst e
    left
    unfold xr
    rw [if_pos h2,h1,h3]
    exact⟨a,by simp [List.lookup_cons]⟩
   ·exact .inr ⟨k,hk,h1,h2,a,h3⟩
theorem vm (scope:Scope) (env:Env) (y:Str):(relabel scope env).names.lookup y=(scope.names.lookup y).map fun k=>if (k == NameKind.free && env.scope.kind == .function && env.kindOf y == some .cell)=true then .cell else k:=by
 show(scope.names.map _).lookup y=_
 induction scope.names with
 | nil=>rfl
 | cons p l ih=>
  obtain⟨n,k⟩:=p
  rw [List.map_cons]
  show List.lookup y ((if (k == NameKind.free && env.scope.kind == .function && env.kindOf n == some .cell)=true then(n,NameKind.cell) else(n,k)):: _)=_
  by_cases hy:(y == n)=true
  ·have:y=n:=by simpa using hy
   subst this
   by_cases hc:(k == NameKind.free && env.scope.kind == .function && env.kindOf y == some .cell)=true
   ·rw [if_pos hc]
    simp only [List.lookup_cons,beq_self_eq_true,Option.map_some]
    rw [if_pos hc]
   ·rw [if_neg hc]
    simp only [List.lookup_cons,beq_self_eq_true,Option.map_some]
    rw [if_neg hc]
  ·have hy':(y == n)=false:=by simpa using hy
   by_cases hc:(k == NameKind.free && env.scope.kind == .function && env.kindOf n == some .cell)=true
   ·rw [if_pos hc]
    simp only [List.lookup_cons,hy']
    exact ih
   ·rw [if_neg hc]
    simp only [List.lookup_cons,hy']
    exact ih
noncomputable def dB (N:List Str) (js:List Nat):List Str:=js.map fun j=>(N[j]?).getD Str.empty
noncomputable def d8 (σ:St) (js:List Nat):St:=js.map fun j=>(σ[j]?).join
noncomputable def Ac (X:Cx) (scope:Scope) (x:Str) (js:List Nat) (cl:List (Str×Addr)) (C:Addr) (s:Shared) (H:Hp) (ex:List Addr):Cx where
 prog:=X.prog
 w:=X.w
 K:=X.K
 mg:=X.mg
 base:=X.base
 A:=X.A
 N:=x:: dB X.N js
 s₀:=s
 H₀:=H
 env:=compEnvC scope cl C X.env
 outer:=X.stack
 stack:=X.stack
 ex:=ex
 fn:=fun _=>false
 calm:=X.calm
 pn:=[]
 xe:=fun _ _=>False
noncomputable def PF (X:Cx) (ifs:List Expr) (t:TT):Prop:=
 ∀(pins:List (Addr×Obj)) (s:Shared) (σ:St) (H:Hp) (Q:Bool->Hp->Prop),Inv X pins σ H s->t σ H Q->
  wpAny (model X.prog X.w) X.A (forIn ifs true fun c r=>if r=true then do let ok <-isTrue c X.env (eval c X.env);pure (ForInStep.yield ok) else pure (ForInStep.yield r)) (TP X pins σ Q) X.xe s
noncomputable def YJ:TT:=fun _ H Q=>Q true H
theorem gM {X:Cx}:PF X [] YJ:=fun _ _ _ H _ I h=>wpAny_pure ⟨H,I,h⟩
theorem vB {X:Cx} {c:Expr} {t:TT} (hc:PT X c t):PF X [c] t:=by
 intro pins s σ H Q I h
 rw [List.forIn_cons,if_pos rfl]
 refine wpAny_bind (wpAny_bind (dO (hc pins s σ H Q I h) fun b s1 q=>wpAny_pure ?_))
 show wpAny (model X.prog X.w) X.A (pure b) (TP X pins σ Q) X.xe s1
 exact wpAny_pure q
inductive CompEnd (js:List Nat) (tt:TT) (te:TE) (σ:St) (Qd:List V->Hp->Prop) (J:It) (H1:Hp):Prop where
 | mk:∀W:Nat->Nat->List V->Hp->Prop,((∃m,W 0 m [] H1))->(∀i m ys H2,W i m ys H2->
 (J.stop i H2/\ys.length<=sizeLine/\Qd ys H2)∨
 (J.go i H2/\ys.length <sizeLine/\∃N:List V->Hp->Prop,(∀ys' H',N ys' H'->∃m',m' <m/\W (i+1) m' ys' H')/\∀x H3,J.yld i H2 x H3->tt (some x:: d8 σ js) H3 fun b H4=>
  if b=true then te (some x:: d8 σ js) H4 fun y H5=>N (ys ++ [y]) H5 else N ys H4))->CompEnd js tt te σ Qd J H1
noncomputable def Wc (js:List Nat) (wi:TI) (tt:TT) (te:TE):TE:=fun σ H Q=>wi σ H (CompEnd js tt te σ fun ys H2=>∀D,H2 D=none->Q (.ref D) (upd H2 D (.lst ys)))
section
variable {X:Cx} {x:Str} {px pos:Pos} {iter elt:Expr} {ifs:List Expr} {scope:Scope} {wi:TI} {tt:TT} {te:TE}
end
section
variable {X:Cx}
theorem jA:vX X (binaryOp .Mult) (rI IntMulOk fun i j=>.int (i * j)):=YB fun _ _ _ _ _ _ _ hc q=>mul_int q hc
noncomputable def WK (_ j:Int):Prop:=0 <j/\j.natAbs.log2 <9000
theorem Te:vX X (binaryOp .FloorDiv) (rI WK fun i j=>.int (i / j)):=YB fun i j _ _ _ _ _ hc q=>by
 have h1:(0:Int) <j:=hc.1
 exact floordiv_int (by omega) (by rw [Int.fdiv_eq_ediv_of_nonneg i (by omega)];exact q) (.inl (PyProof.noPylong_of_log2 hc.2))
theorem Zn {i j:Int} (h0:0 <j) (h:j.natAbs <2 ^ 9000):WK i j:=⟨h0,(Nat.log2_lt (by omega)).mpr h⟩
noncomputable def ZX (K:PySem.W.Frag) (H:Hp) (x:V) (T:String):Prop:=match x with
 | .non=>T= "NoneType"
 | .bl _=>T= "bool"
 | .int _=>T= "int"
 | .str _=>T= "str"
 | .ref p=>(T= "list" /\∃xs,bH K H p xs)∨(T= "tuple" /\∃xs,fH K H p xs)∨(T= "dict" /\∃kvs,H p=some (.dK kvs))
 | _=>False
noncomputable def K1 (a b:String):Bool:=a == b || (a == "bool" && b == "int")
noncomputable def Oi:List String:=["int", "bool", "str", "list", "tuple", "dict"]
noncomputable def qI:List String:=["NoneType", "bool", "int", "str", "list", "tuple", "dict"]
theorem Q8:∀T∈Oi,PySem.W.kitMeta T=true:=by decide +kernel
theorem U9:∀a∈qI,∀b∈Oi,(PySem.fastBuiltinMro a).map (·.contains (.type b))=some (K1 a b):=by decide +kernel
theorem U6 (K:PySem.W.Frag) {a b:String} (ha:a∈qI) (hb:b∈Oi):PySem.W.kitOne K (.type a) (.type b)=some (K1 a b):=by
 unfold PySem.W.kitOne
 by_cases h:(Value.type a == Value.type b)=true
 ·rw [if_pos h]
  have e:a=b:=by
   have:=beq_iff_eq.mp h
   injection this
  subst e
  simp [K1]
 ·rw [if_neg h]
  show(if PySem.W.kitMeta b=true then PySem.W.subIn K (.type a) (.type b) else none)=_
  rw [if_pos (Q8 b hb)]
  exact U9 a ha b hb
theorem zB:jW X (.builtin "isinstance") (fun xs H Q=>∃x Tx T b,xs=[x,.ty T]/\ZX X.K H x Tx/\T∈Oi/\K1 Tx T=b/\Q (.bl b) H):=by
 intro pins s σ H xs us Q I r h
 obtain⟨x,Tx,T,b,rfl,ty,hT,rfl,q⟩:=h
 obtain⟨u,w',rfl,rx,ry⟩:=vals2 r
 cases ry
 have fin:∀{b:Bool},b=K1 Tx T->∀tk,EP X pins σ Q (.bool b) { s with toks:=tk }:=fun e tk=>⟨.bl (K1 Tx T),H,I.tok tk,by rw [e];rfl,q⟩
 have go:∀{P:Heap->Prop},PySem.W.KitX X.K u (.type Tx) P->P s.heap->Tx∈qI->u≠.builtin "__main__.__loader__#opaque" ->wpAny (model X.prog X.w) X.A (call (.builtin "isinstance") [u,.type T]) (EP X pins σ Q) X.xe s:=fun Z p hm hx=>
  PySem.W.kia_one Z I.kIn p (U6 X.K hm hT) hx fun tk=>fin rfl tk
 cases x with
 | non=>cases rx;cases (show Tx= "NoneType" from ty);exact go PySem.W.kitx_none trivial (by decide) (by intro e;cases e)
 | bl b=>cases rx;cases (show Tx= "bool" from ty);exact go PySem.W.kitx_bool trivial (by decide) (by intro e;cases e)
 | int i=>obtain⟨t,rfl⟩:=rx;cases (show Tx= "int" from ty);exact go PySem.W.kitx_int trivial (by decide) (by intro e;cases e)
 | str z=>obtain⟨t,rfl⟩:=rx;cases (show Tx= "str" from ty);exact go PySem.W.kitx_str trivial (by decide) (by intro e;cases e)
 | ref p=>
  cases rx
  rcases ty with ⟨rfl,ys,hq⟩ | ⟨rfl,ys,hq⟩ | ⟨rfl,kvs,hq⟩
  ·obtain⟨its,_,pl,_⟩:=I.list hq
   obtain⟨o,n,e,c,_,_⟩:=pl
   exact go PySem.W.kitx_list ⟨o,e,c⟩ (by decide) (by intro e;cases e)
  ·obtain⟨its,_,⟨o,e,c,_⟩,_⟩:=I.tuple hq
   exact go PySem.W.kitx_tuple ⟨o,e,c⟩ (by decide) (by intro e;cases e)
  ·obtain⟨_,_,_,_,o,_,_,e,ex,_⟩:=I.hok p _ hq
   exact go PySem.W.kitx_dict ⟨o,e,ex.1⟩ (by decide) (by intro e;cases e)
 | _=>exact(show False from ty).elim
inductive S5 (K:PySem.W.Frag) (x:V) (xs:List V) (H:Hp) (Q:VK):Prop where
 | mk:∀z p ys,x=.str z->xs=[.ref p]->bH K H p (ys.map V.str)->(ys.map (·.length)).sum+ys.length * z.length<=16777216->Q (.str (Txt.join z ys)) H->S5 K x xs H Q
noncomputable def rJoin (K:PySem.W.Frag):V->List V->Hp->VK->Prop:=fun x xs H Q=>S5 K x xs H Q
theorem sX:∀{ys:List Str} {us:List Value},Vals (ys.map V.str) us->StrsAre us ys
 | [],us,r=>by rw [List.map_nil] at r;cases r;exact .nil
 | y:: ys,us,r=>by
  rw [List.map_cons] at r
  cases r with
  | cons r1 r2=>
   obtain⟨t,e⟩:=r1
   subst e
   exact .cons y t (sX r2)
theorem VL:MtR X "str.join" (rJoin X.K):=by
 intro pins s σ H x xs v us Q I rx rs h
 obtain⟨z,p,ys,rfl,rfl,hq,hz,q⟩:=h
 obtain⟨t,rfl⟩:=rx
 obtain⟨u,rfl,ru⟩:=vals1 rs
 cases ru
 obtain⟨its,rv,pl,_⟩:=I.list hq
 exact join_list (items:=its.toArray) pl.isList (by simpa using sX rv) hz fun t' k=>⟨.str (Txt.join z ys),H,I.tok k,⟨_,rfl⟩,q⟩
end
theorem XH:bootBuiltins "int" =some (.type "int"):=by decide +kernel
theorem Vn:bootBuiltins "bool" =some (.type "bool"):=by decide +kernel
theorem Rm:bootBuiltins "str" =some (.type "str"):=by decide +kernel
theorem sy:bootBuiltins "list" =some (.type "list"):=by decide +kernel
theorem zF:bootBuiltins "tuple" =some (.type "tuple"):=by decide +kernel
theorem cP:bootBuiltins "len" =some (.builtin "len"):=by decide +kernel
theorem kZ:bootBuiltins "isinstance" =some (.builtin "isinstance"):=by decide +kernel
theorem Xw:bootBuiltins "min" =some (.builtin "min"):=by decide +kernel
theorem Ms:bootBuiltins "max" =some (.builtin "max"):=by decide +kernel
theorem Jf:bootBuiltins "all" =some (.builtin "all"):=by decide +kernel
section
variable {X:Cx} {pos:Pos}
theorem ju {x:Str} {v:V} (hg:Gl X x) (hm:∃u,X.mg x=some u/\RelV v u) (hd:(x == ("__debug__" :Str))=false:=by decide):PE X (.Name x pos) (tC v):=by
 obtain⟨u,h1,h2⟩:=hm
 exact IW hg h1 h2 hd
theorem Cw {x:Str} {T:String} (hg:Gl X x) (hm:X.mg x=none) (hv:bootBuiltins x=some (.type T)) (hn:x≠ "__name__" :=by decide) (hd:(x == ("__debug__" :Str))=false:=by decide):PE X (.Name x pos) (tC (.ty T)):=
 VN hg hm hv rfl hn hd
end
theorem gP {a b:Int} (h: -(2 ^ 64) <a/\a <2 ^ 64:=by decide):IntMulOk a b:=.of_left (intBits_le_64 h.1 h.2)
theorem Ja {a b:Int} (h: -(2 ^ 64) <b/\b <2 ^ 64:=by decide):IntMulOk a b:=.of_right (intBits_le_64 h.1 h.2)
inductive Tn (t:TS) (D:Ends) (σ:St) (H:Hp):Prop where
 | mk:∀J:St->Hp->Prop,t { D with nx:=J } σ H->(∀σ' H',J σ' H'->D.nx σ' H')->Tn t D σ H
noncomputable def Zu (t:TS):TS:=fun D σ H=>Tn t D σ H
theorem fQ {X:Cx} {st:Stmt} {t:TS} (h:PS X st t):PS X st (Zu t):=by
 intro pins s σ H D I hw
 obtain⟨J,h1,h2⟩:=hw
 refine dO (h pins s σ H { D with nx:=J } I h1) fun f s1 q=>?_
 cases f with
 | next=>obtain⟨σ',H',I',q⟩:=q;exact⟨σ',H',I',h2 _ _ q⟩
 | ret v=>exact q
 | brk=>exact q
 | cont=>exact q
theorem dY {c A B:Prop} [Decidable c] (hc:¬c) (h:B):if decide c=true then A else B:=by rw [decide_eq_false hc];exact cB h
theorem xR {c A B:Prop} [Decidable c] (hc:c) (h:A):if decide c=true then A else B:=by rw [decide_eq_true hc];exact gh h
mutual
inductive Dt (K:PySem.W.Frag) (H:Hp):V->PyData->Prop
 | non:Dt K H .non .none
 | bl (b:Bool):Dt K H (.bl b) (.bool b)
 | int (i:Int):Dt K H (.int i) (.int i)
 | str (x:Str):Dt K H (.str x) (.str x)
 | list {p:Addr} {xs:List V} {ds:List PyData}:bH K H p xs->QL K H xs ds->Dt K H (.ref p) (.list ds)
 | tuple {p:Addr} {xs:List V} {ds:List PyData}:fH K H p xs->QL K H xs ds->Dt K H (.ref p) (.tuple ds)
inductive QL (K:PySem.W.Frag) (H:Hp):List V->List PyData->Prop
 | nil:QL K H [] []
 | cons {x:V} {xs:List V} {d:PyData} {ds:List PyData}:Dt K H x d->QL K H xs ds->QL K H (x:: xs) (d:: ds)
end
section
variable {X:Cx} {pins:List (Addr×Obj)} {σ:St} {H:Hp} {s:Shared}
mutual
theorem Dt.reads (I:Inv X pins σ H s):∀{x:V} {d:PyData},Dt X.K H x d->∀{u:Value},RelV x u->∃as,Reads s.heap u d as
 | _,_,.non,_,r=>by cases r;exact⟨_,.none⟩
 | _,_,.bl b,_,r=>by cases r;exact⟨_,.bool b⟩
 | _,_,.int i,_,r=>by obtain⟨t,rfl⟩:=r;exact⟨_,.int i t⟩
 | _,_,.str x,_,r=>by obtain⟨t,rfl⟩:=r;exact⟨_,.str x t⟩
 | _,_,.list hq hd,_,r=>by
  cases r
  obtain⟨its,rv,⟨o,n,e,c,_,d⟩,_⟩:=I.list hq
  obtain⟨as,q⟩:=QL.reads I hd rv
  exact⟨_,.list e c d (by simpa using q)⟩
 | _,_,.tuple hq hd,_,r=>by
  cases r
  obtain⟨its,rv,⟨o,e,c,n,d⟩,_⟩:=I.tuple hq
  obtain⟨as,q⟩:=QL.reads I hd rv
  exact⟨_,.tuple e c d (by simpa using q)⟩
theorem QL.reads (I:Inv X pins σ H s):∀{xs:List V} {ds:List PyData},QL X.K H xs ds->∀{us:List Value},Vals xs us->∃as,ReadsAll s.heap us ds as
 | _,_,.nil,_,r=>by cases r;exact⟨_,.nil⟩
 | _,_,.cons h t,_,r=>by
  cases r with
  | cons r1 r2=>
   obtain⟨as,q⟩:=Dt.reads I h r1
   obtain⟨bs,q'⟩:=QL.reads I t r2
   exact⟨_,.cons q q'⟩
end
inductive Ws (K:PySem.W.Frag) (x:V) (y:V) (H:Hp) (Q:VK):Prop where
 | mk:∀da db,Dt K H x da->Dt K H y db->SeqAt.shaped da=true->SeqAt.shaped db=true->Q (.bl (PyData.eqv da db)) H->Ws K x y H Q
noncomputable def aar (K:PySem.W.Frag):R2:=fun x y H Q=>Ws K x y H Q
inductive WL (K:PySem.W.Frag) (x:V) (y:V) (H:Hp) (Q:VK):Prop where
 | mk:∀da db,Dt K H x da->Dt K H y db->SeqAt.shaped da=true->SeqAt.shaped db=true->Q (.bl (!PyData.eqv da db)) H->WL K x y H Q
noncomputable def Z3 (K:PySem.W.Frag):R2:=fun x y H Q=>WL K x y H Q
theorem Sd (hu:X.A.units+64 <cLine):vX X (compareOp .Eq) (aar X.K):=by
 intro pins s σ H x y v u Q I rx ry h
 obtain⟨da,db,h1,h2,s1,s2,q⟩:=h
 obtain⟨as,r1⟩:=h1.reads I rx
 obtain⟨bs,r2⟩:=h2.reads I ry
 exact eq_dataH r1 r2 s1 s2 hu (cU I q rfl)
theorem Ji (hu:X.A.units+64 <cLine):vX X (compareOp .NotEq) (Z3 X.K):=by
 intro pins s σ H x y v u Q I rx ry h
 obtain⟨da,db,h1,h2,s1,s2,q⟩:=h
 obtain⟨as,r1⟩:=h1.reads I rx
 obtain⟨bs,r2⟩:=h2.reads I ry
 exact ne_dataH r1 r2 s1 s2 hu (cU I q rfl)
end
noncomputable def Z0 (x:Str):It:=⟨fun i _=>i <x.cps.size,fun i H v H'=>H'=H/\∃c,x.cps[i]?=some c/\v=.str ⟨#[c]⟩,fun i _=>x.cps.size<=i⟩
theorem KY {P:Program} {w:World} {K:PySem.W.Frag} {tg:Expr} (it:Addr) (x:Str) (t:Tok) {ty:String} (hty:ty= "str_ascii_iterator" ∨ty= "str_iterator"):Turn P w K tg (Z0 x) [it] it (fun i h=>h.IsStrIter it ty x t i) where
 mem:=by simp
 obj:=fun i h st b hb=>by
  have e:b=it:=by simpa using hb
  subst e
  obtain⟨o,e,c,d⟩:=st
  exact⟨o,e,fun v z=>by rw [d] at z;cases z⟩
 keep:=fun i h h' st k=>by
  obtain⟨o,e,r⟩:=st
  exact⟨o,k it (by simp) o e,r⟩
 item:=by
  intro X hP hw hK hc i pins s σ H E I hf st hg
  subst hP hw hK
  obtain⟨f0,f1,f2,f3,f4,f5⟩:=hf it (by simp)
  have fin:∀(v:Value) (h':Heap) (tk:Nat),SignAt x i v->h'.IsStrIter it ty x t (i+1)->(∀b o,b∉[it]->s.heap.get? b=some o->h'.get? b=some o)->
    ∃u,some v=some u/\wpAny (model X.prog X.w) X.A (letOwnedTupleGo tg (.ref it) u) (fun _ s2=>∃x' H',Inv X pins σ H' s2/\RelV x' u/\(Z0 x).yld i H x' H'/\s2.heap.IsStrIter it ty x t (i+1)/\∀b∈[it],H' b=none) E { s with heap:=h',toks:=tk }:=by
   intro v h' tk hv st' kk
   obtain⟨c,u,hcc,rfl⟩:=hv
   have I1:Inv X pins σ H { s with heap:=h',toks:=tk }:=I.turned (fun b o hb e=>kk b o (by simpa using hb) e) f0 f1 f3 f4 f5
   obtain⟨o,e,c',d⟩:=id st'
   refine⟨_,rfl,KH (s:={ s with heap:=h',toks:=tk }) (n:=ty) e c' d (by rcases hty with rfl | rfl <;> decide) ⟨.str ⟨#[c]⟩,H,I1,⟨u,rfl⟩,⟨rfl,c,hcc,rfl⟩,st',fun b hb=>(hf b hb).1⟩⟩
  rcases hty with rfl | rfl
  ·exact(Walks.strAscii (prog:=X.prog) (w:=X.w) (I.ok.hd hc) it x t).item i s _ _ hg st fun v h' tk hv st' kk=>fin v h' tk hv st' kk
  ·exact(Walks.strWide (prog:=X.prog) (w:=X.w) (I.ok.hd hc) it x t).item i s _ _ hg st fun v h' tk hv st' kk=>fin v h' tk hv st' kk
 done:=by
  intro X hP hw hK hc i pins s σ H E I hf st hg
  subst hP hw hK
  obtain⟨f0,f1,f2,f3,f4,f5⟩:=hf it (by simp)
  have hx:x.cps[i]?=none:=by
   have hg':x.cps.size<=i:=hg
   simp;omega
  rcases hty with rfl | rfl
  ·exact wpAny_pyNext_ascii_end (I.ok.hd hc) st hx fun h' eb=>⟨rfl,I.turned (t':=s.toks) (fun b o hb e=>eb b o hb e) f0 f1 f3 f4 f5⟩
  ·exact wpAny_pyNext_wide_end (I.ok.hd hc) st hx fun h' eb=>⟨rfl,I.turned (t':=s.toks) (fun b o hb e=>eb b o hb e) f0 f1 f3 f4 f5⟩
 self:=fun _ _ _ _ _ st h=>by
  rcases hty with rfl | rfl
  ·exact wpAny_pyIter_striter_ascii st h
  ·exact wpAny_pyIter_striter_wide st h
section
variable {X:Cx} {tg:Expr}
inductive Wh (R:It->Hp->Prop) (x:V) (H1:Hp):Prop where
 | mk:∀z,x=.str z->R (Z0 z) H1->Wh R x H1
noncomputable def aaw (tl:TE):TI:=fun σ H R=>tl σ H fun x H1=>Wh R x H1
theorem XS {l:Expr} {tl:TE} (hl:PE X l tl):PI X tg l (aaw tl):=by
 intro pins s σ H R I h
 refine dO (hl pins s σ H _ I h) fun v s1 hpt=>?_
 obtain⟨x,H1,I1,r1,q1⟩:=hpt
 obtain⟨z,e,q⟩:=q1
 subst e
 obtain⟨t,rfl⟩:=r1
 cases ha:z.cps.all (· <128)
 ·refine wpAny_pyIter_wide ha ?_
  refine⟨s1.heap.objs.size,[s1.heap.objs.size],_,_,H1,rfl,I1.kept (t':=s1.toks) fun b o e=>Heap.get?_push_of_some _ e,KY _ z t (ty:= "str_iterator") (.inr rfl),⟨_,Heap.get?_push_size _ rfl,rfl,rfl⟩,fun b hb=>?_,q⟩
  have e:b=s1.heap.objs.size:=by simpa using hb
  subst e
  exact I1.fpOk (Nat.le_refl _) (I1.hok.fresh (Nat.le_refl _))
 ·refine wpAny_pyIter_ascii ha ?_
  refine⟨s1.heap.objs.size,[s1.heap.objs.size],_,_,H1,rfl,I1.kept (t':=s1.toks) fun b o e=>Heap.get?_push_of_some _ e,KY _ z t (ty:= "str_ascii_iterator") (.inl rfl),⟨_,Heap.get?_push_size _ rfl,rfl,rfl⟩,fun b hb=>?_,q⟩
  have e:b=s1.heap.objs.size:=by simpa using hb
  subst e
  exact I1.fpOk (Nat.le_refl _) (I1.hok.fresh (Nat.le_refl _))
end
theorem yes {A B:Hp->Prop} {σ:St} {H:Hp} (h:A H):YJ σ H (fun b H4=>if b=true then A H4 else B H4):=by
 show if true=true then A H else B H
 exact gh h
section
variable {js:List Nat} {tt:TT} {te:TE} {σ:St} {Qd:List V->Hp->Prop}
theorem jE {lo:Int} {n:Nat} {H:Hp} (Pv:Nat->List V->Hp->Prop) (hn:n<=sizeLine) (h0:Pv 0 [] H) (hl:∀i ys H,Pv i ys H->ys.length<=i)
  (hs:∀i ys H,i <n->Pv i ys H->tt (some (.int (lo+i)):: d8 σ js) H fun b H4=>if b=true then te (some (.int (lo+i)):: d8 σ js) H4 fun y H5=>Pv (i+1) (ys ++ [y]) H5 else Pv (i+1) ys H4)
  (hd:∀ys H,Pv n ys H->Qd ys H):CompEnd js tt te σ Qd (Xn lo n) H:=by
 refine⟨fun i m ys H=>m=n - i/\i<=n/\Pv i ys H,⟨n,by simp,Nat.zero_le _,h0⟩,?_⟩
 rintro i m ys H ⟨rfl,hi,p⟩
 have hlen:=hl i ys H p
 by_cases hlt:i <n
 ·refine .inr ⟨hlt,by omega,Pv (i+1),fun ys' H' p'=>⟨n - (i+1),by omega,rfl,hlt,p'⟩,fun x H' y=>?_⟩
  obtain⟨e,y⟩:=y
  subst e y
  exact hs i ys _ hlt p
 ·have e:i=n:=by omega
  subst e
  exact .inl ⟨Nat.le_refl _,by omega,hd ys H p⟩
theorem eE {K:PySem.W.Frag} {a:Addr} {xs:List V} {H:Hp} (Pv:Nat->List V->Hp->Prop) (hn:xs.length<=sizeLine) (h0:Pv 0 [] H) (hl:∀i ys H,Pv i ys H->ys.length<=i) (hq:∀i ys H,i<=xs.length->Pv i ys H->bH K H a xs)
  (hs:∀i x ys H,xs[i]?=some x->Pv i ys H->tt (some x:: d8 σ js) H fun b H4=>if b=true then te (some x:: d8 σ js) H4 fun y H5=>Pv (i+1) (ys ++ [y]) H5 else Pv (i+1) ys H4)
  (hd:∀ys H,Pv xs.length ys H->Qd ys H):CompEnd js tt te σ Qd (X6 K a) H:=by
 refine⟨fun i m ys H=>m=xs.length - i/\i<=xs.length/\Pv i ys H,⟨xs.length,by simp,Nat.zero_le _,h0⟩,?_⟩
 rintro i m ys H ⟨rfl,hi,p⟩
 have hlen:=hl i ys H p
 have q:=hq i ys H hi p
 by_cases hlt:i <xs.length
 ·refine .inr ⟨⟨xs,xs[i],q,by simp [hlt]⟩,by omega,Pv (i+1),fun ys' H' p'=>⟨xs.length - (i+1),by omega,rfl,hlt,p'⟩,fun x H' y=>?_⟩
  obtain⟨e,y⟩:=y
  subst e
  exact hs i x ys _ (y xs q) p
 ·have e:i=xs.length:=by omega
  subst e
  exact .inl ⟨⟨xs,q,Nat.le_refl _⟩,by omega,hd ys H p⟩
theorem TQ {z:Str} {H:Hp} (Pv:Nat->List V->Hp->Prop) (hn:z.cps.size<=sizeLine) (h0:Pv 0 [] H) (hl:∀i ys H,Pv i ys H->ys.length<=i)
  (hs:∀i c ys H,z.cps[i]?=some c->Pv i ys H->tt (some (.str ⟨#[c]⟩):: d8 σ js) H fun b H4=>if b=true then te (some (.str ⟨#[c]⟩):: d8 σ js) H4 fun y H5=>Pv (i+1) (ys ++ [y]) H5 else Pv (i+1) ys H4)
  (hd:∀ys H,Pv z.cps.size ys H->Qd ys H):CompEnd js tt te σ Qd (Z0 z) H:=by
 refine⟨fun i m ys H=>m=z.cps.size - i/\i<=z.cps.size/\Pv i ys H,⟨z.cps.size,by simp,Nat.zero_le _,h0⟩,?_⟩
 rintro i m ys H ⟨rfl,hi,p⟩
 have hlen:=hl i ys H p
 by_cases hlt:i <z.cps.size
 ·refine .inr ⟨hlt,by omega,Pv (i+1),fun ys' H' p'=>⟨z.cps.size - (i+1),by omega,rfl,hlt,p'⟩,fun x H' y=>?_⟩
  obtain⟨e,c,hc,y⟩:=y
  subst e y
  exact hs i c ys _ hc p
 ·have e:i=z.cps.size:=by omega
  subst e
  exact .inl ⟨Nat.le_refl _,by omega,hd ys H p⟩
end
section
variable {X:Cx}
inductive Wo (x:V) (lo:Option Int) (hi:Option Int) (H:Hp) (Q:VK):Prop where
 | mk:∀z,x=.str z->z.length<=sizeLine->Q (.str (Txt.slice z lo hi)) H->Wo x lo hi H Q
noncomputable def Z1:V->Option Int->Option Int->Hp->VK->Prop:=fun x lo hi H Q=>Wo x lo hi H Q
theorem Uu:SlR X Z1:=by
 intro pins s σ H x v vl vu lo hi sl Q I rx hs pl pu h
 obtain⟨z,rfl,hz,q⟩:=h
 obtain⟨t,rfl⟩:=rx
 refine⟨"str",_,PySem.F.slot_str_getitem.lookup,typeIs_str _ _ _,?_⟩
 have fin:∀t' k,EP X pins σ Q (.str (Txt.slice z lo hi) t') { s with toks:=k }:=fun t' k=>⟨.str _,H,I.tok k,⟨_,rfl⟩,q⟩
 cases pl with
 | none=>
  cases pu with
  | none=>exact wpAny_getItem_str_slice (l:=none) (u:=none) (st:=none) hs rfl (post_val_or_str ⟨Nat.le_trans (Txt.slice_le z _ _) hz,fin⟩)
  | int j tj=>exact wpAny_getItem_str_slice (l:=none) (u:=some (j,tj)) (st:=none) hs rfl (post_val_or_str ⟨Nat.le_trans (Txt.slice_le z _ _) hz,fin⟩)
 | int i ti=>
  cases pu with
  | none=>exact wpAny_getItem_str_slice (l:=some (i,ti)) (u:=none) (st:=none) hs rfl (post_val_or_str ⟨Nat.le_trans (Txt.slice_le z _ _) hz,fin⟩)
  | int j tj=>exact wpAny_getItem_str_slice (l:=some (i,ti)) (u:=some (j,tj)) (st:=none) hs rfl (post_val_or_str ⟨Nat.le_trans (Txt.slice_le z _ _) hz,fin⟩)
theorem yu (hc:X.calm=true):jW X (.builtin "all") (fun xs H Q=>∃(p:Addr) (bs:List Bool),xs=[.ref p]/\bH X.K H p (bs.map V.bl)/\Q (.bl (bs.all id)) H):=by
 intro pins s σ H xs us Q I r h
 obtain⟨p,bs,rfl,hq,q⟩:=h
 obtain⟨u,rfl,rx⟩:=vals1 r
 cases rx
 obtain⟨its,rv,pl,_⟩:=I.list hq
 have hl:=pl.isList
 have hlt:p <s.heap.objs.size:=by obtain⟨_,e,_⟩:=hl;exact Heap.lt_size e
 have hb:∀i v,its[i]?=some v->∃b,bs[i]?=some b/\v=Value.bool b:=fun i v e=>by
  have hi:i <its.length:=(List.getElem?_eq_some_iff.mp e).1
  have hi':i <bs.length:=by have:=rv.length;rw [List.length_map] at this;omega
  obtain⟨u,e',r'⟩:=rv.get (i:=i) (x:=.bl bs[i]) (by rw [List.getElem?_map,List.getElem?_eq_getElem hi'];rfl)
  rw [e] at e'
  cases e'
  exact⟨bs[i],List.getElem?_eq_getElem hi',r'⟩
 refine call_all_walk (wpAny_pyIter_list hl ?_)
 refine⟨s.heap.objs.size,[s.heap.objs.size,p],[s.heap.objs.size],its.toArray.size,_,_,fun i=>(bs[i]?).getD true,rfl,Walks.list (A:=X.A.in1) (I.ok.hd hc) _ p (Nat.ne_of_lt hlt) its.toArray,
  ⟨⟨_,Heap.get?_push_size _ rfl,rfl,rfl⟩,hl.push _⟩,fun i v s' Q' E' hP hQ=>?_,fun h' tk hk=>?_⟩
 ·obtain⟨b,e,rfl⟩:=hb i v (by simpa using hP)
  simp only [e,Option.getD_some] at hQ
  exact wpAny_truthy_bool hQ
 ·have e:((List.range its.toArray.size).all fun i=>(bs[i]?).getD true)=bs.all id:=by
   have hlen:=rv.length
   rw [List.length_map] at hlen
   rw [List.size_toArray,<-hlen];exact LSm.range_all bs
  rw [e]
  exact⟨.bl _,H,I.kept (LSm.kept_iter hk),rfl,q⟩
end
end L2
namespace L2
open PySem PySem.StrLaws PySem.Builtin PySem.Builtin.Str
end L2
namespace L2
open PySem
theorem aB {H:L2.Hp} {p:Addr} {o:L2.HO} (hp:H p=none):L2.aK H (L2.upd H p o):=fun b o' e=>by rw [L2.aM (L2.aD e hp)];exact e
end L2
namespace L2
open PySem PySem.SeqAt
open AutoSeq1 (wpAny_loadPart')
open MeetsSeq MeetsSeq2 MeetsSeq3 SeqRoads2
section
variable {A:Around} {s:Shared}
end
open PySem.Spec PyProof.Rows
end L2
namespace L2
open PySem PySem.Spec PyProof.Rows
structure MethAt (P:Program) (w:World) (K:PySem.W.Frag) (mg:Str->Option Value) (base:Heap) (CX:Hy) (k:Nat) (C:Addr) (m:Str) (sp:Sp):Prop where
 ex:∃(f:Addr) (fd:FuncData) (ps:List Str),QB K C/\Meth K C m f/\Binds K fd ps []/\iK P w K mg base CX k f fd ps sp
inductive Oj (P:Program) (w:World) (K:PySem.W.Frag) (mg:Str->Option Value) (base:Heap) (CX:Hy) (k:Nat) (m:Str) (E:XK) (t:TA) (σ:St) (Q:VK) (x:V) (H1:Hp):Prop where
 | mk:∀a C dx fs sp,x=.ref a->H1 a=some (.ins C dx fs)->fs.lookup m=none->MethAt P w K mg base CX k C m sp->(t σ H1 fun vs H2=>sp (x:: vs) H2 Q E)->Oj P w K mg base CX k m E t σ Q x H1
noncomputable def N5 (P:Program) (w:World) (K:PySem.W.Frag) (mg:Str->Option Value) (base:Heap) (CX:Hy) (k:Nat) (m:Str) (E:XK) (ta:TE) (t:TA):TE:=fun σ H Q=>ta σ H fun x H1=>Oj P w K mg base CX k m E t σ Q x H1
section
variable {X:Cx} {CX:Hy} {k:Nat} {E:XK} {m:Str} {pos apos:Pos} {e o:Expr} {es:List Expr} {ta:TE} {t:TA}
theorem yR {pl:Sem Bool} (he:PE X o ta) (hr:ji k X.A) (hx:qU CX X E) (ha:PA X (e:: es) t)
  (hst:starEach (e:: es) X.env=(false,eval e X.env):: starEach es X.env:=by rfl) (hpl:(backTo pos (starEach es X.env)).any (·.1)=false:=by rfl)
  (ht:eval (.Call (.Attribute o m apos) (e:: es) [] pos) X.env=(do
   let ov <-eval o X.env
   standAt apos.atName
   let (f,first) <-holding [ov] (getMethod ov m pl)
   callWith pos f first (backTo pos (starEach (e:: es) X.env)) (backToKw pos (keywordEach [] X.env))):=by rfl):
  PE X (.Call (.Attribute o m apos) (e:: es) [] pos) (N5 X.prog X.w X.K X.mg X.base CX k m E ta t):=by
 intro pins s σ H Q I h
 refine PySem.W.methodCall_KW (pl:=pl) (dO (he pins s σ H _ I h) fun u s1 hpt=>?_) ht
 obtain⟨x,H1,I1,rx,a,C,dx,fs,sp,ex,ea,l,⟨f,fd,ps,c,hm,hb,F⟩,q⟩:=hpt
 subst ex
 obtain rfl:u=Value.ref a:=rx
 refine tD I1 ea c hm l ?_
 refine PySem.W.callWith_K (first:=[.ref a]) (h₀:=X.base) I.ok.mod.kin hm.kp (dO (ha pos pins s1 σ H1 _ I1 q) fun us s2 ⟨vs,H2,I2,r,q2⟩=>⟨I2.kIn,?_⟩) hst hpl
 exact Ey (us:=.ref a:: us) (vs:=.ref a:: vs) (ds:=[]) (dvs:=[]) F hr hb .nil hx I2 (.cons rfl r) (by rw [List.append_nil];exact q2)
theorem Hh {pl:Sem Bool} (he:PE X o ta) (hr:ji k X.A) (hx:qU CX X E)
  (ht:eval (.Call (.Attribute o m apos) [] [] pos) X.env=(do
   let ov <-eval o X.env
   standAt apos.atName
   let (f,first) <-holding [ov] (getMethod ov m pl)
   callWith pos f first (backTo pos (starEach [] X.env)) (backToKw pos (keywordEach [] X.env))):=by rfl):
  PE X (.Call (.Attribute o m apos) [] [] pos) (N5 X.prog X.w X.K X.mg X.base CX k m E ta Q6):=by
 intro pins s σ H Q I h
 refine PySem.W.methodCall_KW (pl:=pl) (dO (he pins s σ H _ I h) fun u s1 hpt=>?_) ht
 obtain⟨x,H1,I1,rx,a,C,dx,fs,sp,ex,ea,l,⟨f,fd,ps,c,hm,hb,F⟩,q⟩:=hpt
 subst ex
 obtain rfl:u=Value.ref a:=rx
 refine tD I1 ea c hm l ?_
 exact PySem.W.callWith_K0 (first:=[.ref a]) I1.kIn hm.kp (Ey (us:=[.ref a]) (vs:=[.ref a]) (ds:=[]) (dvs:=[]) F hr hb .nil hx I1 (.cons rfl .nil) (by rw [List.append_nil];exact q))
end
section
variable {X:Cx}
theorem RQ:bootBuiltins "range" =some (.type "range"):=by decide +kernel
theorem Km:jW X (.type "range") (fun xs H Q=>∃j:Int,xs=[.int j]/\∀r,H r=none->Q (.ref r) (upd H r (.rng 0 j))):=by
 intro pins s σ H xs us Q I r h
 obtain⟨j,rfl,q⟩:=h
 obtain⟨u,rfl,t,rfl⟩:=vals1 r
 refine call_range_1 ⟨.ref s.heap.objs.size,upd H s.heap.objs.size (.rng 0 j),I.laid (fun b o e=>Heap.get?_push_of_some _ e) (Nat.le_refl _) ?_,rfl,q _ (I.hok.fresh (Nat.le_refl _))⟩
 exact⟨_,_,_,Heap.get?_push_size _ rfl⟩
noncomputable def Uz (n:Nat):List V:=(List.range n).map fun i=>V.int (i:Nat)
theorem Vc (n:Nat):(Uz n).length=n:=by simp [Uz]
theorem Ra:∀(n:Nat) (us:List Value),us.length=n->(∀(j:Nat) (v:Value),us[j]?=some v->∃t,v=.int (j:Nat) t)->Vals (Uz n) us:=by
 intro n
 induction n with
 | zero=>intro us hl _;cases us with | nil=>exact .nil | cons _ _=>cases hl
 | succ n ih=>
  intro us hl h
  have e1:Uz (n+1)=Uz n ++ [V.int (n:Nat)]:=by simp [Uz,List.range_succ]
  have hn:n <us.length:=by omega
  have e2:us=us.take n ++ [us[n]]:=by
   have:=List.take_append_drop n us
   rw [List.drop_eq_getElem_cons hn] at this
   rw [List.drop_eq_nil_of_le (by omega)] at this
   exact this.symm
  rw [e1,e2]
  refine Vals.append (ih _ (by simp;omega) fun j v e=>?_) (.cons ?_ .nil)
  ·rw [List.getElem?_take] at e
   split at e
   ·exact h j v e
   ·cases e
  ·obtain⟨t,e⟩:=h n us[n] (by simp [hn])
   exact⟨t,e⟩
theorem Gz (hc:X.calm=true):jW X (.type "list") (fun xs H Q=>∃(r:Addr) (n:Nat),xs=[.ref r]/\H r=some (.rng 0 n)/\n<=1000000/\∀l,H l=none->Q (.ref l) (upd H l (.lst (Uz n)))):=by
 intro pins s σ H xs us Q I rx h
 obtain⟨r,n,rfl,hr,hn,q⟩:=h
 obtain⟨u,rfl,ru⟩:=vals1 rx
 cases ru
 have hl:sizeLine=16777216:=sizeLine_eq
 obtain⟨t,u,v,e⟩:=(show fJ X.prog X.w H s.heap r (.rng 0 n) from I.hok r _ hr)
 refine call_list_range (n:=n) (I.ok.hd hc) e (small_one (by omega) (by omega) (by omega) (by omega)) (by rw [rangeSize_one];split <;> omega) (by omega) fun h' tk acc' c' kp e' hi=>?_
 refine⟨.ref s.heap.objs.size,_,I.laid (t':=tk) kp (Nat.le_refl _) (show fJ X.prog X.w _ h' _ (.lst (Uz n)) from⟨by rw [Vc];omega,acc'.toList,c',Ra n _ (by simpa using hi.1) fun j v ej=>?_,by simpa using e'⟩),rfl,q _ (I.hok.fresh (Nat.le_refl _))⟩
 obtain⟨t,ev⟩:=hi.2 j v (by simpa using ej)
 exact⟨t,by rw [ev];congr 1;omega⟩
end
inductive jJ (w:World) (K:PySem.W.Frag):List DictEntry->List (Str×List Int)->Prop
 | nil:jJ w K [] []
 | cons {x:Str} {t:Tok} {ad:Addr} {ns:List Int} {es:List DictEntry} {rows:List (Str×List Int)} {h:Int} {its:Array Value} {n:Nat} {o:Obj}:
   h=hashStr w x->K.lookup ad=some o->o.cls=.type "tuple" ->o.data=.seq its n->Vals (ns.map V.int) its.toList->ns.length<=1000->jJ w K es rows->jJ w K (⟨h,.str x t,.ref ad⟩:: es) ((x,ns):: rows)
inductive KTab (w:World) (K:PySem.W.Frag) (a:Addr) (rows:List (Str×List Int)):Prop where
 | mk:∀(o:Obj) (es:Array DictEntry) (ep:Nat),K.lookup a=some o->o.cls=.type "dict" ->o.dict=none->o.slots= #[]->o.data=.dict es ep->(a == sysModules)=false->jJ w K es.toList rows->(rows.map (·.1)).Nodup->KTab w K a rows
theorem KTab.mk' {w:World} {K:PySem.W.Frag} {a:Addr} {rows:List (Str×List Int)} {o:Obj} {es:Array DictEntry} {ep:Nat} (lk:K.lookup a=some o) (c1:o.cls=.type "dict") (c2:o.dict=none) (c3:o.slots= #[]) (c4:o.data=.dict es ep) (sm:(a == sysModules)=false)
  (rw':jJ w K es.toList rows) (nd:(rows.map (·.1)).Nodup):KTab w K a rows:=⟨o,es,ep,lk,c1,c2,c3,c4,sm,rw',nd⟩
noncomputable def rowOf (rows:List (Str×List Int)) (z:Str):Option (List Int):=(rows.find? fun r=>decide (r.1=z)).map (·.2)
section
variable {P:Program} {w:World} {K:PySem.W.Frag}
theorem jJ.kvs:∀{es:List DictEntry} {rows:List (Str×List Int)},jJ w K es rows->∃kvs:List (Key×Value),Pairs (bV P w) es kvs/\kvs.map (·.1)=rows.map (fun r=>(Sum.inr r.1:Key))/\
  (∀e∈es,∃k,(bV P w).is k e.key=true/\e.hash=(bV P w).hash k)/\
  ∀z,(rowOf rows z=none->valueAt kvs (Sum.inr z)=none)/\∀ns,rowOf rows z=some ns->∃ad,valueAt kvs (Sum.inr z)=some (.ref ad)/\∀H,fH K H ad (ns.map V.int)
 | _,_,.nil=>⟨[],.nil,rfl,fun e he=>(by cases he),fun z=>⟨fun _=>rfl,fun ns e=>by cases e⟩⟩
 | _,_,@jJ.cons _ _ x t ad ns es rows h its n o hh hl hc hdt hv hz hr=>by
  obtain⟨kvs,p,hk,ho,hf⟩:=jJ.kvs hr
  refine⟨(Sum.inr x,.ref ad):: kvs,.cons (lL P w x t) rfl p,by rw [List.map_cons,List.map_cons,hk],fun e he=>?_,fun z=>?_⟩
  ·rcases List.mem_cons.mp he with e1 | he
   ·subst e1
    exact⟨Sum.inr x,lL P w x t,hh⟩
   ·exact ho e he
  ·by_cases hx:x=z
   ·subst hx
    have e1:rowOf ((x,ns):: rows) x=some ns:=by simp [rowOf]
    have e2:valueAt ((Sum.inr x,Value.ref ad):: kvs) (Sum.inr x:Key)=some (.ref ad):=by simp [valueAt]
    rw [e1,e2]
    refine⟨fun e=>by (cases e),fun ms e=>⟨ad,rfl,fun H=>.inr ⟨_,its,n,hl,hc,hdt,?_,?_⟩⟩⟩
    ·have:=hv.length
     have hs:sizeLine=16777216:=sizeLine_eq
     simp at this
     omega
    ·cases e;exact hv
   ·have e1:rowOf ((x,ns):: rows) z=rowOf rows z:=by simp [rowOf,hx]
    have hx':¬(Sum.inr x:Key)=Sum.inr z:=fun q=>hx (Sum.inr.inj q)
    have e2:valueAt ((Sum.inr x,Value.ref ad):: kvs) (Sum.inr z:Key)=valueAt kvs (Sum.inr z):=by simp [valueAt,hx']
    rw [e1,e2]
    exact hf z
theorem KTab.map {a:Addr} {rows:List (Str×List Int)} {h:Heap} (T:KTab w K a rows) (hk:K.In h):∃f:Key->Option Value,h.MapOf (bV P w) a f/\(a == sysModules)=false/\
  ∀z,(rowOf rows z=none->f (Sum.inr z)=none)/\∀ns,rowOf rows z=some ns->∃ad,f (Sum.inr z)=some (.ref ad)/\∀H,fH K H ad (ns.map V.int):=by
 obtain⟨o,es,ep,hl,c1,c2,c3,c4,hs,hr,nd⟩:=T
 obtain⟨kvs,p,hkk,ho,hf⟩:=hr.kvs (P:=P)
 have D:h.DictOf (bV P w) a kvs:=⟨o,es,ep,hk a _ hl,⟨c1,c2,c3⟩,c4,fun e he=>ho e (by simpa using he),p,?_⟩
 ·exact⟨_,D.mapOf,hs,hf⟩
 ·rw [hkk]
  have:rows.map (fun r=>(Sum.inr r.1:Key))=(rows.map (·.1)).map Sum.inr:=by rw [List.map_map];rfl
  rw [this]
  exact List.Pairwise.map _ (fun a b hab e=>hab (Sum.inr.inj e)) nd
end
section
variable {X:Cx} {i o:Expr} {ty td:TE} {pos:Pos}
inductive Wi (w:World) (K:PySem.W.Frag) (Q:VK) (y:V) (x:V) (H2:Hp):Prop where
 | mk:∀a rows z,x=.ref a->KTab w K a rows->y=.str z->Q (.bl (rowOf rows z).isSome) H2->Wi w K Q y x H2
noncomputable def aah (w:World) (K:PySem.W.Frag) (ty td:TE):TE:=fun σ H Q=>ty σ H fun y H1=>td σ H1 fun x H2=>Wi w K Q y x H2
theorem X8 (hi:PE X i ty) (ho:PE X o td):PC X .In i o (aah X.w X.K ty td):=by
 intro pins s σ H Q I h
 refine dO (hi pins s σ H _ I h) fun iv s1 ⟨y,H1,I1,ry,q1⟩=>dO (ho pins s1 σ H1 _ I1 q1) fun u s2 hpt=>?_
 obtain⟨x,H2,I2,rx,a,rows,z,ex,T,ey,q2⟩:=hpt
 subst ex
 subst ey
 obtain rfl:u=Value.ref a:=rx
 obtain⟨t,rfl⟩:=ry
 obtain⟨f,M,hs,hf⟩:=T.map (P:=X.prog) I2.kIn
 refine wpAny_in_of (k:=(Sum.inr z:Key)) (lL X.prog X.w z t) hs M ?_
 refine⟨.bl (rowOf rows z).isSome,H2,I2.tok _,?_,q2⟩
 cases e:rowOf rows z with
 | none=>rw [(hf z).1 e];rfl
 | some ns=>obtain⟨ad,e1,_⟩:=(hf z).2 ns e;rw [e1];rfl
inductive WM (w:World) (K:PySem.W.Frag) (x:V) (y:V) (H:Hp) (Q:VK):Prop where
 | mk:∀a rows z ns,x=.ref a->KTab w K a rows->y=.str z->rowOf rows z=some ns->(∀ad,fH K H ad (ns.map V.int)->Q (.ref ad) H)->WM w K x y H Q
noncomputable def YL (w:World) (K:PySem.W.Frag):R2:=fun x y H Q=>WM w K x y H Q
theorem aaj:Q0 X (YL X.w X.K):=by
 intro value slice pins s σ H x y v u Q I rx ry h hs
 obtain⟨a,rows,z,ns,rfl,T,rfl,e,q⟩:=h
 cases rx
 obtain⟨t,rfl⟩:=ry
 obtain⟨f,M,hsm,hf⟩:=T.map (P:=X.prog) I.kIn
 obtain⟨ad,e1,e2⟩:=(hf z).2 ns e
 exact tail_any M.typeIs PySem.F.slot_dict_getitem.lookup (wpAny_getItem_of (k:=(Sum.inr z:Key)) (lL X.prog X.w z t) M e1 ⟨.ref ad,H,I.tok _,rfl,q ad (e2 H)⟩) hs
theorem VF (ho:PE X o td) (hi:PE X i ty) (hs:PJ i):PE X (.Subscript o i pos) (UW (YL X.w X.K) td ty):=aR aaj ho hi hs
end
noncomputable def yj (K:PySem.W.Frag) (H:Hp) (a:Addr) (xs:List V):Prop:=bH K H a xs∨fH K H a xs
theorem aK.seqT {K:PySem.W.Frag} {H H':Hp} {a:Addr} {xs:List V} (e:aK H H') (h:fH K H a xs):fH K H' a xs:=by
 rcases h with (h | ⟨o,h⟩) | h
 ·exact .inl (.inl (e _ _ h))
 ·exact .inl (.inr ⟨o,e _ _ h⟩)
 ·exact .inr h
theorem aK.seqA {K:PySem.W.Frag} {H H':Hp} {a:Addr} {xs:List V} (e:aK H H') (h:yj K H a xs):yj K H' a xs:=h.elim (fun h=>.inl (e.seq h)) fun h=>.inr (e.seqT h)
noncomputable def lH (p:Addr) (H H':Hp):Prop:=∀b o,b≠p->H b=some o->H' b=some o
theorem lH.refl {p:Addr} (H:Hp):lH p H H:=fun _ _ _ e=>e
theorem lH.trans {p:Addr} {H H1 H2:Hp} (a:lH p H H1) (b:lH p H1 H2):lH p H H2:=fun c o n e=>b c o n (a c o n e)
theorem lH.of_same {p:Addr} {H H1:Hp} (a:aK H H1):lH p H H1:=fun c o _ e=>a c o e
theorem lH.write {p:Addr} {H:Hp} {o:HO}:lH p H (upd H p o):=fun b u n e=>by rw [aM n];exact e
theorem lH.seqT {K:PySem.W.Frag} {H H':Hp} {p a C dx:Addr} {fs:List (Str×V)} {xs:List V} (e:lH p H H') (hp:H p=some (.ins C dx fs)) (h:fH K H a xs):fH K H' a xs:=by
 rcases h with (h | ⟨o,h⟩) | h
 ·exact .inl (.inl (e _ _ (xg h hp (by intro z;cases z)) h))
 ·exact .inl (.inr ⟨o,e _ _ (xg h hp (by intro z;cases z)) h⟩)
 ·exact .inr h
theorem lH.seqL {K:PySem.W.Frag} {H H':Hp} {p a C dx:Addr} {fs:List (Str×V)} {xs:List V} (e:lH p H H') (hp:H p=some (.ins C dx fs)) (h:bH K H a xs):bH K H' a xs:=by
 rcases h with (h | ⟨o,h⟩) | h
 ·exact .inl (.inl (e _ _ (xg h hp (by intro z;cases z)) h))
 ·exact .inl (.inr ⟨o,e _ _ (xg h hp (by intro z;cases z)) h⟩)
 ·exact .inr h
theorem lH.seqA {K:PySem.W.Frag} {H H':Hp} {p a C dx:Addr} {fs:List (Str×V)} {xs:List V} (e:lH p H H') (hp:H p=some (.ins C dx fs)) (h:yj K H a xs):yj K H' a xs:=h.elim (fun h=>.inl (e.seqL hp h)) fun h=>.inr (e.seqT hp h)
theorem Q4 {K:PySem.W.Frag} {H:Hp} {a:Addr} {xs:List V} {Q:VK} (h:yj K H a xs) (k:∀H' u,aK H H'->fH K H' u xs->Q (.ref u) H'):
  ∃p ys,[V.ref a]=[.ref p]/\((bH K H p ys/\∀l,H l=none->Q (.ref l) (upd H l (.tup ys)))∨(fH K H p ys/\Q (.ref p) H)):=by
 rcases h with h | h
 ·exact⟨a,xs,rfl,.inl ⟨h,fun l hl=>k _ _ (aB hl) (fH.of az)⟩⟩
 ·exact⟨a,xs,rfl,.inr ⟨h,k _ _ (aK.refl _) h⟩⟩
theorem wA {X:Cx}:jW X (.type "tuple") (fun xs H Q=>∃a ys,xs=[.ref a]/\yj X.K H a ys/\∀H' u,aK H H'->fH X.K H' u ys->Q (.ref u) H'):=by
 intro pins s σ H xs us Q I r h
 obtain⟨a,ys,rfl,hq,q⟩:=h
 exact Gh pins s σ H _ us Q I r (Q4 hq q)
section
variable {es:List Expr} {env:Env}
theorem cW {a b c}:starEach (.Tuple a b c:: es) env=(false,eval (.Tuple a b c) env):: starEach es env:=rfl
theorem aX {a b}:starEach (.List a b:: es) env=(false,eval (.List a b) env):: starEach es env:=rfl
theorem au {a b c}:starEach (.Constant a b c:: es) env=(false,eval (.Constant a b c) env):: starEach es env:=rfl
theorem aj {a b}:starEach (.Name a b:: es) env=(false,eval (.Name a b) env):: starEach es env:=rfl
theorem bf {a b c d}:starEach (.Call a b c d:: es) env=(false,eval (.Call a b c d) env):: starEach es env:=rfl
theorem bM {a b c d}:starEach (.BinOp a b c d:: es) env=(false,eval (.BinOp a b c d) env):: starEach es env:=rfl
theorem bD {a b c}:starEach (.Attribute a b c:: es) env=(false,eval (.Attribute a b c) env):: starEach es env:=rfl
theorem aF {a b c}:starEach (.Subscript a b c:: es) env=(false,eval (.Subscript a b c) env):: starEach es env:=rfl
theorem fB {a b c d}:starEach (.ListComp a b c d:: es) env=(false,eval (.ListComp a b c d) env):: starEach es env:=rfl
theorem Nr {a b c d}:starEach (.IfExp a b c d:: es) env=(false,eval (.IfExp a b c d) env):: starEach es env:=rfl
end
section
variable {X:Cx} {scope:Scope} {x:Str} {js:List Nat} {cl:List (Str×Addr)} {C:Addr} {s:Shared} {H:Hp} {ex:List Addr}
end
noncomputable def dz (H:Hp):List Addr->List (List V)->Prop:=Paired fun r vs=>H r=some (.tup vs)
theorem dz.same {H H':Hp} (s:aK H H'):∀{rs:List Addr} {vss:List (List V)},dz H rs vss->dz H' rs vss
 | _,_,.nil=>.nil
 | _,_,.cons h t=>.cons (s _ _ h) (dz.same s t)
theorem dz.append {H:Hp}:∀{rs rs':List Addr} {vss vss':List (List V)},dz H rs vss->dz H rs' vss'->dz H (rs ++ rs') (vss ++ vss')
 | _,_,_,_,.nil,q=>q
 | _,_,_,_,.cons h t,q=>.cons h (dz.append t q)
section
variable {X:Cx}
end
section
variable {X:Cx}
end
section
variable {P:Program} {w:World} {K:PySem.W.Frag} {mg:Str->Option Value} {base:Heap} {N:List Str} {qual:Str} {scope:Scope} {f:Addr} {cd:Value} {A:Around} {outer:List Env} {s:Shared} {H:Hp} {E:XK}
end
structure Ui (K:PySem.W.Frag) (C:Addr):Prop where
 ex:∃(nm q:Str) (Nn:Addr) (bs bm bmB:List Value) (hdct:Bool) (sn:List Str) (sub:List Value) (ab:Bool) (col:Option Bool) (dd:Option Addr) (k0 k1 k2 k3 k5:Option Value) (B newId initId:String) (mN:Str->Option Value),
  ExcBaseFacts B newId initId bmB/\bm.contains (.type "BaseException")=true/\mN "__init__" =none/\
  ∀h:Heap,K.In h->h.get? C=some (excClassObj nm q C Nn bs bm hdct sn sub ab col dd k0 k1 k2 k3 k5 newId)/\h.Ns Nn mN/\OwnTail h bmB bm
section
variable {P:Program} {w:World} {K:PySem.W.Frag} {mg:Str->Option Value} {base:Heap} {N:List Str} {qual:Str} {scope:Scope} {f:Addr} {cd:Value} {A:Around} {outer:List Env} {s:Shared} {H:Hp} {E:XK}
end
section
variable {X:Cx} {pins:List (Addr×Obj)} {σ:St} {H:Hp} {s:Shared} {E:Value->Shared->Prop}
end
section
variable {X:Cx} {pins:List (Addr×Obj)} {σ:St} {H:Hp} {s:Shared}
end
structure ExcAt (K:PySem.W.Frag) (C:Addr):Prop where
 ex:∃(nm q:Str) (Nn:Addr) (bs bm:List Value) (hdct:Bool) (sn:List Str) (sub:List Value) (ab:Bool) (col:Option Bool) (dd:Option Addr) (k0 k1 k2 k3 k5:Option Value) (newId:String),bm.contains (.type "BaseException")=true/\
  ∀h:Heap,K.In h->h.get? C=some (excClassObj nm q C Nn bs bm hdct sn sub ab col dd k0 k1 k2 k3 k5 newId)
section
variable {prog:Program} {w:World} {A:Around} {E:Value->Shared->Prop} {h:Heap} {g:Array GenState} {d:Drawn} {t:Nat} {os:OsState} {a:Addr} {o:Obj} {C:Addr}
end
noncomputable abbrev Nq:List Value:=[.type "ValueError",.type "Exception",.type "BaseException",.type "object"]
noncomputable def Q3 (K:PySem.W.Frag) (N:Addr) (x:Str):Option Value:=match K.lookup N with
 | some o=>(match o.data with | .dict es _=>nsFind es x | _=>none)
 | none=>none
theorem SX {K:PySem.W.Frag} {h:Heap} {N:Addr} (X:K.In h) (ok:PySem.W.nsOkIn K N=true):h.nsMap N=Q3 K N:=by
 funext x
 unfold PySem.W.nsOkIn at ok
 split at ok
 ·rename_i look
  unfold Heap.nsMap Q3
  rw [X _ _ look,look]
 ·cases ok
theorem Rz {K:PySem.W.Frag} {N:Addr} {x:Str} (e:PySem.W.nsIn K N x=some none):Q3 K N x=none:=by
 unfold PySem.W.nsIn at e
 split at e
 ·rename_i look
  split at e
  ·cases e
  ·rename_i f
   unfold Q3
   rw [look]
   show nsFind _ _=none
   unfold nsFind findBy
   rw [<-Array.find?_toList,f]
   rfl
 ·cases e
theorem Hq {K:PySem.W.Frag}:∀{l:List Value},PySem.W.tailIn K Nq l=true->l.contains (.type "BaseException")=true
 | [],e=>by simp [PySem.W.tailIn,Nq] at e
 | v:: r,e=>by
  unfold PySem.W.tailIn at e
  rcases Bool.or_eq_true_iff.mp e with z | z
  ·rw [beq_iff_eq.mp z];decide +kernel
  ·split at z
   ·split at z
    ·simp only [Bool.and_eq_true] at z
     rw [List.contains_cons,Hq z.2,Bool.or_true]
    ·cases z
   ·cases z
theorem Ui.ofIn {K:PySem.W.Frag} {C:Addr} (z:PySem.W.excIn K C Nq "ValueError.__new__" =true):Ui K C:=by
 unfold PySem.W.excIn at z
 split at z
 ·rename_i od kd slo look
  split at z
  ·rename_i C1 up a0 a1 a2 a3 nid a5 em es
   simp only [Bool.and_eq_true,beq_iff_eq,Bool.not_eq_true'] at z
   obtain⟨⟨⟨⟨⟨x1,x2⟩,x3⟩,x4⟩,x5⟩,x6⟩:=z
   subst x1 x2
   obtain⟨g1,g2,g3,g4,g5,g6,g7,g8,g9,g10,g11⟩:=kd
   dsimp only at em x3 x5 x6
   subst em x3
   have hs:slo= #[a0,a1,a2,a3,some (.builtin "ValueError.__new__"),a5]:=by
    obtain⟨l⟩:=slo
    simp only at es
    rw [es]
   subst hs
   refine⟨⟨g1,g5,g4,g2,up,Nq,g6,g7,g8,g9,g10,od,a0,a1,a2,a3,a5, "ValueError", "ValueError.__new__", "ValueError.__init__",Q3 K g4,PySem.F.excBase_ValueError,Hq x4,Rz x6,fun h X=>⟨X _ _ look,?_,PySem.W.tail_of_in X x4⟩⟩⟩
   rw [<-SX X x5]
   exact .of_isNs (PySem.W.isNs_of_in X x5)
  ·cases z
 ·cases z
structure XcK (K:PySem.W.Frag) (C:Addr):Prop where
 cls:(PySem.W.clsIn K C).isSome=true
 ga:PySem.W.findIn K (.ref C) "__getattribute__" =some (some (.builtin "BaseException.__getattribute__"))
 gn:PySem.W.findIn K (.ref C) "__getattr__" =some none
 cl:PySem.W.findIn K (.ref C) "__class__" =some (some (.builtin "object.__class__"))
 ob:PySem.W.subIn K (.ref C) (.type "object")=some true
 be:PySem.W.subIn K (.ref C) (.type "BaseException")=some true
section
variable {P:Program} {w:World} {K:PySem.W.Frag} {mg:Str->Option Value} {base:Heap}
end
end L2
namespace L2
open PySem
section
variable {prog:Program} {w:World} {A:Around} {E:Value->Shared->Prop} {h:Heap} {g:Array GenState} {d:Drawn} {t:Nat} {os:OsState}
variable {nm q:Str} {C N:Addr} {bs bm bmB:List Value} {hdct:Bool} {sn:List Str} {sub:List Value} {ab:Bool} {col:Option Bool} {dd:Option Addr} {k0 k1 k2 k3 k5:Option Value} {B newId initId:String}
end
section
variable {prog:Program} {w:World} {A:Around} {E:Value->Shared->Prop} {h:Heap} {g:Array GenState} {d:Drawn} {t:Nat} {os:OsState}
variable {nm q:Str} {C N:Addr} {bs bm bmB:List Value} {hdct:Bool} {sn:List Str} {sub:List Value} {ab:Bool} {col:Option Bool} {dd:Option Addr} {k0 k1 k2 k3 k5:Option Value} {B newId initId:String}
end
end L2
namespace L2
open PySem Builtin Builtin.ObjectAttr
noncomputable def JK:List Value->Bool
 | .ref _:: r=>JK r
 | l=>l == Nq
structure XfK (K:PySem.W.Frag) (C:Addr):Prop where
 xc:XcK K C
 sa:PySem.W.findIn K (.ref C) "__setattr__" =some (some (.builtin "object.__setattr__"))
 ov:(PySem.W.clsIn K C).any (fun cd=>JK cd.mro && cd.hasDict)=true
section
variable {prog:Program} {w:World} {A:Around} {E:Value->Shared->Prop} {h:Heap} {g:Array GenState} {d:Drawn} {t:Nat} {os:OsState} {x C:Addr} {K:PySem.W.Frag} {mA:Str->Option Value} {name:Str} {v:Value}
end
end L2
namespace L2
open PySem PySem.Spec PyProof.Rows
section
variable {X:Cx} {pins:List (Addr×Obj)} {σ:St} {H:Hp} {s:Shared} {a C dx:Addr} {fs:List (Str×V)} {f:Str} {v:V} {A:Around} {E:Value->Shared->Prop}
end
section
variable {X:Cx} {e o value:Expr} {f:Str} {pos pos':Pos} {ta tv:TE}
end
noncomputable def Uh (K:PySem.W.Frag) (C f:Addr):Bool:=match K.lookup C with
 | some o=>(match o.data with
  | .cls kd=>o.cls == .type "type" && kd.mro.head? == some (.ref C) && PySem.W.tailIn K Nq kd.mro.tail && !kd.hasDel && PySem.W.nsOkIn K kd.ns && Q3 K kd.ns "__init__" == some (.ref f) && o.slots.size == 6 && o.slots[4]? == some (some (.builtin "ValueError.__new__"))
  | _=>false)
 | none=>false
structure Fi (K:PySem.W.Frag) (C f:Addr):Prop where
 ex:∃(nm q:Str) (Nn:Addr) (bs bm:List Value) (hdct:Bool) (sn:List Str) (sub:List Value) (ab:Bool) (col:Option Bool) (dd:Option Addr) (k0 k1 k2 k3 k5:Option Value) (mN:Str->Option Value),
  mN "__init__" =some (.ref f)/\∀h:Heap,K.In h->h.get? C=some (excClassObj nm q C Nn bs bm hdct sn sub ab col dd k0 k1 k2 k3 k5 "ValueError.__new__")/\h.Ns Nn mN/\OwnTail h Nq bm
theorem aaA {α:Type}:∀{l:List α},l.length=6->∃a b c d e f,l=[a,b,c,d,e,f]
 | [a,b,c,d,e,f],_=>⟨a,b,c,d,e,f,rfl⟩
theorem Fi.ofIn {K:PySem.W.Frag} {C f:Addr} (z:Uh K C f=true):Fi K C f:=by
 unfold Uh at z
 split at z
 ·rename_i o look
  obtain⟨oc,od,dt,slo⟩:=o
  dsimp only at z
  split at z
  ·rename_i kd
   simp only [Bool.and_eq_true,beq_iff_eq,Bool.not_eq_true'] at z
   obtain⟨⟨⟨⟨⟨⟨⟨x1,x2⟩,x3⟩,x4⟩,x5⟩,x6⟩,x7⟩,x8⟩:=z
   subst x1
   obtain⟨g1,g2,g3,g4,g5,g6,g7,g8,g9,g10,g11⟩:=kd
   dsimp only at x2 x3 x4 x5 x6
   obtain⟨sl⟩:=slo
   obtain⟨a0,a1,a2,a3,a5,rfl⟩:∃a0 a1 a2 a3 a5,sl=[a0,a1,a2,a3,some (.builtin "ValueError.__new__"),a5]:=by
    obtain⟨a0,a1,a2,a3,a4,a5,rfl⟩:=aaA (show sl.length=6 from x7)
    have e:a4=some (.builtin "ValueError.__new__"):=Option.some.inj (show some a4=_ from x8)
    subst e
    exact⟨a0,a1,a2,a3,a5,rfl⟩
   obtain⟨up,rfl⟩:∃up,g3=.ref C:: up:=by
    cases g3 with
    | nil=>cases x2
    | cons v r=>cases (show some v=some (Value.ref C) from x2);exact⟨r,rfl⟩
   subst x4
   refine⟨⟨g1,g5,g4,g2,up,g6,g7,g8,g9,g10,od,a0,a1,a2,a3,a5,Q3 K g4,x6,fun h X=>⟨X _ _ look,?_,PySem.W.tail_of_in X x3⟩⟩⟩
   rw [<-SX X x5]
   exact .of_isNs (PySem.W.isNs_of_in X x5)
  ·cases z
 ·cases z
section
variable {X:Cx} {CX:Hy} {k:Nat} {C B f:Addr} {fd:FuncData} {ps:List Str} {sp:Sp} {E:XK} {x:Str} {p pos apos:Pos} {e:Expr} {es:List Expr} {t:TA}
end
section
variable {X:Cx} {CX:Hy} {k:Nat} {C f:Addr} {fd:FuncData} {ps:List Str} {sp:Sp} {E:XK} {x:Str} {p pos:Pos} {e:Expr} {es:List Expr} {t:TA}
end
section
variable {X:Cx} {C:Addr} {x:Str} {p pos:Pos} {e:Expr} {es:List Expr} {t:TA}
end
end L2
namespace L2
open PySem
noncomputable def Xo (K:PySem.W.Frag) (C:Addr):Bool:=(PySem.W.clsIn K C).isSome && PySem.W.findIn K (.ref C) "__getattribute__" == some (some (.builtin "BaseException.__getattribute__")) && PySem.W.findIn K (.ref C) "__getattr__" == some none &&
 PySem.W.findIn K (.ref C) "__class__" == some (some (.builtin "object.__class__")) && PySem.W.subIn K (.ref C) (.type "object") == some true && PySem.W.subIn K (.ref C) (.type "BaseException") == some true
theorem XcK.ofIn {K:PySem.W.Frag} {C:Addr} (h:Xo K C=true):XcK K C:=by
 simp only [Xo,Bool.and_eq_true,beq_iff_eq] at h
 obtain⟨⟨⟨⟨⟨a,b⟩,c⟩,d⟩,e⟩,f⟩:=h
 exact⟨a,b,c,d,e,f⟩
noncomputable def Yp (K:PySem.W.Frag) (C:Addr):Bool:=Xo K C && PySem.W.findIn K (.ref C) "__setattr__" == some (some (.builtin "object.__setattr__")) && (PySem.W.clsIn K C).any (fun cd=>JK cd.mro && cd.hasDict)
theorem XfK.ofIn {K:PySem.W.Frag} {C:Addr} (h:Yp K C=true):XfK K C:=by
 simp only [Yp,Bool.and_eq_true,beq_iff_eq] at h
 obtain⟨⟨a,b⟩,c⟩:=h
 exact⟨.ofIn a,b,c⟩
end L2
namespace L2
open PySem PySem.Spec PyProof.Rows
section
variable {P:Program} {w:World} {K:PySem.W.Frag} {mg:Str->Option Value} {base:Heap} {N:List Str} {qual:Str} {scope:Scope} {f:Addr} {cd:Value} {A:Around} {outer:List Env} {s:Shared} {H:Hp} {E:XK}
end
section
variable {M:Model} {A:Around} {E:Value->Shared->Prop} {s:Shared} {env:Env} {nm q:Str} {C N:Addr} {bs bm:List Value} {hdct:Bool} {sn:List Str} {sub:List Value} {ab:Bool} {col:Option Bool} {dd:Option Addr} {k0 k1 k2 k3 k5:Option Value} {newId:String}
end
section
variable {P:Program} {w:World} {K:PySem.W.Frag} {mg:Str->Option Value} {base:Heap} {N:List Str} {qual:Str} {scope:Scope} {f:Addr} {cd:Value} {A:Around} {outer:List Env} {s:Shared} {H:Hp} {E:XK}
end
section
variable {M:Model} {A:Around} {E:Value->Shared->Prop} {nm q:Str} {C N:Addr} {bs bm:List Value} {hdct:Bool} {sn:List Str} {sub:List Value} {ab:Bool} {col:Option Bool} {dd:Option Addr} {k0 k1 k2 k3 k5:Option Value} {newId:String}
end
section
variable {P:Program} {w:World} {K:PySem.W.Frag} {mg:Str->Option Value} {base:Heap}
end
theorem Fi.at {K:PySem.W.Frag} {C f:Addr} (c:Fi K C f) {h:Heap} (X:K.In h):ExcAt K C:=by
 obtain⟨nm,q,Nn,bs,bm,hdct,sn,sub,ab,col,dd,k0,k1,k2,k3,k5,mN,_,hf⟩:=c.ex
 exact⟨⟨nm,q,Nn,bs,bm,hdct,sn,sub,ab,col,dd,k0,k1,k2,k3,k5,_,(hf h X).2.2.hasType (X:= "BaseException") (b:=true) (by decide +kernel),fun h X=>(hf h X).1⟩⟩
noncomputable def iOr (a b:TI):TI:=fun σ H R=>a σ H R∨b σ H R
theorem Wq {X:Cx} {tg it:Expr} {a b:TI} (h1:PI X tg it a) (h2:PI X tg it b):PI X tg it (iOr a b):=fun pins s σ H R I h=>h.elim (h1 pins s σ H R I) (h2 pins s σ H R I)
theorem Lq {js:List Nat} {tt:TT} {te:TE} {σ:St} {Qd:List V->Hp->Prop} {K:PySem.W.Frag} {a:Addr} {xs:List V} {H:Hp} (Pv:Nat->List V->Hp->Prop) (hn:xs.length<=sizeLine) (h0:Pv 0 [] H) (hl:∀i ys H,Pv i ys H->ys.length<=i) (hq:∀i ys H,i<=xs.length->Pv i ys H->fH K H a xs)
  (hs:∀i x ys H,xs[i]?=some x->Pv i ys H->tt (some x:: d8 σ js) H fun b H4=>if b=true then te (some x:: d8 σ js) H4 fun y H5=>Pv (i+1) (ys ++ [y]) H5 else Pv (i+1) ys H4)
  (hd:∀ys H,Pv xs.length ys H->Qd ys H):CompEnd js tt te σ Qd (Yj K a) H:=by
 refine⟨fun i m ys H=>m=xs.length - i/\i<=xs.length/\Pv i ys H,⟨xs.length,by simp,Nat.zero_le _,h0⟩,?_⟩
 rintro i m ys H ⟨rfl,hi,p⟩
 have hlen:=hl i ys H p
 have q:=hq i ys H hi p
 by_cases hlt:i <xs.length
 ·refine .inr ⟨⟨xs,xs[i],q,by simp [hlt]⟩,by omega,Pv (i+1),fun ys' H' p'=>⟨xs.length - (i+1),by omega,rfl,hlt,p'⟩,fun x H' y=>?_⟩
  obtain⟨e,y⟩:=y
  subst e
  exact hs i x ys _ (y xs q) p
 ·have e:i=xs.length:=by omega
  subst e
  exact .inl ⟨⟨xs,q,Nat.le_refl _⟩,by omega,hd ys H p⟩
theorem Sv {js:List Nat} {tt:TT} {te:TE} {σ σ0:St} {Qd:List V->Hp->Prop} {K:PySem.W.Frag} {a:Addr} {xs:List V} {H:Hp} {tl:TE} (ht:∀R:V->Hp->Prop,R (.ref a) H->tl σ0 H R) (ha:yj K H a xs) (Pv:Nat->List V->Prop) (hn:xs.length<=sizeLine) (h0:Pv 0 []) (hl:∀i ys,Pv i ys->ys.length<=i)
  (hs:∀i x ys,xs[i]?=some x->Pv i ys->tt (some x:: d8 σ js) H fun b H4=>if b=true then te (some x:: d8 σ js) H4 fun y H5=>H5=H/\Pv (i+1) (ys ++ [y]) else H4=H/\Pv (i+1) ys)
  (hd:∀ys,Pv xs.length ys->Qd ys H):iOr (WW K tl) (ZD K tl) σ0 H (CompEnd js tt te σ Qd):=by
 rcases ha with ha | ha
 ·refine .inl (ht _ ⟨a,rfl,⟨xs,ha⟩,eE (K:=K) (a:=a) (xs:=xs) (fun i ys H'=>H'=H/\Pv i ys) hn ⟨rfl,h0⟩ (fun i ys _ z=>hl i ys z.2) (fun i ys H' _ z=>by rw [z.1];exact ha) (fun i x ys H' hx z=>?_) fun ys H' z=>?_⟩)
  ·obtain⟨rfl,z⟩:=z;exact hs i x ys hx z
  ·obtain⟨rfl,z⟩:=z;exact hd ys z
 ·refine .inr (ht _ ⟨a,rfl,⟨xs,ha⟩,Lq (K:=K) (a:=a) (xs:=xs) (fun i ys H'=>H'=H/\Pv i ys) hn ⟨rfl,h0⟩ (fun i ys _ z=>hl i ys z.2) (fun i ys H' _ z=>by rw [z.1];exact ha) (fun i x ys H' hx z=>?_) fun ys H' z=>?_⟩)
  ·obtain⟨rfl,z⟩:=z;exact hs i x ys hx z
  ·obtain⟨rfl,z⟩:=z;exact hd ys z
theorem yj.len {K:PySem.W.Frag} {H:Hp} {a:Addr} {xs:List V} (h:yj K H a xs):Yo K (.ref a) H xs.length:=h.elim (fun h=>.inl ⟨xs,h,rfl⟩) fun h=>.inr ⟨xs,h,rfl⟩
theorem CV {X:Cx} {K:PySem.W.Frag} (hK:X.K=K):Q0 X (Xx K):=by subst hK;exact aW
theorem nQ {X:Cx} {K:PySem.W.Frag} (hK:X.K=K):Q0 X (Xu K):=by subst hK;exact cj
section
variable {P:Program} {w:World} {K:PySem.W.Frag} {mg:Str->Option Value} {base:Heap} {N:List Str} {qual:Str} {scope:Scope} {f:Addr} {cd:Value} {A:Around} {outer:List Env} {s:Shared} {H:Hp} {E:XK}
end
section
variable {κ:Type} [DecidableEq κ]
noncomputable def bY (kvs:List (κ×V)) (k:κ):Option V:=(kvs.find? fun kv=>decide (kv.1=k)).map (·.2)
noncomputable def putK (kvs:List (κ×V)) (k:κ) (v:V):List (κ×V):=
 if (kvs.any fun kv=>decide (kv.1=k))=true then kvs.map (fun kv=>if kv.1=k then(kv.1,v) else kv) else kvs ++ [(k,v)]
theorem gH {p:κ×V} {r:List (κ×V)} {k:κ} (e:p.1=k):bY (p:: r) k=some p.2:=by simp [bY,List.find?_cons,e]
theorem fX {p:κ×V} {r:List (κ×V)} {k:κ} (e:¬p.1=k):bY (p:: r) k=bY r k:=by simp [bY,List.find?_cons,e]
theorem rN (k:κ):∀kvs:List (κ×V),(kvs.any fun kv=>decide (kv.1=k))=(bY kvs k).isSome
 | []=>rfl
 | p:: r=>by
  rw [List.any_cons]
  by_cases e:p.1=k
  ·simp only [gH e,decide_eq_true e,Bool.true_or,Option.isSome_some]
  ·rw [fX e,decide_eq_false e,Bool.false_or];exact rN k r
theorem Ks (k j:κ) (y:V):∀kvs:List (κ×V),bY (kvs.map fun kv=>if kv.1=k then(kv.1,y) else kv) j=(bY kvs j).map fun x=>if j=k then y else x
 | []=>rfl
 | p:: r=>by
  have ih:=Ks k j y r
  rw [List.map_cons]
  by_cases h:p.1=k
  ·rw [if_pos h]
   by_cases e:p.1=j
   ·rw [gH (p:=(p.1,y)) e,gH e,Option.map_some,if_pos (e.symm.trans h)]
   ·rw [fX (p:=(p.1,y)) e,fX e,ih]
  ·rw [if_neg h]
   by_cases e:p.1=j
   ·rw [gH (p:=p) e,gH e,Option.map_some,if_neg (fun z=>h (e.trans z))]
   ·rw [fX (p:=p) e,fX e,ih]
theorem GK (k j:κ) (y:V):∀kvs:List (κ×V),bY kvs k=none->bY (kvs ++ [(k,y)]) j=if j=k then some y else bY kvs j
 | [],_=>by
  by_cases e:k=j
  ·rw [if_pos e.symm];exact gH (p:=(k,y)) e
  ·rw [if_neg (fun z=>e z.symm)];exact fX (p:=(k,y)) e
 | p:: r,hn=>by
  rw [List.cons_append]
  have hk:¬p.1=k:=fun z=>by rw [gH z] at hn;cases hn
  rw [fX hk] at hn
  have ih:=GK k j y r hn
  by_cases e:p.1=j
  ·rw [gH e,gH e,if_neg (fun z=>hk (e.trans z))]
  ·rw [fX e,fX e,ih]
theorem RJ (kvs:List (κ×V)) (k j:κ) (y:V):bY (putK kvs k y) j=if j=k then some y else bY kvs j:=by
 unfold putK
 by_cases a:(kvs.any fun kv=>decide (kv.1=k))=true
 ·rw [if_pos a,Ks]
  rw [rN] at a
  by_cases e:j=k
  ·obtain⟨x,hx⟩:=Option.isSome_iff_exists.mp a
   rw [if_pos e,e,hx,Option.map_some,if_pos rfl]
  ·rw [if_neg e]
   cases bY kvs j with
   | none=>rfl
   | some x=>rw [Option.map_some,if_neg e]
 ·rw [if_neg a]
  refine GK k j y kvs ?_
  rw [rN] at a
  cases q:bY kvs k with
  | none=>rfl
  | some x=>rw [q] at a;exact(a rfl).elim
theorem lF (kvs:List (κ×V)) (k:κ) (v:V):(putK kvs k v).length<=kvs.length+1:=by
 unfold putK
 split
 ·rw [List.length_map];omega
 ·rw [List.length_append,List.length_cons,List.length_nil];omega
theorem jt {kvs:List (κ×V)} {k:κ} (v:V) (h:bY kvs k=none):putK kvs k v=kvs ++ [(k,v)]:=by
 unfold putK
 rw [rN,h]
 exact if_neg (by decide)
theorem ud.isSome_eq {o:Option V} {u:Option Value} (r:ud o u):o.isSome=u.isSome:=by
 cases o with
 | none=>cases u with
  | none=>rfl
  | some _=>exact(show False from r).elim
 | some _=>cases u with
  | none=>exact(show False from r).elim
  | some _=>rfl
theorem ud.getD {o:Option V} {u:Option Value} {d:V} {d':Value} (r:ud o u) (rd:RelV d d'):RelV (o.getD d) (u.getD d'):=by
 cases o with
 | none=>cases u with
  | none=>exact rd
  | some _=>exact(show False from r).elim
 | some _=>cases u with
  | none=>exact(show False from r).elim
  | some _=>exact r
theorem KV.val {kvs:List (κ×V)} {vs:List (κ×Value)} (r:KV kvs vs) (k:κ):ud (bY kvs k) (valueAt vs k):=by
 unfold KV at r
 induction r with
 | nil=>exact True.intro
 | @cons p q ps qs h t ih=>
  obtain⟨h1,h2⟩:=h
  by_cases e:p.1=k
  ·have e':q.1=k:=h1.symm.trans e
   have b:valueAt (q:: qs) k=some q.2:=by simp [valueAt,List.find?_cons,e']
   rw [gH e,b];exact h2
  ·have e':¬q.1=k:=fun z=>e (h1.trans z)
   have b:valueAt (q:: qs) k=valueAt qs k:=by simp [valueAt,List.find?_cons,e']
   rw [fX e,b];exact ih
theorem KV.any {kvs:List (κ×V)} {vs:List (κ×Value)} (r:KV kvs vs) (k:κ):(kvs.any fun kv=>decide (kv.1=k))=vs.any fun kv=>decide (kv.1=k):=by
 unfold KV at r
 induction r with
 | nil=>rfl
 | cons h t ih=>rw [List.any_cons,List.any_cons,ih,h.1]
theorem KV.repl {kvs:List (κ×V)} {vs:List (κ×Value)} (r:KV kvs vs) (k:κ) {y:V} {u:Value} (ry:RelV y u):
  KV (kvs.map fun kv=>if kv.1=k then(kv.1,y) else kv) (vs.map fun kv=>if kv.1=k then(kv.1,u) else kv):=by
 unfold KV at r ⊢
 induction r with
 | nil=>exact .nil
 | @cons p q ps qs h t ih=>
  rw [List.map_cons,List.map_cons]
  refine .cons ?_ ih
  obtain⟨h1,h2⟩:=h
  by_cases e:p.1=k
  ·rw [if_pos e,if_pos (h1.symm.trans e)];exact⟨h1,ry⟩
  ·rw [if_neg e,if_neg (fun z=>e (h1.trans z))];exact⟨h1,h2⟩
theorem KV.put {kvs:List (κ×V)} {vs:List (κ×Value)} (r:KV kvs vs) (k:κ) {y:V} {u:Value} (ry:RelV y u):KV (putK kvs k y) (stored vs k u):=by
 unfold putK stored
 rw [r.any k]
 by_cases e:(vs.any fun kv=>decide (kv.1=k))=true
 ·rw [if_pos e,if_pos e];exact r.repl k ry
 ·rw [if_neg e,if_neg e];exact Paired.snoc r ⟨rfl,ry⟩
theorem KV.length {kvs:List (κ×V)} {vs:List (κ×Value)} (r:KV kvs vs):kvs.length=vs.length:=Paired.length r
end
theorem Ez {P:Program} {w:World} {k:Key} {u:Value} (r:RelV (kV k) u):(bV P w).is k u=true:=by
 cases k with
 | inl i=>obtain⟨t,e⟩:=(show ∃t,u=Value.int i t from r);subst e;exact Ka P w i t
 | inr x=>obtain⟨t,e⟩:=(show ∃t,u=Value.str x t from r);subst e;exact lL P w x t
theorem Hz {P:Program} {w:World}:∀{ks:List Key} {us:List Value},Vals (ks.map kV) us->ItemsAre (bV P w) ks us
 | [],_,r=>by rw [List.map_nil] at r;cases r;exact .nil
 | k:: ks,_,r=>by
  rw [List.map_cons] at r
  cases r with
  | cons h t=>exact .cons (Ez h) (Hz t)
noncomputable abbrev KT (H:Hp):List (List Key×V)->List (List Key×Addr×Value)->Prop:=Paired fun p q=>p.1=q.1/\H q.2.1=some (.tup (p.1.map kV))/\RelV p.2 q.2.2
theorem KT.val {H:Hp} {kvs:List (List Key×V)} {xs:List (List Key×Addr×Value)} (r:KT H kvs xs) (k:List Key):ud (bY kvs k) ((atKey xs k).map (·.2)):=by
 induction r with
 | nil=>exact True.intro
 | @cons p q ps qs h t ih=>
  obtain⟨h1,_,h2⟩:=h
  by_cases e:p.1=k
  ·have e':q.1=k:=h1.symm.trans e
   have b:atKey (q:: qs) k=some q.2:=by simp [atKey,List.find?_cons,e']
   rw [gH e,b];exact h2
  ·have e':¬q.1=k:=fun z=>e (h1.trans z)
   have b:atKey (q:: qs) k=atKey qs k:=by simp [atKey,List.find?_cons,e']
   rw [fX e,b];exact ih
theorem KT.repl {H:Hp} {kvs:List (List Key×V)} {xs:List (List Key×Addr×Value)} (r:KT H kvs xs) (k:List Key) {y:V} {u:Value} (ry:RelV y u):
  KT H (kvs.map fun kv=>if kv.1=k then(kv.1,y) else kv) (xs.map (putAt k u)):=by
 induction r with
 | nil=>exact .nil
 | @cons p q ps qs h t ih=>
  rw [List.map_cons,List.map_cons]
  refine .cons ?_ ih
  obtain⟨h1,h2,h3⟩:=h
  unfold putAt
  by_cases e:p.1=k
  ·rw [if_pos e,if_pos (h1.symm.trans e)];exact⟨h1,h2,ry⟩
  ·rw [if_neg e,if_neg (fun z=>e (h1.trans z))];exact⟨h1,h2,h3⟩
theorem KT.put {H:Hp} {kvs:List (List Key×V)} {xs:List (List Key×Addr×Value)} (r:KT H kvs xs) (k:List Key) {b:Addr} {y:V} {u:Value} (hb:H b=some (.tup (k.map kV))) (ry:RelV y u):
  KT H (putK kvs k y) (storedH xs k b u):=by
 have e:(kvs.any fun kv=>decide (kv.1=k))=(atKey xs k).isSome:=by
  rw [rN,(r.val k).isSome_eq,Option.isSome_map]
 unfold putK storedH
 rw [e]
 by_cases q:(atKey xs k).isSome=true
 ·rw [if_pos q,if_pos q];exact r.repl k ry
 ·rw [if_neg q,if_neg q];exact Paired.snoc r ⟨rfl,hb,ry⟩
theorem KT.keeps {H H':Hp} {kvs:List (List Key×V)} {xs:List (List Key×Addr×Value)} (r:KT H kvs xs) (ht:∀b ys,H b=some (.tup ys)->H' b=some (.tup ys)):KT H' kvs xs:=
 Paired.mapP r fun _ _ z=>⟨z.1,ht _ _ z.2.1,z.2.2⟩
section
variable {P:Program} {w:World} {H:Hp} {h:Heap} {a:Addr}
theorem Ww {u:HO} (ok:wC P w H h) (e:Rd H a u):fJ P w H h a u:=e.ok ok
theorem vC {kvs:List (Key×V)} (ok:wC P w H h) (e:Rd H a (.dK kvs)):kvs.length<=sizeLine/\(a == sysModules)=false/\∃vs,KV kvs vs/\h.DictOf (bV P w) a vs:=
 show fJ P w H h a (.dK kvs) from Ww ok e
theorem Wb {kvs:List (Key×V)} (ok:wC P w H h) (e:H a=some (.dK kvs)):kvs.length<=sizeLine/\(a == sysModules)=false/\∃vs,KV kvs vs/\h.DictOf (bV P w) a vs:=vC ok (.inl e)
theorem zV {ks:List Key} (ok:wC P w H h) (e:H a=some (.tup (ks.map kV))):(tupleKind (bV P w)).is h ks a:=by
 obtain⟨_,its,r,o,h1,h2,n,h3⟩:=(show fJ P w H h a (.tup (ks.map kV)) from ok a _ e)
 exact⟨o,its.toArray,n,h1,h2,h3,by simpa using Hz r⟩
theorem Dg {kvs:List (List Key×V)} (ok:wC P w H h) (e:Rd H a (.dT kvs)):kvs.length<=sizeLine/\(a == sysModules)=false/\
  ∃xs,KT H kvs xs/\h.DictOfH (tupleKind (bV P w)) a xs:=by
 obtain⟨z,y,xs,r,o,es,ep,h1,h2,h3,h4,h5⟩:=(show fJ P w H h a (.dT kvs) from Ww ok e)
 refine⟨z,y,xs,r,o,es,ep,h1,h2,h3,h4,fun x hx=>?_,h5⟩
 have all:∀{l:List (List Key×V)} {m:List (List Key×Addr×Value)},KT H l m->∀x∈m,(tupleKind (bV P w)).is h x.1 x.2.1:=by
  intro l m q
  induction q with
  | nil=>intro x hx;exact nomatch hx
  | @cons p q ps qs hq t ih=>
   intro x hx
   rcases List.mem_cons.mp hx with e | hx
   ·subst e
    exact zV ok (by rw [<-hq.1];exact hq.2.1)
   ·exact ih x hx
 exact all r x hx
theorem Ys {kvs:List (List Key×V)} (ok:wC P w H h) (e:H a=some (.dT kvs)):kvs.length<=sizeLine/\(a == sysModules)=false/\
  ∃xs,KT H kvs xs/\h.DictOfH (tupleKind (bV P w)) a xs:=Dg ok (.inl e)
end
noncomputable def dM (H:Hp) (a:Addr) (y:V) (r:Option V):Prop:=
 (∃kvs k,Rd H a (.dK kvs)/\y=kV k/\r=bY kvs k)∨∃kvs k b,Rd H a (.dT kvs)/\y=.ref b/\H b=some (.tup (k.map kV))/\r=bY kvs k
noncomputable def n6 (H:Hp) (a:Addr) (y v:V) (H':Hp):Prop:=
 (∃kvs k,H a=some (.dK kvs)/\y=kV k/\kvs.length <sizeLine/\H'=upd H a (.dK (putK kvs k v)))∨
 ∃kvs k b,H a=some (.dT kvs)/\y=.ref b/\H b=some (.tup (k.map kV))/\kvs.length <sizeLine/\H'=upd H a (.dT (putK kvs k v))
theorem dM.k {H:Hp} {a:Addr} {kvs:List (Key×V)} {k:Key} (e:H a=some (.dK kvs)):dM H a (kV k) (bY kvs k):=.inl ⟨kvs,k,.inl e,rfl,rfl⟩
theorem n6.k {H:Hp} {a:Addr} {kvs:List (Key×V)} {k:Key} {v:V} (e:H a=some (.dK kvs)) (hl:kvs.length <sizeLine):n6 H a (kV k) v (upd H a (.dK (putK kvs k v))):=.inl ⟨kvs,k,e,rfl,hl,rfl⟩
section
variable {X:Cx} {pins:List (Addr×Obj)} {σ:St} {H:Hp} {s:Shared} {a:Addr} {y v:V} {u r:Value} {o:Option V} {A:Around} {E:Value->Shared->Prop}
theorem Inv.big (I:Inv X pins σ H s):sysModules <s.heap.objs.size:=by
 have h:mainGlobals <s.heap.objs.size:=(I.mod.glob.keeps I.bk).lt
 exact Nat.lt_trans (by decide) h
theorem GX {Q:Value->Shared->Prop} (hu:A.units+1 <cLine) (I:Inv X pins σ H s) (g:dM H a y (some v)) (ry:RelV y u) (h:∀w' s',Inv X pins σ H s'->RelV v w'->Q w' s'):
  wpAny (model X.prog X.w) A (getItem (.ref a) u) Q E s:=by
 rcases g with ⟨kvs,k,e,ey,l⟩ | ⟨kvs,k,b,e,ey,eb,l⟩
 ·subst ey
  obtain⟨z,hd,vs,rel,dd⟩:=vC I.hok e
  obtain⟨w',hw,rw'⟩:=ud.some_of (v:=v) (o:=valueAt vs k) (by rw [l];exact rel.val k)
  exact wpAny_getItem_of (Ez ry) dd.mapOf hw (h w' _ (I.tok _) rw')
 ·subst ey
  cases (show u=Value.ref b from ry)
  obtain⟨z,hd,xs,rel,dd⟩:=Dg I.hok e
  obtain⟨w',hw,rw'⟩:=ud.some_of (v:=v) (o:=(atKey xs k).map (·.2)) (by rw [l];exact rel.val k)
  obtain⟨p,hp,hp2⟩:=Option.map_eq_some_iff.mp hw
  refine wpAny_getItem_heap (tupleKind_room_in1 hu) (zV I.hok eb) dd hp ?_
  rw [hp2]
  exact h w' _ (I.tok _) rw'
theorem Zg {Q:Value->Shared->Prop} (hu:A.units+1 <cLine) (I:Inv X pins σ H s) (g:dM H a y o) (ry:RelV y u) (h:∀s',Inv X pins σ H s'->Q (.bool o.isSome) s'):
  wpAny (model X.prog X.w) A (compareOp .In u (.ref a)) Q E s:=by
 rcases g with ⟨kvs,k,e,ey,l⟩ | ⟨kvs,k,b,e,ey,eb,l⟩
 ·subst ey
  obtain⟨z,hd,vs,rel,dd⟩:=vC I.hok e
  refine wpAny_in_of (Ez ry) hd dd.mapOf ?_
  rw [<-(rel.val k).isSome_eq,<-l]
  exact h _ (I.tok _)
 ·subst ey
  cases (show u=Value.ref b from ry)
  obtain⟨z,hd,xs,rel,dd⟩:=Dg I.hok e
  refine wpAny_in_heap (tupleKind_room_in1 hu) (zV I.hok eb) hd dd ?_
  have q:=(rel.val k).isSome_eq
  rw [Option.isSome_map] at q
  rw [<-q,<-l]
  exact h _ (I.tok _)
theorem VH {Q:Value->Shared->Prop} (hu:A.units+1 <cLine) (I:Inv X pins σ H s) (g:dM H a y o) (ry:RelV y u) (h:∀s',Inv X pins σ H s'->Q (.bool (!o.isSome)) s'):
  wpAny (model X.prog X.w) A (compareOp .NotIn u (.ref a)) Q E s:=by
 rcases g with ⟨kvs,k,e,ey,l⟩ | ⟨kvs,k,b,e,ey,eb,l⟩
 ·subst ey
  obtain⟨z,hd,vs,rel,dd⟩:=vC I.hok e
  refine wpAny_notIn_of (Ez ry) hd dd.mapOf ?_
  rw [<-(rel.val k).isSome_eq,<-l]
  exact h _ (I.tok _)
 ·subst ey
  cases (show u=Value.ref b from ry)
  obtain⟨z,hd,xs,rel,dd⟩:=Dg I.hok e
  refine wpAny_notIn_heap (tupleKind_room_in1 hu) (zV I.hok eb) hd dd ?_
  have q:=(rel.val k).isSome_eq
  rw [Option.isSome_map] at q
  rw [<-q,<-l]
  exact h _ (I.tok _)
theorem Jq {h':Heap} {t':Nat} {ob:HO} (I:Inv X pins σ H s) (mu:YC (H a)) (hs:Heap.SameBut a s.heap h') (he:∃q,h'.get? a=some q) (new:fJ X.prog X.w (upd H a ob) h' a ob):
  Inv X pins σ (upd H a ob) { s with heap:=h',toks:=t' }:=
 I.write (x:=a) (e:=a) mu (.inl rfl) (fun b q hb z=>(hs.2 b hb).trans z) he new
theorem Tw {P:Program} {w:World} {H':Hp} {h':Heap} {kvs:List (Key×V)} {vs:List (Key×Value)} (z:kvs.length<=sizeLine) (hd:(a == sysModules)=false) (rel:KV kvs vs) (dd:h'.DictOf (bV P w) a vs):
  fJ P w H' h' a (.dK kvs):=⟨z,hd,vs,rel,dd⟩
theorem Hg {H':Hp} {Q:Unit->Shared->Prop} (hu:A.units+1 <cLine) (I:Inv X pins σ H s) (g:n6 H a y v H') (ry:RelV y u) (rv:RelV v r) (h:∀s',Inv X pins σ H' s'->Q () s'):
  wpAny (model X.prog X.w) A (setItem (.ref a) u r) Q E s:=by
 rcases g with ⟨kvs,k,e,ey,l,eH⟩ | ⟨kvs,k,b,e,ey,eb,l,eH⟩
 ·subst ey eH
  obtain⟨z,hd,vs,rel,dd⟩:=Wb I.hok e
  have hz:vs.length<=sizeLine:=by rw [<-rel.length];exact z
  have hl:(putK kvs k v).length<=sizeLine:=by have:=lF kvs k v;omega
  refine wpAny_setItem_pairs (hsz:=hz) (Ez ry) dd fun h' dd' hs=>h _ ?_
  have he:∃q,h'.get? a=some q:=let ⟨q,_,_,hq,_⟩:=dd';⟨q,hq⟩
  exact Jq I (by rw [e];exact True.intro) hs he (Tw hl hd (rel.put k rv) dd')
 ·subst ey eH
  cases (show u=Value.ref b from ry)
  obtain⟨z,hd,xs,rel,dd⟩:=Ys I.hok e
  have hz:xs.length<=sizeLine:=by rw [<-Paired.length rel];exact z
  have hl:(putK kvs k v).length<=sizeLine:=by have:=lF kvs k v;omega
  refine wpAny_setItem_heap (hsz:=hz) (tupleKind_room_in1 hu) (zV I.hok eb) dd fun h' dd' hs=>h _ ?_
  obtain⟨q,es,ep,hq,h2,h3,h4,_,h5⟩:=dd'
  refine Jq I (by rw [e];exact True.intro) hs ⟨q,hq⟩ ⟨hl,hd,_,(rel.put k eb rv).keeps fun c ys ec=>?_,q,es,ep,hq,h2,h3,h4,h5⟩
  rw [aM (xg ec e (fun z=>nomatch z))]
  exact ec
end
section
variable {X:Cx} {pins:List (Addr×Obj)} {σ:St} {H:Hp} {s:Shared} {a:Addr} {kvs:List (Key×V)} {k:Key} {u:Value} {A:Around} {E:Value->Shared->Prop}
end
noncomputable def Y0 (i:Expr):Prop:=∀ov iv,subscripted i false ov iv=operate [ov,iv] (getItem ov iv)
theorem U8 {prog:Program} {w:World} {A:Around} {E:Value->Shared->Prop} {s:Shared} {env:Env} {value slice:Expr} {pos:Pos} {T id:String} {Q:Value->Shared->Prop}
  (hl:typeLookup (.type T) "__getitem__" =pure (some (.builtin id))) (hs:Y0 slice)
  (h:wpAny (model prog w) A (eval value env) (fun o s₁=>wpAny (model prog w) A (eval slice env) (fun i s₂=>s₂.TypeIs o T/\wpAny (model prog w) A (getItem o i) Q E s₂) E s₁) E s):
  wpAny (model prog w) A (eval (.Subscript value slice pos) env) Q E s:=by
 refine Subscript_ (wpAny_mono h (fun o s₁ h₁=>wpAny_mono h₁ (fun i s₂ h₂=>?_) fun _ _ x=>x) fun _ _ x=>x)
 obtain⟨hT,h₂⟩:=h₂
 unfold subscriptTail
 refine wpAny_bind ?_
 rw [getitemInPython_of_ne hT.not_modules]
 refine wpAny_bind (wpAny_specialOf hT hl ?_)
 have fin:wpAny (model prog w) A (subscripted slice false o i) (fun r s₃=>wpAny (model prog w) A (letTemporaryGo value o r >>= fun _=>pure r) Q E s₃) E s₂:=by
  rw [hs o i]
  exact wpAny_operating (wpAny_mono h₂ (fun r s₃ h₃=>wpAny_bind (wpAny_letTemporaryGo (wpAny_pure h₃))) fun _ _ x=>x)
 first
  | exact wpAny_pure (wpAny_bind fin)
  | exact wpAny_bind (wpAny_pure (wpAny_bind fin))
  | exact wpAny_bind fin
theorem K4 {X:Cx} {pins:List (Addr×Obj)} {σ:St} {H:Hp} {s:Shared} {a:Addr} {y:V} {o:Option V} (I:Inv X pins σ H s) (g:dM H a y o):s.TypeIs (.ref a) "dict" :=by
 rcases g with ⟨kvs,k,e,_,_⟩ | ⟨kvs,k,b,e,_,_,_⟩
 ·obtain⟨_,_,vs,_,dd⟩:=vC I.hok e
  exact dd.typeIs
 ·obtain⟨_,_,xs,_,dd⟩:=Dg I.hok e
  exact dd.typeIs
inductive Sh (Q:VK) (x:V) (y:V) (H2:Hp):Prop where
 | mk:∀a v,x=.ref a->dM H2 a y (some v)->Q v H2->Sh Q x y H2
noncomputable def Y9 (td ty:TE):TE:=fun σ H Q=>td σ H fun x H1=>ty σ H1 fun y H2=>Sh Q x y H2
inductive Wl (Q:VK) (y:V) (x:V) (H2:Hp):Prop where
 | mk:∀a o,x=.ref a->dM H2 a y o->Q (.bl o.isSome) H2->Wl Q y x H2
noncomputable def aas (ty td:TE):TE:=fun σ H Q=>ty σ H fun y H1=>td σ H1 fun x H2=>Wl Q y x H2
inductive LQ (Q:VK) (y:V) (x:V) (H2:Hp):Prop where
 | mk:∀a o,x=.ref a->dM H2 a y o->Q (.bl (!o.isSome)) H2->LQ Q y x H2
noncomputable def VG (ty td:TE):TE:=fun σ H Q=>ty σ H fun y H1=>td σ H1 fun x H2=>LQ Q y x H2
inductive Rv (D:Ends) (σ:St) (v:V) (x:V) (y:V) (H3:Hp):Prop where
 | mk:∀a H4,x=.ref a->n6 H3 a y v H4->D.nx σ H4->Rv D σ v x y H3
noncomputable def YZ (td ty tv:TE):TS:=fun D σ H=>tv σ H fun v H1=>td σ H1 fun x H2=>ty σ H2 fun y H3=>Rv D σ v x y H3
inductive TV (tv:TE) (rd:V->V->Hp->VK->Prop) (D:Ends) (σ:St) (x:V) (y:V) (H2:Hp):Prop where
 | mk:∀a v,x=.ref a->dM H2 a y (some v)->(tv σ H2 fun y2 H3=>rd v y2 H3 fun z H4=>∃H5,n6 H4 a y z H5/\D.nx σ H5)->TV tv rd D σ x y H2
noncomputable def Yr (td ty tv:TE) (rd:V->V->Hp->VK->Prop):TS:=fun D σ H=>td σ H fun x H1=>ty σ H1 fun y H2=>TV tv rd D σ x y H2
section
variable {X:Cx} {o i e value:Expr} {pos pos' tpos:Pos} {td ty tv:TE}
theorem bZ (hu:X.A.units+1 <cLine) (ho:PE X o td) (hi:PE X i ty) (hs:Y0 i):PE X (.Subscript o i pos) (Y9 td ty):=by
 intro pins s σ H Q I h
 refine U8 PySem.F.slot_dict_getitem.lookup hs (dO (ho pins s σ H _ I h) fun u s1 ⟨x,H1,I1,rx,q1⟩=>dO (hi pins s1 σ H1 _ I1 q1) fun iv s2 hpt=>?_)
 obtain⟨y,H2,I2,ry,a,v,ex,g,q2⟩:=hpt
 subst ex
 obtain rfl:u=Value.ref a:=rx
 exact⟨K4 I2 g,GX hu I2 g ry fun w' s3 I3 rw'=>⟨v,H2,I3,rw',q2⟩⟩
theorem z6 (hu:X.A.units+1 <cLine) (hi:PE X i ty) (ho:PE X o td):PC X .In i o (aas ty td):=by
 intro pins s σ H Q I h
 refine dO (hi pins s σ H _ I h) fun iv s1 ⟨y,H1,I1,ry,q1⟩=>dO (ho pins s1 σ H1 _ I1 q1) fun u s2 hpt=>?_
 obtain⟨x,H2,I2,rx,a,ov,ex,g,q2⟩:=hpt
 subst ex
 obtain rfl:u=Value.ref a:=rx
 exact Zg hu I2 g ry fun s3 I3=>⟨.bl ov.isSome,H2,I3,rfl,q2⟩
theorem vL (hu:X.A.units+1 <cLine) (hi:PE X i ty) (ho:PE X o td):PC X .NotIn i o (VG ty td):=by
 intro pins s σ H Q I h
 refine dO (hi pins s σ H _ I h) fun iv s1 ⟨y,H1,I1,ry,q1⟩=>dO (ho pins s1 σ H1 _ I1 q1) fun u s2 hpt=>?_
 obtain⟨x,H2,I2,rx,a,ov,ex,g,q2⟩:=hpt
 subst ex
 obtain rfl:u=Value.ref a:=rx
 exact VH hu I2 g ry fun s3 I3=>⟨.bl (!ov.isSome),H2,I3,rfl,q2⟩
theorem fW (hu:X.A.units+1 <cLine) (ho:PE X o td) (hi:PE X i ty) (hv:PE X value tv) (hs:swapsWith value (some (.Subscript o i pos')) pos.line X.env=pure false):
  PS X (.Assign [.Subscript o i pos'] value pos) (YZ td ty tv):=by
 intro pins s σ H D I h
 refine wpAny_Assign_Subscript (dO (hv pins s σ H _ I h) fun r s1 ⟨v,H1,I1,rv,q1⟩=>dO (ho pins s1 σ H1 _ I1 q1) fun u s2 ⟨x,H2,I2,rx,q2⟩=>dO (hi pins s2 σ H2 _ I2 q2) fun iv s3 hpt=>?_) hs
 obtain⟨y,H3,I3,ry,a,H4,ex,g,q3⟩:=hpt
 subst ex
 obtain rfl:u=Value.ref a:=rx
 exact Hg hu I3 g ry rv fun s4 I4=>⟨σ,H4,I4,q3⟩
theorem Ol {op:Operator} {rd:V->V->Hp->VK->Prop} (hu:X.A.units+1 <cLine) (ho:PE X o td) (hi:PE X i ty) (hv:PE X value tv) (hop:Zr X op rd)
  (ha:∀ov iv new,augStore i ov iv new=(do holding [new,ov,iv] (setItem ov iv new);release [new,ov,iv] [];pure .next)):PS X (.AugAssign (.Subscript o i tpos) op value pos) (Yr td ty tv rd):=by
 intro pins s σ H D I h
 refine wpAny_AugAssign_SubscriptAny (dO (ho pins s σ H _ I h) fun u s1 ⟨x,H1,I1,rx,q1⟩=>dO (hi pins s1 σ H1 _ I1 q1) fun iv s2 hpt=>?_) ha
 obtain⟨y,H2,I2,ry,a,v,ex,g,q2⟩:=hpt
 subst ex
 obtain rfl:u=Value.ref a:=rx
 refine GX hu I2 g ry fun w' s3 I3 rw'=>dO (hv pins s3 σ H2 _ I3 q2) fun w2 s4 ⟨y2,H3,I4,ry2,q3⟩=>dO (hop pins s4 σ H3 v y2 w' w2 _ I4 rw' ry2 q3) fun w3 s5 hpt=>?_
 obtain⟨z,H4,I5,rz,H5,g5,q4⟩:=hpt
 exact Hg hu I5 g5 ry rz fun s6 I6=>⟨σ,H5,I6,q4⟩
end
theorem Kc {P:Program} {w:World} {H:Hp} (h:Heap) (hb:sysModules <h.objs.size):fJ P w H (h.push { cls:=.type "dict",data:=.dict #[] }) h.objs.size (.dK []):=
 ⟨Nat.zero_le _,beq_eq_false_iff_ne.mpr (Ne.symm (Nat.ne_of_lt hb)),[],.nil,Heap.DictOf.new h⟩
noncomputable def Yb:TE:=fun _ H Q=>∀p,H p=none->Q (.ref p) (upd H p (.dK []))
section
variable {X:Cx} {pos:Pos}
theorem fD:PE X (.Dict [] [] pos) Yb:=fun pins s σ H Q I h=>
 wpAny_Dict_empty ⟨.ref s.heap.objs.size,_,I.laid (a:=s.heap.objs.size) (o:=.dK []) (t':=s.toks) (fun _ _ q=>Heap.get?_push_of_some _ q) (Nat.le_refl _) (Kc s.heap I.big),rfl,h _ (I.hok.fresh (Nat.le_refl _))⟩
end
noncomputable def MP:List (TE×TE)->St->Hp->(List (V×V)->Hp->Prop)->Prop
 | [],_,H,Q=>Q [] H
 | (tk,tv):: r,σ,H,Q=>tk σ H fun x H1=>tv σ H1 fun y H2=>MP r σ H2 fun ps H3=>Q ((x,y):: ps) H3
noncomputable abbrev VV:List (V×V)->List (Value×Value)->Prop:=Paired fun p q=>RelV p.1 q.1/\RelV p.2 q.2
noncomputable def ZS (X:Cx) (pos:Pos) (keys:List (Option Expr)) (values:List Expr) (trs:List (TE×TE)):Prop:=
 ∀(pins:List (Addr×Obj)) (s:Shared) (σ:St) (H:Hp) (Q:List (V×V)->Hp->Prop),Inv X pins σ H s->MP trs σ H Q->
  wpAny (model X.prog X.w) X.A (evalPairs (pairTrees keys values X.env pos)) (fun vs s'=>∃ps H',Inv X pins σ H' s'/\VV ps vs/\Q ps H') X.xe s
theorem V6 {X:Cx} {pos:Pos}:ZS X pos [] [] []:=fun pins s σ H Q I h=>pairTrees_nil_walk ⟨[],H,I,.nil,h⟩
theorem Us {X:Cx} {pos:Pos} {k v:Expr} {ks:List (Option Expr)} {vs:List Expr} {tk tv:TE} {trs:List (TE×TE)} (hk:PE X k tk) (hv:PE X v tv) (hr:ZS X pos ks vs trs):
  ZS X pos (some k:: ks) (v:: vs) ((tk,tv):: trs):=fun pins s σ H Q I h=>
 pairTrees_cons_walk (dO (hk pins s σ H _ I h) fun u s1 ⟨x,H1,I1,rx,q1⟩=>dO (hv pins s1 σ H1 _ I1 q1) fun w2 s2 ⟨y,H2,I2,ry,q2⟩=>
  dO (hr pins s2 σ H2 _ I2 q2) fun ws s3 ⟨ps,H3,I3,rel,q3⟩=>⟨(x,y):: ps,H3,I3,.cons ⟨rx,ry⟩ rel,q3⟩)
noncomputable def uW (kvs more:List (Key×V)):List (Key×V):=more.foldl (fun acc kv=>putK acc kv.1 kv.2) kvs
theorem KV.merge:∀{more:List (Key×V)} {rs:List (Key×Value)} {kvs:List (Key×V)} {vs:List (Key×Value)},KV more rs->KV kvs vs->KV (uW kvs more) (merged vs rs):=by
 intro more rs kvs vs r
 unfold KV at r
 induction r generalizing kvs vs with
 | nil=>intro q;exact q
 | @cons p q ps qs h t ih=>
  intro r0
  have e:KV (putK kvs p.1 p.2) (stored vs q.1 q.2):=by
   have:=r0.put p.1 h.2
   rw [<-h.1];exact this
  exact ih e
theorem wK:∀(more kvs:List (Key×V)),(uW kvs more).length<=kvs.length+more.length
 | [],kvs=>by show kvs.length<=kvs.length+0;omega
 | p:: r,kvs=>by
  have h1:=wK r (putK kvs p.1 p.2)
  have h2:=lF kvs p.1 p.2
  show(uW (putK kvs p.1 p.2) r).length<=_
  rw [List.length_cons];omega
theorem Ed {P:Program} {w:World}:∀{kvs:List (Key×V)} {ws:List (Value×Value)},VV (kvs.map fun kv=>(kV kv.1,kv.2)) ws->∃rs,Carries (bV P w) ws rs/\KV kvs rs
 | [],_,r=>by rw [List.map_nil] at r;cases r;exact⟨[],True.intro,.nil⟩
 | p:: kvs,_,r=>by
  rw [List.map_cons] at r
  cases r with
  | @cons a b as bs h t=>
   obtain⟨rs,c,q⟩:=Ed (P:=P) (w:=w) t
   obtain⟨b1,b2⟩:=b
   exact⟨(p.1,b2):: rs,⟨Ez h.1,rfl,c⟩,.cons ⟨rfl,h.2⟩ q⟩
noncomputable def ZG (trs:List (TE×TE)):TE:=fun σ H Q=>∀p,H p=none->MP trs σ (upd H p (.dK [])) fun ps H2=>H2 p=some (.dK [])/\∃kvs:List (Key×V),ps=kvs.map (fun kv=>(kV kv.1,kv.2))/\kvs.length<=15/\Q (.ref p) (upd H2 p (.dK (uW [] kvs)))
theorem VB {X:Cx} {pos:Pos} {keys:List (Option Expr)} {values:List Expr} {trs:List (TE×TE)} (h:ZS X pos keys values trs) (hall:keys.all (·.isSome)=true) (hl:keys.length=values.length) (h0:keys≠[])
  (h15:keys.length<=15):PE X (.Dict keys values pos) (ZG trs):=by
 intro pins s σ H Q I q
 have hn:=I.hok.fresh (Nat.le_refl s.heap.objs.size)
 have I1:=I.laid (a:=s.heap.objs.size) (o:=.dK []) (h':=s.heap.push { cls:=.type "dict",data:=.dict #[] }) (t':=s.toks) (fun _ _ q=>Heap.get?_push_of_some _ q) (Nat.le_refl _) (Kc s.heap I.big)
 refine wpAny_Dict_walk (knd:=bV X.prog X.w) hall hl h0 h15 (dO (h pins _ σ _ _ I1 (q _ hn)) fun ws s2 hpt=>?_)
 obtain⟨ps,H2,I2,rel,e,kvs,ep,lk,q2⟩:=hpt
 subst ep
 obtain⟨rs,c,rk⟩:=Ed (P:=X.prog) (w:=X.w) rel
 obtain⟨z,hd,vs0,r0,dd⟩:=Wb I2.hok e
 cases r0
 refine⟨rs,c,dd,fun h' dd' hs=>⟨.ref s.heap.objs.size,_,?_,rfl,q2⟩⟩
 have hz:(uW [] kvs).length<=sizeLine:=by
  have h1:=wK kvs []
  rw [List.length_nil] at h1
  rw [sizeLine_eq];omega
 have he:∃q,h'.get? s.heap.objs.size=some q:=let ⟨q,_,_,hq,_⟩:=dd';⟨q,hq⟩
 exact Jq I2 (by rw [e];exact True.intro) hs he (Tw hz hd (rk.merge .nil) dd')
structure M2 (X:Cx) (o:Expr) (m:Str) (apos:Pos) (e f:Expr) (cpos:Pos):Prop where
 base:attributeBase o m X.env (eval o X.env)=eval o X.env
 few:((backTo cpos (starEach [e,f] X.env)).all (fun x=>!x.1) && (backToKw cpos (keywordEach [] X.env)).all (fun x=>x.1.isSome)
  && decide (([e,f]:List Expr).length+([]:List Keyword).length+(if ([]:List Keyword).isEmpty then 0 else 1) <30))=true
 line:(apos.endLine == cpos.line)=true
 trees:backTo cpos (starEach [e,f] X.env)=[(false,eval e X.env),(false,eval f X.env)]
noncomputable def IsD (H:Hp) (a:Addr):Prop:=(∃kvs,Rd H a (.dK kvs))∨∃kvs,Rd H a (.dT kvs)
theorem Yh {X:Cx} {pins:List (Addr×Obj)} {σ:St} {H:Hp} {s:Shared} {a:Addr} (I:Inv X pins σ H s) (d:IsD H a):
  s.TypeIs (.ref a) "dict" /\(∀b,Value.ref a=.ref b->∃ob,s.heap.get? b=some ob/\ob.dict=none)/\(a == sysModules)=false:=by
 rcases d with ⟨kvs,e⟩ | ⟨kvs,e⟩
 ·obtain⟨_,hd,vs,_,dd⟩:=vC I.hok e
  refine⟨dd.typeIs,fun b q=>?_,hd⟩
  cases q
  obtain⟨ob,_,_,h1,h2,_⟩:=dd
  exact⟨ob,h1,h2.2.1⟩
 ·obtain⟨_,hd,xs,_,dd⟩:=Dg I.hok e
  refine⟨dd.typeIs,fun b q=>?_,hd⟩
  cases q
  obtain⟨ob,_,_,h1,h2,_⟩:=dd
  exact⟨ob,h1,h2.2.1⟩
section
variable {X:Cx} {pins:List (Addr×Obj)} {σ:St} {H:Hp} {s:Shared} {a:Addr} {y d:V} {u r:Value} {o:Option V} {A:Around} {E:Value->Shared->Prop}
theorem Xj {Q:Value->Shared->Prop} (hu:A.units+1 <cLine) (I:Inv X pins σ H s) (g:dM H a y o) (ry:RelV y u) (rd:RelV d r) (h:∀w' s',Inv X pins σ H s'->RelV (o.getD d) w'->Q w' s'):
  wpAny (model X.prog X.w) A (call (.builtin "dict.get") [.ref a,u,r]) Q E s:=by
 rcases g with ⟨kvs,k,e,ey,l⟩ | ⟨kvs,k,b,e,ey,eb,l⟩
 ·subst ey
  obtain⟨z,hd,vs,rel,dd⟩:=vC I.hok e
  refine call_meetsIn PySem.F.slot_dict_get dd.typeIs PySem.F.entry_dict_get (PySem.F.args_dict_get_3 _ _ _) (meets_dict_get_default (bV X.prog X.w) a (Ez ry) hd r) ⟨_,dd.mapOf,h _ _ (I.tok _) ?_⟩
  rw [l]
  exact(rel.val k).getD rd
 ·subst ey
  cases (show u=Value.ref b from ry)
  obtain⟨z,hd,xs,rel,dd⟩:=Dg I.hok e
  refine call_meetsIn PySem.F.slot_dict_get dd.typeIs PySem.F.entry_dict_get (PySem.F.args_dict_get_3 _ _ _) (meetsH_dict_get_default (tupleKind (bV X.prog X.w)) a b hd r) ⟨tupleKind_room_in1 hu,k,xs,zV I.hok eb,dd,h _ _ (I.tok _) ?_⟩
  rw [l]
  exact(rel.val k).getD rd
end
inductive PB (ty:TE) (tx:TE) (σ:St) (Q:VK) (x:V) (H1:Hp):Prop where
 | mk:∀a,x=.ref a->IsD H1 a->(ty σ H1 fun y H2=>tx σ H2 fun z H3=>∃o,dM H3 a y o/\Q (o.getD z) H3)->PB ty tx σ Q x H1
noncomputable def X4 (td ty tx:TE):TE:=fun σ H Q=>td σ H fun x H1=>PB ty tx σ Q x H1
section
variable {X:Cx} {o e f:Expr} {apos cpos:Pos} {td ty tx:TE}
theorem RM (hu:X.A.units+1 <cLine) (ho:PE X o td) (he:PE X e ty) (hf:PE X f tx) (m:M2 X o "get" apos e f cpos):PE X (.Call (.Attribute o "get" apos) [e,f] [] cpos) (X4 td ty tx):=by
 intro pins s σ H Q I h
 refine wpAny_Call_method m.base m.few m.line PySem.F.plainAttrs_dict PySem.F.slot_dict_get PySem.F.type_dict_get (dO (ho pins s σ H _ I h) fun u s1 hpt=>?_)
 obtain⟨x,H1,I1,rx,a,ex,d,q1⟩:=hpt
 subst ex
 obtain rfl:u=Value.ref a:=rx
 obtain⟨t1,t2,_⟩:=Yh I1 d
 refine⟨t1,t2,?_⟩
 rw [m.trees]
 refine Calls.callWith_builtin rfl (Calls.evalArgs_plain (Calls.spliced_cons (dO (he pins s1 σ H1 _ I1 q1) fun iv s2 ⟨y,H2,I2,ry,q2⟩=>
  Calls.spliced_cons (dO (hf pins s2 σ H2 _ I2 q2) fun fv s3 ⟨z,H3,I3,rz,ov,g,q3⟩=>Calls.spliced_nil ?_))))
 exact Xj hu I3 g ry rz fun w' s4 I4 rw'=>⟨_,H3,I4,rw',q3⟩
end
section
variable {X:Cx} {pins:List (Addr×Obj)} {σ:St} {H:Hp} {s:Shared} {a:Addr} {kvs:List (Key×V)} {A:Around} {E:Value->Shared->Prop}
end
section
variable {X:Cx} {pins:List (Addr×Obj)} {σ:St} {H:Hp} {s:Shared} {a:Addr} {y:V} {u:Value} {A:Around} {E:Value->Shared->Prop}
end
section
variable {X:Cx} {pins:List (Addr×Obj)} {σ:St} {H:Hp} {s:Shared} {d:Addr} {kvs:List (Key×V)}
theorem Inv.chill (I:Inv X pins σ H s) (e:H d=some (.dK kvs)):∃o,s.heap.get? d=some o/\Inv X pins σ (upd H d (.frz o (.dK kvs))) s:=by
 obtain⟨z,hd,vs,rel,o,es,ep,ho,r⟩:=(show fJ X.prog X.w H s.heap d (.dK kvs) from I.hok d _ e)
 refine⟨o,ho,?_⟩
 have:=I.write (x:=d) (e:=d) (o:=.frz o (.dK kvs)) (h':=s.heap) (t':=s.toks) (by rw [e];exact True.intro) (.inl rfl) (fun b u _ q=>q) ⟨o,ho⟩ ⟨ho,z,hd,vs,rel,o,es,ep,ho,r⟩
 exact this
theorem Inv.melt {o:Obj} (I:Inv X pins σ H s) (e:H d=some (.frz o (.dK kvs))) (h0:∀o u,X.H₀ d≠some (.frz o u)):Inv X pins σ (upd H d (.dK kvs)) s:=by
 have ne:∀b u,H b=some u->(∀o v,u≠.frz o v)->b≠d:=fun b u q n z=>by
  rw [z,e] at q
  exact n _ _ (Option.some.inj q).symm
 have no:∀b,H b=none->b≠d:=fun b q z=>by rw [z,e] at q;cases q
 refine⟨I.ok,I.os,I.bare,⟨I.base.keep,I.base.slot,fun b u q n hx=>?_,I.base.there,fun b xs q=>?_,fun b u v q=>?_,fun b ps q=>?_⟩,I.loc,I.cell,?_,fun y c q=>?_,fun p h=>?_,fun b u q=>?_,I.len⟩
 ·have z:=I.base.free b u q n hx
  rw [aM (no b z)];exact z
 ·have z:=I.base.tups b xs q
  rw [aM (ne b _ z (by intro _ _ w;cases w))];exact z
 ·have z:=I.base.frzs b u v q
  rw [aM (fun w=>by rw [w] at q;exact h0 _ _ q)];exact z
 ·obtain⟨m,z⟩:=I.base.tbls b ps q
  exact⟨m,by rw [aM (ne b _ z (by intro _ _ w;cases w))];exact z⟩
 ·rw [aM (no _ I.free)];exact I.free
 ·rw [aM (no _ (I.freeC y c q))];exact I.freeC y c q
 ·obtain⟨z1,z2,r⟩:=I.pin p h
  exact⟨z1,by rw [aM (no _ z2)];exact z2,r⟩
 ·by_cases w:b=d
  ·subst w
   rw [az] at q
   cases q
   exact(I.hok b _ e).2
  ·rw [aM w] at q
   exact(I.hok b u q).stay (fun _ _ _ z=>z) (fun c z=>by rw [aM (ne c _ z (by intro _ _ w;cases w))];exact z) fun c xs z=>by rw [aM (ne c _ z (by intro _ _ w;cases w))];exact z
end
inductive Vq (H0 H H':Hp):Prop where
 | mk:∀d o kvs,H d=some (.frz o (.dK kvs))->((∀o u,H0 d≠some (.frz o u)))->H'=upd H d (.dK kvs)->Vq H0 H H'
section
variable {X:Cx} {H0:Hp} {st:Stmt} {sts:List Stmt} {e:Expr} {t:TS} {te:TE}
theorem Pu (hH:X.H₀=H0) (h:PS X st t):PS X st (fun D σ H=>∃H',Vq H0 H H'/\t D σ H'):=by
 subst hH
 intro pins s σ H D I hh
 obtain⟨H',⟨d,o,kvs,e,n,rfl⟩,q⟩:=hh
 exact h pins s σ _ D (I.melt e n) q
theorem vf (hH:X.H₀=H0) (h:PS X st t):PS X st (fun D σ H=>t { D with nx:=fun σ' H'=>∃H'',Vq H0 H' H''/\D.nx σ' H'' } σ H):=by
 subst hH
 intro pins s σ H D I hh
 refine dO (h pins s σ H _ I hh) fun f s1 q=>?_
 cases f with
 | next=>obtain⟨σ',H',I',H'',⟨d,o,kvs,e,n,rfl⟩,q⟩:=q;exact⟨σ',_,I'.melt e n,q⟩
 | ret v=>exact q
 | brk=>exact q
 | cont=>exact q
theorem Vl (hH:X.H₀=H0) (h:PE X e te):PE X e (fun σ H Q=>te σ H fun v H1=>∃H2,Vq H0 H1 H2/\Q v H2):=by
 subst hH
 intro pins s σ H Q I hh
 refine dO (h pins s σ H _ I hh) fun u s1 q=>?_
 obtain⟨v,H1,I1,r,H2,⟨d,o,kvs,e,n,rfl⟩,q⟩:=q
 exact⟨v,_,I1.melt e n,r,q⟩
end
noncomputable def Yl (d:Addr) (o:Obj) (kvs:List (Key×V)):It:=
 ⟨fun i H=>H d=some (.frz o (.dK kvs))/\i <kvs.length,fun i H x H'=>H'=H/\∃k v,kvs[i]?=some (k,v)/\x=kV k,fun i H=>H d=some (.frz o (.dK kvs))/\kvs.length<=i⟩
theorem Mu {P:Program} {w:World} {k:Key} {u:Value} (h:(bV P w).is k u=true):RelV (kV k) u:=by
 rcases dw (k:=k) (v:=u) h with ⟨i,t,rfl,rfl⟩ | ⟨x,t,rfl,rfl⟩
 ·exact⟨t,rfl⟩
 ·exact⟨t,rfl⟩
theorem Jt:∀{kvs:List (Key×V)} {vs:List (Key×Value)} {i:Nat} {k:Key} {v:V},KV kvs vs->kvs[i]?=some (k,v)->∃v',vs[i]?=some (k,v')
 | _,_,0,k,v,.cons h _,e=>by
  cases (Option.some.inj e)
  exact⟨_,by rw [List.getElem?_cons_zero,show k=_ from h.1]⟩
 | _,_,i+1,k,v,.cons _ t,e=>by
  obtain⟨v',z⟩:=Jt (i:=i) (k:=k) (v:=v) t (by simpa using e)
  exact⟨v',by simpa using z⟩
theorem Qz {P:Program} {w:World} {K:PySem.W.Frag} {tg:Expr} {d it:Addr} {o:Obj} {kvs:List (Key×V)} {vs:List (Key×Value)} {ep:Nat} (rel:KV kvs vs) (hD:∀h:Heap,h.get? d=some o->h.DictAt (bV P w) d vs ep):
  Turn P w K tg (Yl d o kvs) [it] it (fun i h=>h.IsKeyIter it d i vs.length ep) where
 mem:=by simp
 obj:=fun i h st b hb=>by
  have e:b=it:=by simpa using hb
  subst e
  obtain⟨o,e,c,d⟩:=st
  exact⟨o,e,fun v z=>by rw [d] at z;cases z⟩
 keep:=fun i h h' st k=>st.at fun o e=>k it (by simp) o e
 item:=by
  intro X hP hw hK hc i pins s σ H E I hf st hg
  subst hP hw hK
  obtain⟨hq,hi⟩:=hg
  obtain⟨f0,f1,f2,f3,f4,f5⟩:=hf it (by simp)
  have ho:s.heap.get? d=some o:=(I.hok d _ hq).1
  have hl:kvs.length=vs.length:=Paired.length rel
  obtain⟨k,v,ek⟩:∃k v,kvs[i]?=some (k,v):=⟨_,_,List.getElem?_eq_getElem hi⟩
  obtain⟨v',ev⟩:=Jt rel ek
  refine wpAny_pyNext_dict_item st (hD _ ho) ev fun key h' hk st' sb=>?_
  have I1:Inv X pins σ H { s with heap:=h' }:=I.turned (t':=s.toks) (fun b o hb e=>(sb.2 b hb).trans e) f0 f1 f3 f4 f5
  obtain⟨o',e,c,dd⟩:=id st'
  exact⟨key,rfl,KH (s:={ s with heap:=h' }) e c dd (by decide) ⟨kV k,H,I1,Mu hk,⟨rfl,k,v,ek,rfl⟩,st',fun b hb=>(hf b hb).1⟩⟩
 done:=by
  intro X hP hw hK hc i pins s σ H E I hf st hg
  subst hP hw hK
  obtain⟨hq,hi⟩:=hg
  obtain⟨f0,f1,f2,f3,f4,f5⟩:=hf it (by simp)
  have ho:s.heap.get? d=some o:=(I.hok d _ hq).1
  have hl:kvs.length=vs.length:=Paired.length rel
  exact wpAny_pyNext_dict_end (I.ok.hd hc) st (hD _ ho) (List.getElem?_eq_none (by omega)) fun h' eb=>⟨rfl,I.turned (t':=s.toks) (fun b o hb e=>eb b o hb e) f0 f1 f3 f4 f5⟩
 self:=fun _ _ _ _ _ st h=>wpAny_pyIter_keyiter st h
inductive Sw (R:It->Hp->Prop) (x:V) (H1:Hp):Prop where
 | mk:∀d kvs,x=.ref d->H1 d=some (.dK kvs)->(∀o,R (Yl d o kvs) (upd H1 d (.frz o (.dK kvs))))->Sw R x H1
noncomputable def Zb (td:TE):TI:=fun σ H R=>td σ H fun x H1=>Sw R x H1
theorem vV {X:Cx} {tg l:Expr} {td:TE} (hl:PE X l td):PI X tg l (Zb td):=by
 intro pins s σ H R I h
 refine dO (hl pins s σ H _ I h) fun v s1 hpt=>?_
 obtain⟨x,H1,I1,r1,q1⟩:=hpt
 obtain⟨d,kvs,e,ed,q⟩:=q1
 subst e
 cases r1
 obtain⟨_,hd,vs,rel,o0,es,ep,ho0,r⟩:=(show fJ X.prog X.w H1 s1.heap d (.dK kvs) from I1.hok d _ ed)
 obtain⟨o,ho,I2⟩:=I1.chill ed
 obtain rfl:o0=o:=Option.some.inj (ho0.symm.trans ho)
 have hD:∀h:Heap,h.get? d=some o0->h.DictAt (bV X.prog X.w) d vs ep:=fun h z=>⟨o0,es,z,r⟩
 refine wpAny_pyIter_dict hd (hD _ ho) ?_
 refine⟨s1.heap.objs.size,[s1.heap.objs.size],_,_,_,rfl,I2.kept (t':=s1.toks) fun b o e=>Heap.get?_push_of_some _ e,Qz rel hD,⟨_,Heap.get?_push_size _ rfl,rfl,rfl⟩,fun b hb=>?_,q o0⟩
 have e:b=s1.heap.objs.size:=by simpa using hb
 subst e
 exact I2.fpOk (Nat.le_refl _) (I2.hok.fresh (Nat.le_refl _))
theorem u0 {d:Addr} {o:Obj} {kvs:List (Key×V)} {g:TG} {tb:TS} {D:Ends} {σ:St} {H:Hp} (Pv:Nat->St->Hp->Prop) (h0:Pv 0 σ H) (hl:∀i σ H,i<=kvs.length->Pv i σ H->H d=some (.frz o (.dK kvs)))
  (hs:∀i k v σ H,kvs[i]?=some (k,v)->Pv i σ H->g (kV k) σ H fun σ2 H2=>tb { D with nx:=Pv (i+1),ct:=Pv (i+1),bk:=D.nx } σ2 H2) (hd:∀σ H,Pv kvs.length σ H->D.nx σ H):
  ∃W:Nat->Nat->St->Hp->Prop,(∃m,W 0 m σ H)/\∀i m σ H,W i m σ H->
   ((Yl d o kvs).stop i H/\D.nx σ H)∨((Yl d o kvs).go i H/\∃N:St->Hp->Prop,(∀σ' H',N σ' H'->∃m',m' <m/\W (i+1) m' σ' H')/\∀x H',(Yl d o kvs).yld i H x H'->g x σ H' fun σ2 H2=>tb { D with nx:=N,ct:=N,bk:=D.nx } σ2 H2):=by
 refine⟨fun i m σ H=>m=kvs.length - i/\i<=kvs.length/\Pv i σ H,⟨kvs.length,by simp,Nat.zero_le _,h0⟩,?_⟩
 rintro i m σ H ⟨rfl,hi,p⟩
 have q:=hl i σ H hi p
 by_cases hlt:i <kvs.length
 ·refine .inr ⟨⟨q,hlt⟩,Pv (i+1),fun σ' H' p'=>⟨kvs.length - (i+1),by omega,rfl,hlt,p'⟩,fun x H' y=>?_⟩
  obtain⟨rfl,k,v,ek,rfl⟩:=y
  exact hs i k v σ _ ek p
 ·obtain rfl:i=kvs.length:=by omega
  exact .inl ⟨⟨q,Nat.le_refl _⟩,hd σ H p⟩
theorem QJ {js:List Nat} {tt:TT} {te:TE} {σ:St} {Qd:List V->Hp->Prop} {d:Addr} {o:Obj} {kvs:List (Key×V)} {H:Hp} (Pv:Nat->List V->Hp->Prop) (hn:kvs.length<=sizeLine) (h0:Pv 0 [] H) (hl:∀i ys H,Pv i ys H->ys.length<=i) (hq:∀i ys H,i<=kvs.length->Pv i ys H->H d=some (.frz o (.dK kvs)))
  (hs:∀i k v ys H,kvs[i]?=some (k,v)->Pv i ys H->tt (some (kV k):: d8 σ js) H fun b H4=>if b=true then te (some (kV k):: d8 σ js) H4 fun y H5=>Pv (i+1) (ys ++ [y]) H5 else Pv (i+1) ys H4)
  (hd:∀ys H,Pv kvs.length ys H->Qd ys H):CompEnd js tt te σ Qd (Yl d o kvs) H:=by
 refine⟨fun i m ys H=>m=kvs.length - i/\i<=kvs.length/\Pv i ys H,⟨kvs.length,by simp,Nat.zero_le _,h0⟩,?_⟩
 rintro i m ys H ⟨rfl,hi,p⟩
 have hlen:=hl i ys H p
 have q:=hq i ys H hi p
 by_cases hlt:i <kvs.length
 ·refine .inr ⟨⟨q,hlt⟩,by omega,Pv (i+1),fun ys' H' p'=>⟨kvs.length - (i+1),by omega,rfl,hlt,p'⟩,fun x H' y=>?_⟩
  obtain⟨rfl,k,v,ek,rfl⟩:=y
  exact hs i k v ys _ ek p
 ·obtain rfl:i=kvs.length:=by omega
  exact .inl ⟨⟨q,Nat.le_refl _⟩,by omega,hd ys H p⟩
theorem uG:∀{xs:List V} {us:List Value},us.length=xs.length->(∀(j:Nat) x u,xs[j]?=some x->us[j]?=some u->RelV x u)->Vals xs us
 | [],[],_,_=>.nil
 | [],_:: _,h,_=>by simp at h
 | _:: _,[],h,_=>by simp at h
 | x:: xs,u:: us,h,r=>.cons (r 0 x u rfl rfl) (uG (by simpa using h) fun j y v h1 h2=>r (j+1) y v (by simpa using h1) (by simpa using h2))
theorem pq {X:Cx} (hc:X.calm=true):jW X (.type "list") (fun xs H Q=>∃d kvs,xs=[.ref d]/\Rd H d (.dK kvs)/\∀l,H l=none->Q (.ref l) (upd H l (.lst (kvs.map fun p=>kV p.1)))):=by
 intro pins s σ H xs us Q I rx h
 obtain⟨d,kvs,rfl,hr,q⟩:=h
 obtain⟨u,rfl,ru⟩:=vals1 rx
 cases ru
 obtain⟨z,hd,vs,rel,dd⟩:=vC I.hok hr
 obtain⟨ep,da⟩:=dd.dictAt
 have hl:kvs.length=vs.length:=Paired.length rel
 refine PySem.W.kdl_call (PySem.W.kdl_dict (knd:=bV X.prog X.w) (kvs:=vs) (ep:=ep) hd) (I.ok.hd hc) da (by omega) fun h' tk acc' c' kp e' hi=>?_
 refine⟨.ref s.heap.objs.size,_,I.laid (t':=tk) kp (Nat.le_refl _) (show fJ X.prog X.w _ h' _ (.lst (kvs.map fun p=>kV p.1)) from⟨by rw [List.length_map];exact z,acc'.toList,c',uG (by rw [Array.length_toList,hi.1,List.length_map,hl]) fun j x u hx hu=>?_,by simpa using e'⟩),rfl,q _ (I.hok.fresh (Nat.le_refl _))⟩
 obtain⟨k,v,hkv,hk⟩:=hi.2 j u (by rw [<-Array.getElem?_toList];exact hu)
 rw [List.getElem?_map] at hx
 obtain⟨p,hp,rfl⟩:=Option.map_eq_some_iff.mp hx
 obtain⟨v',hv'⟩:=Jt rel (k:=p.1) (v:=p.2) hp
 rw [hkv] at hv'
 cases hv'
 exact Mu hk
section
variable {X:Cx} {pins:List (Addr×Obj)} {σ:St} {H:Hp} {s:Shared}
end
section
variable {X:Cx} {tg:Expr}
end
theorem ji.u1 {k:Nat} {A:Around} (r:ji k A):A.units+1 <cLine:=by have:=r.units;omega
section
variable {prog:Program} {w:World} {A:Around} {E:Value->Shared->Prop} {s:Shared}
end
theorem JQ {X:Cx} {K:PySem.W.Frag} {e:Expr} {f:Str} {pos:Pos} {ta:TE} (hK:X.K=K) (he:PE X e ta) (hb:attributeBase e f X.env (eval e X.env)=eval e X.env):PE X (.Attribute e f pos) (ZF K ta f):=by subst hK;exact aY he hb
theorem Nj {X:Cx} {K:PySem.W.Frag} (hK:X.K=K):vX X (compareOp .In) (Wj K false):=by subst hK;exact Hx
theorem Gu {X:Cx} {K:PySem.W.Frag} (hK:X.K=K):vX X (compareOp .NotIn) (Wj K true):=by subst hK;exact jf
section
variable {X:Cx} {P:Program} {w:World} {K:PySem.W.Frag} {mg:Str->Option Value} {base:Heap} {CX:Hy} {k:Nat} {E:XK} {m:Str} {pos apos:Pos} {e o:Expr} {es:List Expr} {ta:TE} {t:TA}
theorem MF {pl:Sem Bool} (hP:X.prog=P) (hw:X.w=w) (hK:X.K=K) (hm:X.mg=mg) (hb:X.base=base) (he:PE X o ta) (hr:ji k X.A) (hx:qU CX X E)
  (ht:eval (.Call (.Attribute o m apos) [] [] pos) X.env=(do
   let ov <-eval o X.env
   standAt apos.atName
   let (f,first) <-holding [ov] (getMethod ov m pl)
   callWith pos f first (backTo pos (starEach [] X.env)) (backToKw pos (keywordEach [] X.env))):=by rfl):
  PE X (.Call (.Attribute o m apos) [] [] pos) (N5 P w K mg base CX k m E ta Q6):=by
 subst hP hw hK hm hb
 exact Hh he hr hx ht
end
section
variable {prog:Program} {w:World} {A:Around} {R:Result->Shared->Prop} {s:Shared}
theorem ZK {elt tg iter:Expr} {ifs:List Expr} {scope:Scope} {pos:Pos} {it acc:Value} {env:Env} (J:Nat->Shared->Prop)
  (turn:∀k s1,J k s1->wpAny (model prog w) A (pyNext it) (fun r s2=>match r with
   | none=>R (.ok .next) s2
   | some v=>wpAny (model prog w) A (letOwnedTupleGo tg it v) (fun _ s3=>wpAny (model prog w) A (assign tg env v) (fun _ s4=>
     wpAny (model prog w) A (forIn ifs true fun c r=>if r=true then do let ok <-isTrue c env (eval c env);pure (ForInStep.yield ok) else pure (ForInStep.yield r)) (fun ok s5=>
      if ok=true then wpAny (model prog w) A (eval elt env) (fun y s6=>wpAny (model prog w) A (call (.builtin "list.append") [acc,y]) (fun _ s7=>∃m,m <k/\J m s7) (notedBy (model prog w) A env fun e s'=>R (.error e) s') s6)
       (notedBy (model prog w) A env fun e s'=>R (.error e) s') s5
      else ∃m,m <k/\J m s5) (notedBy (model prog w) A env fun e s'=>R (.error e) s') s4) (notedBy (model prog w) A env fun e s'=>R (.error e) s') s3) (notedBy (model prog w) A env fun e s'=>R (.error e) s') s2)
   (notedBy (model prog w) A env fun e s'=>R (.error e) s') s1)
  (k:Nat) (h:J k s):codeAny (model prog w) A (.compLoop (.ListComp elt [⟨tg,iter,ifs,0⟩] scope pos) 0 it acc env) R s:=by
 refine codeAny_loop rfl J (fun k s1 hJ=>?_) k h
 show wpAny _ A ((compTurn (.ListComp elt [⟨tg,iter,ifs,0⟩] scope pos) 0 it acc env).onRaise (fun e=>do noteFrame e env;theTreesLotGoes e)) _ _ s1
 refine wpAny_noted ?_
 rw [compTurn_list]
 refine wpAny_bind (wpAny_standAt (wpAny_bind (wpAny_mono (turn k s1 hJ) (fun r s2 h2=>?_) fun _ _ z=>z)))
 cases r with
 | none=>exact wpAny_pure h2
 | some v=>
  refine wpAny_bind (wpAny_mono h2 (fun _ s3 h3=>wpAny_bind (wpAny_mono h3 (fun _ s4 h4=>wpAny_bind (wpAny_mono h4 (fun ok s5 h5=>?_) fun _ _ z=>z)) fun _ _ z=>z)) fun _ _ z=>z)
  cases ok with
  | false=>exact wpAny_pure ⟨rfl,h5⟩
  | true=>exact wpAny_bind (wpAny_bind (wpAny_mono h5 (fun y s6 h6=>wpAny_bind (wpAny_mono h6 (fun _ s7 h7=>wpAny_pure (wpAny_pure ⟨rfl,h7⟩)) fun _ _ z=>z)) fun _ _ z=>z))
end
section
variable {X:Cx} {tg:Expr} {g:TG} {pos:Pos} {iter elt:Expr} {ifs:List Expr} {scope:Scope} {wi:TI} {tt:TT} {te:TE}
end
theorem QZ {X:Cx} (hc:X.calm=true):jW X (.builtin "min") (fun xs H Q=>∃(p:Addr) (a b:Int),xs=[.ref p]/\bH X.K H p [.int a,.int b]/\Q (.int (if b <a then b else a)) H):=by
 intro pins s σ H xs us Q I r h
 obtain⟨p,a,b,rfl,hq,q⟩:=h
 obtain⟨u,rfl,rx⟩:=vals1 r
 cases rx
 obtain⟨its,rv,pl,_⟩:=I.list hq
 obtain⟨v1,v2,rfl,⟨t1,rfl⟩,⟨t2,rfl⟩⟩:=vals2 rv
 have hl:s.heap.IsList p (intItems #[(a,t1),(b,t2)]):=by simpa [intItems] using pl.isList
 refine min_intList (I.ok.hd hc) hl (by simp) fun v h' tk hv hk=>?_
 obtain⟨t,rfl⟩:=intItems_at hv
 obtain⟨h1,h2⟩:=argBest_lt (numAt #[(a,t1),(b,t2)]) (#[(a,t1),(b,t2)].size - 1)
 have h1':argBest (fun i j=>decide (numAt #[(a,t1),(b,t2)] i <numAt #[(a,t1),(b,t2)] j)) (#[(a,t1),(b,t2)].size - 1)<=1:=h1
 have ha:_<=a:=h2 0 (Nat.zero_le _)
 have hb:_<=b:=h2 1 (by simp)
 generalize argBest (fun i j=>decide (numAt #[(a,t1),(b,t2)] i <numAt #[(a,t1),(b,t2)] j)) (#[(a,t1),(b,t2)].size - 1)=k at h1' ha hb ⊢
 refine⟨.int (numAt #[(a,t1),(b,t2)] k),H,I.kept hk,⟨_,rfl⟩,?_⟩
 have e:numAt #[(a,t1),(b,t2)] k=if b <a then b else a:=by
  match k,h1',ha,hb with
  | 0,_,_,hb=>
   have hb':a<=b:=hb
   rw [if_neg (by omega)];rfl
  | 1,_,ha,_=>
   have ha':b<=a:=ha
   show b=_
   by_cases z:b <a
   ·rw [if_pos z]
   ·rw [if_neg z];omega
 rw [e]
 exact q
theorem Qk {X:Cx} (hc:X.calm=true):jW X (.builtin "max") (fun xs H Q=>∃(p:Addr) (a b:Int),xs=[.ref p]/\bH X.K H p [.int a,.int b]/\Q (.int (if b <a then a else b)) H):=by
 intro pins s σ H xs us Q I r h
 obtain⟨p,a,b,rfl,hq,q⟩:=h
 obtain⟨u,rfl,rx⟩:=vals1 r
 cases rx
 obtain⟨its,rv,pl,_⟩:=I.list hq
 obtain⟨v1,v2,rfl,⟨t1,rfl⟩,⟨t2,rfl⟩⟩:=vals2 rv
 have hl:s.heap.IsList p (intItems #[(a,t1),(b,t2)]):=by simpa [intItems] using pl.isList
 refine max_intList (I.ok.hd hc) hl (by simp) fun v h' tk hv hk=>?_
 obtain⟨t,rfl⟩:=intItems_at hv
 obtain⟨h1,h2⟩:=argBest_gt (numAt #[(a,t1),(b,t2)]) (#[(a,t1),(b,t2)].size - 1)
 have h1':argBest (fun i j=>decide (numAt #[(a,t1),(b,t2)] i >numAt #[(a,t1),(b,t2)] j)) (#[(a,t1),(b,t2)].size - 1)<=1:=h1
 have ha:a<=_:=h2 0 (Nat.zero_le _)
 have hb:b<=_:=h2 1 (by simp)
 generalize argBest (fun i j=>decide (numAt #[(a,t1),(b,t2)] i >numAt #[(a,t1),(b,t2)] j)) (#[(a,t1),(b,t2)].size - 1)=k at h1' ha hb ⊢
 refine⟨.int (numAt #[(a,t1),(b,t2)] k),H,I.kept hk,⟨_,rfl⟩,?_⟩
 have e:numAt #[(a,t1),(b,t2)] k=if b <a then a else b:=by
  match k,h1',ha,hb with
  | 0,_,_,hb=>
   have hb':b<=a:=hb
   show a=_
   by_cases z:b <a
   ·rw [if_pos z]
   ·rw [if_neg z];omega
  | 1,_,ha,_=>
   have ha':a<=b:=ha
   rw [if_neg (by omega)];rfl
 rw [e]
 exact q
theorem Oz {X:Cx} {K:PySem.W.Frag} {es:List Expr} {k:Nat} {pos:Pos} {t:Uw} {n:Nat} (hK:X.K=K) (hc:X.calm=true) (h:Y4 X es t)
  (hn:(assignEach es X.env).length=n:=by rfl) (hst:(assignEach es X.env).findIdx? (·.1)=none:=by rfl):PG X (.Tuple es k pos) (ZR K n t):=by
 subst hK
 exact Dv hc h hn hst
noncomputable def kY (X:Cx) (scope:Scope) (xs:List Str) (js:List Nat) (cl:List (Str×Addr)) (C:Addr) (s:Shared) (H:Hp) (ex:List Addr):Cx where
 prog:=X.prog
 w:=X.w
 K:=X.K
 mg:=X.mg
 base:=X.base
 A:=X.A
 N:=xs ++ dB X.N js
 s₀:=s
 H₀:=H
 env:=compEnvC scope cl C X.env
 outer:=X.stack
 stack:=X.stack
 ex:=ex
 fn:=fun _=>false
 calm:=X.calm
 pn:=[]
 xe:=fun _ _=>False
noncomputable def Dd (xs:List Str) (js:List Nat) (σ:St) (g:TG) (tt:TT) (te:TE) (Qd:List V->Hp->Prop) (J:It) (H1:Hp):Prop:=∃W:Nat->Nat->List V->Hp->Prop,(∃m,W 0 m [] H1)/\∀i m ys H2,W i m ys H2->
 (J.stop i H2/\ys.length<=sizeLine/\Qd ys H2)∨
 (J.go i H2/\ys.length <sizeLine/\∃N:List V->Hp->Prop,(∀ys' H',N ys' H'->∃m',m' <m/\W (i+1) m' ys' H')/\∀x H3,J.yld i H2 x H3->g x ((xs.map fun _=>none) ++ d8 σ js) H3 fun σ2 H4=>σ2.drop xs.length=d8 σ js/\tt σ2 H4 fun b H5=>
  if b=true then te σ2 H5 fun y H6=>N (ys ++ [y]) H6 else N ys H5)
noncomputable def Ri (xs:List Str) (js:List Nat) (wi:TI) (g:TG) (tt:TT) (te:TE):TE:=fun σ H Q=>wi σ H (Dd xs js σ g tt te fun ys H2=>∀D,H2 D=none->Q (.ref D) (upd H2 D (.lst ys)))
section
variable {X:Cx} {tg:Expr} {g:TG} {pos:Pos} {iter elt:Expr} {ifs:List Expr} {scope:Scope} {wi:TI} {tt:TT} {te:TE}
theorem uN (xs:List Str) (js:List Nat) {pins:List (Addr×Obj)} {σ:St} {s:Shared} {itv:Value} {Q:List V->Hp->Prop} {RR:Value->Addr->Result->Shared->Prop} {E:Value->Shared->Prop}
  (hc:X.calm=true) (hk:scope.kind=.function) (hcell:∀y∈scope.names,y.2≠.cell)
  (hfree:∀y∈scope.names,y.2=.free->X.env.kindOf y.1=some .cell∨X.env.kindOf y.1=some .free)
  (hg:∀cl C s H ex,PG (kY X scope xs js cl C s H ex) tg g)
  (hif:∀cl C s H ex,PF (kY X scope xs js cl C s H ex) ifs tt) (he:∀cl C s H ex,PE (kY X scope xs js cl C s H ex) elt te)
  (hjs:∀y∈dB X.N js,scope.names.lookup y=some .free) (hit:PIE X pins σ tg (Dd xs js σ g tt te Q) itv s)
  (hR:∀D C s' H2 ys m,Inv X pins σ (upd H2 D (.lst ys)) s'->H2 D=none->s'.heap.Ns C m->(∀h',Heap.SameBut C s'.heap h'->Inv X pins σ (upd H2 D (.lst ys)) { s' with heap:=h' })->JX X pins (upd H2 D (.lst ys)) C->C≠D->Q ys H2->RR (.ref D) C (.ok .next) s'):
  wpAny (model X.prog X.w) X.A (newList []) (fun acc s₃=>wpAny (model X.prog X.w) X.A (newFunctionEnv scope X.env.globals (clos X.env scope.names []) [] X.env.qual none .none (some X.env)) (fun cenv s₄=>
   codeAny (model X.prog X.w) X.A (.compStart (.ListComp elt [⟨tg,iter,ifs,0⟩] scope pos) 0 itv acc { cenv with scope:=relabel scope X.env }) (RR acc cenv.locals) s₄) E s₃) E s:=by
 obtain⟨it,fp,tn,J,H1,rfl,I1,T,st1,f1,W,⟨m0,w0⟩,turn⟩:=hit
 refine wpAny_newObj_type (wpAny_newFunctionEnv hcell (by intro y hy;simp at hy) (fun h₁ hns₁ hsb₁=>?_) hk)
 dsimp only at hns₁ hsb₁ ⊢
 generalize hH2:s.heap.push { cls:=.type "list",dict:=none,data:=.seq ([]:List Value).toArray }=Hl at hns₁ hsb₁ ⊢
 generalize hDe:s.heap.objs.size=D
 have hCe:Hl.objs.size=D+1:=by rw [<-hH2,Heap.size_push,hDe]
 generalize hC:Hl.objs.size=C at hns₁ hsb₁ hCe ⊢
 subst hCe
 have hDC:D≠D+1:=Nat.ne_of_lt (Nat.lt_succ_self _)
 have lt:∀b o,s.heap.get? b=some o->b <D:=fun b o e=>hDe ▸ Heap.lt_size e
 have old:∀b o,s.heap.get? b=some o->h₁.get? b=some o:=fun b o e=>by
  have hb:=lt b o e
  refine hsb₁.extBut b o (Nat.ne_of_lt (Nat.lt_succ_of_lt hb)) (Heap.get?_push_of_some _ ?_)
  rw [<-hH2];exact Heap.get?_push_of_some _ e
 have accD:h₁.get? D=some { cls:=.type "list",dict:=none,data:=.seq ([]:List Value).toArray }:=by
  refine hsb₁.extBut _ _ hDC (Heap.get?_push_of_some _ ?_)
  rw [<-hH2,<-hDe];exact Heap.get?_push_size _ rfl
 have fresh:∀a,D<=a->H1 a=none:=fun a ha=>I1.hok.fresh (by rw [hDe];exact ha)
 have fpD:∀b∈fp,b <D:=fun b hb=>by
  obtain⟨o,e,_⟩:=T.obj 0 s.heap st1 b hb
  exact lt b o e
 have cellD:∀y c,X.env.cells.lookup y=some c->c <D:=fun y c e=>by
  obtain⟨v,q⟩:=I1.cell y c e
  exact hDe ▸ q.lt
 generalize hcl:clos X.env scope.names []=cl
 have clsub:∀y c,cl.lookup y=some c->X.env.cells.lookup y=some c:=by
  rw [<-hcl];exact Li scope.names [] fun y a e=>by simp at e
 have frD:∀b∈frs X.stack,b <D:=fun b hb=>by
  obtain⟨_,o,ho,_⟩:=I1.stack.mem hb
  exact lt b o ho
 let Y:Cx:=kY X scope xs js cl (D+1) s H1 fp
 have kinds:∀y,Y.env.kindOf y=some .cell∨Y.env.kindOf y=some .free->∃k∈scope.names,k.1=y/\k.2=.free:=fun y hy=>by
  have hy':(relabel scope X.env).names.lookup y=some .cell∨(relabel scope X.env).names.lookup y=some .free:=hy
  rw [vm] at hy'
  cases q:scope.names.lookup y with
  | none=>rw [q] at hy';simp at hy'
  | some k=>
   have hm:=PySem.mem_of_lookup q
   refine⟨(y,k),hm,rfl,?_⟩
   have h1:k≠.cell:=hcell _ hm
   rw [q] at hy'
   simp only [Option.map_some,Option.some.injEq] at hy'
   by_cases hkf:k=.free
   ·exact hkf
   ·have:(k == NameKind.free)=false:=by simpa using hkf
    simp only [this,Bool.false_and,Bool.false_eq_true,if_false] at hy'
    rcases hy' with e | e
    ·exact absurd e h1
    ·exact absurd e hkf
 have okY:Y.Ok:=by
  refine⟨I1.ok.mod,hk,I1.ok.glob,I1.ok.blt,(by show s.heap.objs.size<=D+1;rw [hDe];exact Nat.le_succ _),fun y z c h1 h2=>I1.ok.inj y z c (clsub y c h1) (clsub z c h2),fun y hy=>?_,fun y c h _=>absurd h (by show ¬(false=true);decide),I1.ok.hd,I1.ok.frames,.inl rfl,fun b hb=>⟨Nat.ne_of_lt (Nat.lt_succ_of_lt (fpD b hb)),fun y c e z=>(f1 b hb).2.2.2.2.1 y c (clsub y c e) z⟩,
   fun b o e=>I1.bs b o e,Nat.le_trans I1.ok.bsz I1.sz,fun b o e hb=>?_,fun b hb hf=>?_,I1.stack,I1.stkFree⟩
  ·obtain⟨k,hm,e1,e2⟩:=kinds y hy
   show ∃c,cl.lookup y=some c
   rw [<-hcl]
   refine Dm scope.names [] y (.inr ⟨k,hm,e1,e2,?_⟩)
   have:=hfree k hm e2
   rw [e1] at this
   exact I1.ok.has y this
  ·obtain⟨_,_,_,h4,_,_⟩:=f1 b hb
   rcases h4 with z | z
   ·exact I1.ok.noex b o e z
   ·exact absurd (Nat.lt_of_lt_of_le (Heap.lt_size e) (Nat.le_trans I1.ok.bsz z)) (Nat.lt_irrefl _)
  ·rcases List.mem_cons.mp (I1.stkSub b hf) with z | z
   ·exact(f1 b hb).2.1 z
   ·exact(f1 b hb).2.2.1 z
 let σ0:St:=(xs.map fun _=>none) ++ d8 σ js
 have IY:Inv Y [] σ0 H1 { s with heap:=h₁,toks:=s.toks+([]:List (Str×Value)).length }:=by
  refine⟨okY,rfl,I1.bare,Un.kept old,⟨_,hns₁,fun i y v e1 e2 e3=>?_⟩,fun y c e=>?_,fresh _ (Nat.le_succ _),fun y c e=>I1.freeC y c (clsub y c e),fun p hp=>absurd (show p∈([]:List (Addr×Obj)) from hp) (by simp),I1.hok.kept old,?_⟩
  ·by_cases hi:i <xs.length
   ·exfalso
    have e2':((xs.map fun _=>(none:Option V)) ++ d8 σ js)[i]?=some (some v):=e2
    rw [List.getElem?_append_left (by rw [List.length_map];exact hi),List.getElem?_map,List.getElem?_eq_getElem hi] at e2'
    cases e2'
   ·have e1':(xs ++ dB X.N js)[i]?=some y:=e1
    have e2':((xs.map fun _=>(none:Option V)) ++ d8 σ js)[i]?=some (some v):=e2
    rw [List.getElem?_append_right (by omega)] at e1'
    rw [List.getElem?_append_right (by rw [List.length_map];omega),List.length_map] at e2'
    generalize i - xs.length=i at e1' e2'
    unfold dB at e1'
    unfold d8 at e2'
    rw [List.getElem?_map] at e1' e2'
    cases q:js[i]? with
    | none=>rw [q] at e1';cases e1'
    | some j=>
     rw [q] at e1' e2'
     simp only [Option.map_some,Option.some.injEq] at e1' e2'
     have hv:σ[j]?=some (some v):=by
      cases z:σ[j]? with
      | none=>rw [z] at e2';cases e2'
      | some w=>rw [z] at e2';simpa using e2'
     have hj:j <X.N.length:=by
      rw [<-I1.len];exact(List.getElem?_eq_some_iff.mp hv).1
     have hy:X.N[j]?=some y:=by
      rw [List.getElem?_eq_getElem hj] at e1' ⊢
      rw [<-e1'];rfl
     obtain⟨m,hn,hl⟩:=I1.loc
     have hmem:y∈dB X.N js:=List.mem_map.mpr ⟨j,List.mem_of_getElem? q,by rw [hy];rfl⟩
     have hfr:=hjs y hmem
     have hkx:=hfree _ (PySem.mem_of_lookup hfr) rfl
     have hvis:ZV X.env.scope y:=hkx.elim (fun z=>.inr (.inl z)) fun z=>.inr (.inr z)
     obtain⟨u,r,l⟩:=hl j y v hy hv hvis
     refine⟨u,r,?_⟩
     rcases l with ⟨kl,_⟩ | ⟨_,c,hc1,z⟩
     ·exfalso
      have kl':X.env.kindOf y=some .local:=kl
      rcases hkx with w | w <;> · rw [show X.env.kindOf y=_ from w] at kl';cases kl'
     ·obtain⟨c',hc'⟩:=Dm (env:=X.env) scope.names [] y (.inr ⟨_,PySem.mem_of_lookup hfr,rfl,rfl,c,hc1⟩)
      rw [hcl] at hc'
      have e4:=clsub y c' hc'
      rw [hc1] at e4
      cases e4
      obtain⟨o,ho,hd⟩:=z
      refine .inr ⟨?_,c,hc',o,old c o ho,hd⟩
      rcases e3 with e3 | e3 | e3
      ·exfalso
       have e3':(relabel scope X.env).names.lookup y=some .local:=e3
       rw [vm,hfr] at e3'
       simp only [Option.map_some,Option.some.injEq] at e3'
       split at e3' <;> cases e3'
      ·exact .inl e3
      ·exact .inr e3
  ·obtain⟨v,q⟩:=I1.cell y c (clsub y c e)
   obtain⟨o,ho,hd⟩:=q
   exact⟨v,o,old c o ho,hd⟩
  ·show((xs.map fun _=>(none:Option V)) ++ d8 σ js).length=(xs ++ dB X.N js).length
   unfold d8 dB
   rw [List.length_append,List.length_append,List.length_map,List.length_map,List.length_map]
 have mkR:∀(s':Shared) (H2:Hp) (ys:List V) (its:List Value) (σ':St),Inv Y [] σ' H2 s'->s'.heap.PlainList D its.toArray->Vals ys its->ys.length<=sizeLine->H2 D=none->Q ys H2->RR (.ref D) (D+1) (.ok .next) s':=by
  intro s' H2 ys its σ' I' pl rv hz hD hq
  obtain⟨m,hn,_⟩:=I'.loc
  have hn':s'.heap.Ns (D+1) m:=hn
  have hCn:H2 (D+1)=none:=I'.free
  have hch:∀b∈fp,(b∈X.ex∨X.s₀.heap.objs.size<=b)/\b≠X.env.locals/\(∀x c,X.env.cells.lookup x=some c->c≠b)/\∀p∈X.pn ++ pins,p.1≠b:=fun b hb=>by
   obtain⟨_,h2,_,h4,h5,h6⟩:=f1 b hb
   exact⟨h4,h2,h5,h6⟩
  have bs:Un (frs X.stack) fp H1 H2 s.heap s'.heap:=I'.base
  have all:∀h',Heap.SameBut (D+1) s'.heap h'->Inv X pins σ (upd H2 D (.lst ys)) { s' with heap:=h' }:=fun h' sb=>by
   have neD:∀b o,s.heap.get? b=some o->b≠D:=fun b o e=>Nat.ne_of_lt (lt b o e)
   have neC:∀b o,s.heap.get? b=some o->b≠D+1:=fun b o e=>Nat.ne_of_lt (Nat.lt_succ_of_lt (lt b o e))
   refine I1.call' (s':={ s' with heap:=h' }) (ch:=fp) I'.os ⟨fun b o e n hb hx=>?_,fun b o e n hb hx=>?_,fun b o e n hx=>?_,fun b o e hx=>?_,fun b xs e=>?_,fun b o u e=>?_,fun b ps e=>?_⟩ ?_ I'.bare hch
   ·exact(sb.2 b (neC b o e)).trans (bs.keep b o e n hb hx)
   ·obtain⟨sl,q⟩:=bs.slot b o e n hb hx
    exact⟨sl,(sb.2 b (neC b o e)).trans q⟩
   ·rw [aM (neD b o e)];exact bs.free b o e n hx
   ·obtain⟨o',q⟩:=bs.there b o e hx
    exact⟨o',(sb.2 b (neC b o e)).trans q⟩
   ·have:=bs.tups b xs e
    rw [aM (aD this hD)];exact this
   ·have:=bs.frzs b o u e
    rw [aM (aD this hD)];exact this
   ·obtain⟨more,q⟩:=bs.tbls b ps e
    exact⟨more,by rw [aM (aD q hD)];exact q⟩
   ·have h0:wC X.prog X.w H2 h':=fun b u e=>(I'.hok b u e).stay (fun c v hc q=>(sb.2 c (by
     rintro rfl
     rcases hc with z | z
     ·rw [z,e] at hCn;cases hCn
     ·rw [z] at hCn;cases hCn)).trans q) (fun _ q=>q) fun _ _ q=>q
    refine Qu h0 hD ?_
    obtain⟨n,e⟩:=pl
    exact⟨hz,its,n,rv,(sb.2 D hDC).trans e⟩
  have hall:=all s'.heap (.refl ..)
  refine hR D (D+1) s' H2 ys m hall hD hn' all ?_ hDC.symm hq
  refine⟨by rw [aM hDC.symm];exact hCn,?_,?_,.inr (Nat.le_trans I1.sz (by rw [hDe];exact Nat.le_succ _)),fun y c e z=>?_,fun p hp z=>?_⟩
  ·exact Nat.ne_of_gt (Nat.lt_trans (hDe ▸ I1.lt) (Nat.lt_succ_self _))
  ·exact I1.nofs (by rw [hDe];exact Nat.le_succ _)
  ·exact absurd z (Nat.ne_of_lt (Nat.lt_succ_of_lt (cellD y c e)))
  ·exact absurd z (Nat.ne_of_lt (Nat.lt_succ_of_lt (lt _ _ (I1.pin p hp).1)))
 have loop:∀s₃:Shared,s₃={ s with heap:=h₁,toks:=s.toks+([]:List (Str×Value)).length }->
   codeAny (model X.prog X.w) X.A (.compLoop (.ListComp elt [⟨tg,iter,ifs,0⟩] scope pos) 0 (.ref it) (.ref D) Y.env) (RR (.ref D) (D+1)) s₃:=by
  rintro s₃ rfl
  have stat:∀{H':Hp} {ob:Obj},(∀b∈fp,H' b=none)->∀b∈fp,JX Y [(D,ob)] H' b:=fun {H'} {ob} hn b hb=>by
   refine⟨hn b hb,Nat.ne_of_lt (Nat.lt_succ_of_lt (fpD b hb)),fun hf=>okY.exfs b hb hf,.inl hb,fun y c e=>(okY.exf b hb).2 y c e,fun p hp z=>?_⟩
   have hp':p∈[(D,ob)]:=hp
   have e:p=(D,ob):=by simpa using hp'
   rw [e] at z
   exact absurd z (Ne.symm (Nat.ne_of_lt (fpD b hb)))
  refine ZK (fun n s'=>∃i ys its H',∃ob:Obj,Inv Y [(D,ob)] σ0 H' s'/\(∃n,ob={ cls:=.type "list",data:=.seq its.toArray n })/\Vals ys its/\H' D=none/\tn i s'.heap/\(∀b∈fp,H' b=none)/\W i n ys H') ?_ m0
   ⟨0,[],[],H1,{ cls:=.type "list",dict:=none,data:=.seq ([]:List Value).toArray },?_,⟨_,rfl⟩,.nil,fresh _ (Nat.le_refl _),T.keep _ _ _ st1 fun b _ o e=>old b o e,fun b hb=>(f1 b hb).1,w0⟩
  ·rintro n s3 ⟨i,ys,its,H3,ob,I3,⟨cap,rfl⟩,rv,hD,st3,fr3,w3⟩
   rcases turn i n ys H3 w3 with ⟨stop,hz,hq⟩ | ⟨go,hz,N,hN7,step⟩
   ·refine wpAny_mono (T.done Y rfl rfl rfl hc i _ s3 σ0 H3 (fun _ _=>False) I3 (stat fr3) st3 stop) (fun r s4 ⟨hr,I4⟩=>?_) fun _ _ f=>f.elim
    subst hr
    exact mkR s4 H3 ys its σ0 (I4.pins_of fun p hp=>absurd hp (by simp)) ⟨cap,(I4.pin _ (List.mem_append_right _ List.mem_cons_self)).1⟩ rv hz hD hq
   ·refine wpAny_mono (T.item Y rfl rfl rfl hc i _ s3 σ0 H3 (fun _ _=>False) I3 (stat fr3) st3 go) (fun r s4 ⟨u,hr,h4⟩=>?_) fun _ _ f=>f.elim
    subst hr
    refine wpAny_mono h4 (fun _ s4 ⟨xv,H5,I5,r5,y5,st5,fr5⟩=>?_) fun _ _ f=>f.elim
    have I5':=I5.pinned (stat fr5) (T.obj _ _ st5)
    refine wpAny_mono (hg cl (D+1) s H1 fp _ _ σ0 H5 xv u _ I5' r5 (step xv H5 y5)) (fun _ s6 ⟨σ6,H6,I6,hσ6,q6⟩=>?_) fun _ _ f=>False.elim f
    have again:∀{s7:Shared} {H7:Hp} {ys7:List V} {its7:List Value} {cap7:Nat} {pl:List (Addr×Obj)},Inv Y ([(D,{ cls:=.type "list",data:=.seq its7.toArray cap7 })] ++ pl) σ6 H7 s7->(∀b∈fp,∀o,s4.heap.get? b=some o->s7.heap.get? b=some o/\H7 b=none)->Vals ys7 its7->(∃m',m' <n/\W (i+1) m' ys7 H7)->
      ∃m,m <n/\∃i ys its H',∃ob:Obj,Inv Y [(D,ob)] σ0 H' s7/\(∃n,ob={ cls:=.type "list",data:=.seq its.toArray n })/\Vals ys its/\H' D=none/\tn i s7.heap/\(∀b∈fp,H' b=none)/\W i m ys H':=by
     intro s7 H7 ys7 its7 cap7 pl I7 kf rv7 ⟨m',hm,w7⟩
     refine⟨m',hm,i+1,ys7,its7,H7,_,I7.unpinned.weak (by rw [I7.len];show((xs.map fun _=>(none:Option V)) ++ d8 σ js).length=(xs ++ dB X.N js).length;unfold d8 dB;rw [List.length_append,List.length_append,List.length_map,List.length_map,List.length_map]) fun j v e=>?_,⟨cap7,rfl⟩,rv7,(I7.pin _ (List.mem_append_right _ (List.mem_append_left _ List.mem_cons_self))).2.1,T.keep _ _ _ st5 fun b hb o e=>(kf b hb o e).1,fun b hb=>?_,w7⟩
     ·have e':((xs.map fun _=>(none:Option V)) ++ d8 σ js)[j]?=some (some v):=e
      by_cases hj:j <xs.length
      ·exfalso
       rw [List.getElem?_append_left (by rw [List.length_map];exact hj),List.getElem?_map,List.getElem?_eq_getElem hj] at e'
       cases e'
      ·rw [List.getElem?_append_right (by rw [List.length_map];omega),List.length_map,<-hσ6,List.getElem?_drop] at e'
       rw [show xs.length+(j - xs.length)=j by omega] at e'
       exact e'
     ·obtain⟨o,e,_⟩:=T.obj _ _ st5 b hb
      exact(kf b hb o e).2
    refine wpAny_mono (hif cl (D+1) s H1 fp _ s6 _ H6 _ I6 q6) (fun ok s7 ⟨H7,I7,q7⟩=>?_) fun _ _ f=>False.elim f
    have kf7:∀b∈fp,∀o,s4.heap.get? b=some o->s7.heap.get? b=some o/\H7 b=none:=fun b hb o e=>
     have z:=I7.pin (b,o) (List.mem_append_right _ (List.mem_append_right _ (su hb e)))
     ⟨z.1,z.2.1⟩
    cases ok with
    | false=>
     rw [if_neg Bool.false_ne_true] at q7 ⊢
     exact again I7 kf7 rv (hN7 _ _ q7)
    | true=>
     rw [if_pos rfl] at q7 ⊢
     refine wpAny_mono (he cl (D+1) s H1 fp _ s7 _ H7 _ I7 q7) (fun yv s8 ⟨y,H8,I8,r8,q8⟩=>?_) fun _ _ f=>False.elim f
     have pD:=I8.pin _ (List.mem_append_right _ (List.mem_append_left _ List.mem_cons_self))
     have hlen:=rv.length
     refine wpAny_list_append_plain (items:=its.toArray) ⟨cap,pD.1⟩ (fun h9 pl9 sb9=>?_) (by rw [List.size_toArray];omega)
     obtain⟨cap9,e9⟩:=pl9
     have I9:Inv Y [] σ6 H8 { s8 with heap:=h9 }:=(I8.pins_of (pins':=[]) fun p hp=>absurd hp (by simp)).turned (t':=s8.toks) (it:=D) (fun b o hb e=>(sb9.2 b hb).trans e) pD.2.1 hDC
      (.inr (Nat.le_of_eq hDe)) (fun y c e z=>absurd z (Nat.ne_of_lt (cellD y c (clsub y c e)))) fun p hp=>absurd (show p∈([]:List (Addr×Obj)) from hp) (by simp)
     have kf9:∀b∈fp,∀o,s4.heap.get? b=some o->h9.get? b=some o/\H8 b=none:=fun b hb o e=>by
      have z:=I8.pin (b,o) (List.mem_append_right _ (List.mem_append_right _ (su hb e)))
      exact⟨(sb9.2 b (Nat.ne_of_lt (fpD b hb))).trans z.1,z.2.1⟩
     refine again (s7:={ s8 with heap:=h9 }) (its7:=its ++ [yv]) (cap7:=cap9) (pl:=[]) (I9.pins_of fun p hp=>?_) kf9 (rv.append (.cons r8 .nil)) (hN7 _ _ q8)
     have hp':p=(D,{ cls:=.type "list",data:=.seq (its ++ [yv]).toArray cap9 }):=by simpa using hp
     subst hp'
     refine⟨?_,pD.2.1,pD.2.2.1,pD.2.2.2.1,fun v z=>by cases z⟩
     rw [e9]
     simp
  ·refine IY.pins_of fun p hp=>?_
   have hp':p=(D,{ cls:=.type "list",dict:=none,data:=.seq ([]:List Value).toArray }):=by simpa using hp
   subst hp'
   exact⟨accD,fresh _ (Nat.le_refl _),hDC,fun hf=>Nat.lt_irrefl _ (frD _ hf),fun v z=>by cases z⟩
 exact codeAny_compStart_list (loop _ rfl) (wpAny_mono (T.self X.A 0 _ (fun v s'=>v=.ref it/\s'={ s with heap:=h₁,toks:=s.toks+([]:List (Str×Value)).length }) (fun _ _=>False) (T.keep _ _ _ st1 fun b _ o e=>old b o e) ⟨rfl,rfl⟩) (fun v s' ⟨e1,e2⟩=>by subst e1 e2;exact loop _ rfl) fun _ _ f=>f.elim)
theorem SM (xs:List Str) (js:List Nat) (N0:List Str) (sc0:Scope) (hc:X.calm=true) (hi:PI X tg iter wi) (hg:∀cl C s H ex,PG (kY X scope xs js cl C s H ex) tg g)
  (hif:∀cl C s H ex,PF (kY X scope xs js cl C s H ex) ifs tt) (he:∀cl C s H ex,PE (kY X scope xs js cl C s H ex) elt te)
  (hk:scope.kind=.function:=by rfl) (hcell:∀y∈scope.names,y.2≠.cell:=by decide +kernel)
  (hnames:∀y∈scope.names,y.2=.local->scope.names.lookup y.1=some .local:=by decide +kernel)
  (hsc:X.env.scope=sc0:=by rfl) (hfree0:∀y∈scope.names,y.2=.free->sc0.names.lookup y.1=some .cell∨sc0.names.lookup y.1=some .free:=by decide +kernel)
  (hNN:X.N=N0:=by rfl) (hj0:∀y∈dB N0 js,scope.names.lookup y=some .free:=by decide +kernel)
  (hs:∀x,foldedSetIterable iter X.env x=pure x:=by intro _;rfl):
  PE X (.ListComp elt [⟨tg,iter,ifs,0⟩] scope pos) (Ri xs js wi g tt te):=by
 intro pins s σ H Q I h
 have hfree:∀y∈scope.names,y.2=.free->X.env.kindOf y.1=some .cell∨X.env.kindOf y.1=some .free:=fun y hy e=>by
  show X.env.scope.names.lookup y.1=some .cell∨X.env.scope.names.lookup y.1=some .free
  rw [hsc];exact hfree0 y hy e
 rw [eval_ListComp]
 have hcl:closureFor scope X.env=pure (clos X.env scope.names []):=lA fun y hy e=>I.ok.has y.1 (hfree y hy e)
 refine wpAny_comprehension_free (use:=none) rfl hs hcl hk hnames (dO (hi pins s σ H _ I h) fun xv s1 h1=>dO h1 fun it s2 h2=>?_)
 have hjs:∀y∈dB X.N js,scope.names.lookup y=some .free:=by rw [hNN];exact hj0
 refine uN xs js (RR:=fun acc C=>compPost (model X.prog X.w) X.A X.xe none (EP X pins σ Q) acc C) (Q:=fun ys H2=>∀D,H2 D=none->Q (.ref D) (upd H2 D (.lst ys))) hc hk hcell hfree hg hif he hjs h2 ?_
 intro D C s' H2 ys m I' hD hn all fpC hCD hq
 exact⟨m,hn,fun h' sb=>⟨.ref D,_,all h' sb,rfl,hq D hD⟩⟩
theorem Sx {i:Nat} {y:Str} {py spos:Pos} (xs:List Str) (js:List Nat) (N0:List Str) (sc0:Scope) (hc:X.calm=true) (hNX:X.N.Nodup) (hiy:X.N[i]?=some y) (hi:PI X tg iter wi) (hg:∀cl C s H ex,PG (kY X scope xs js cl C s H ex) tg g)
  (hif:∀cl C s H ex,PF (kY X scope xs js cl C s H ex) ifs tt) (he:∀cl C s H ex,PE (kY X scope xs js cl C s H ex) elt te)
  (hsw:swapsWith (.ListComp elt [⟨tg,iter,ifs,0⟩] scope pos) (some (.Name y py)) spos.line X.env=pure true:=by rfl) (hy:X.env.scope.names.lookup y=some .local:=by rfl)
  (hk:scope.kind=.function:=by rfl) (hcell:∀y∈scope.names,y.2≠.cell:=by decide +kernel)
  (hnames:∀y∈scope.names,y.2=.local->scope.names.lookup y.1=some .local:=by decide +kernel)
  (hsc:X.env.scope=sc0:=by rfl) (hfree0:∀y∈scope.names,y.2=.free->sc0.names.lookup y.1=some .cell∨sc0.names.lookup y.1=some .free:=by decide +kernel)
  (hNN:X.N=N0:=by rfl) (hj0:∀y∈dB N0 js,scope.names.lookup y=some .free:=by decide +kernel)
  (hs:∀x,foldedSetIterable iter X.env x=pure x:=by intro _;rfl):
  PS X (.Assign [.Name y py] (.ListComp elt [⟨tg,iter,ifs,0⟩] scope pos) spos) (Rk (Ri xs js wi g tt te) (yI i)):=by
 intro pins s σ H D I h
 have hfree:∀y∈scope.names,y.2=.free->X.env.kindOf y.1=some .cell∨X.env.kindOf y.1=some .free:=fun y hy e=>by
  show X.env.scope.names.lookup y.1=some .cell∨X.env.scope.names.lookup y.1=some .free
  rw [hsc];exact hfree0 y hy e
 have hjs:∀y∈dB X.N js,scope.names.lookup y=some .free:=by rw [hNN];exact hj0
 rw [exec_Assign_Name_used _ _ _ _ hsw]
 refine wpAny_bind (wpAny_standAt (wpAny_bind ?_))
 show wpAny _ X.A (do let _ <-comprehension (.ListComp elt [⟨tg,iter,ifs,0⟩] scope pos) scope X.env _ (newList []) false (eval iter X.env) (some (assign (.Name y py) X.env))) _ _ s
 have hcl:closureFor scope X.env=pure (clos X.env scope.names []):=lA fun y hy e=>I.ok.has y.1 (hfree y hy e)
 refine wpAny_bind (wpAny_mono (wpAny_comprehension_free (use:=some (assign (.Name y py) X.env)) (Q:=fun _ s'=>SP X pins D .next s') rfl hs hcl hk hnames
  (dO (hi pins s σ H _ I h) fun xv s1 h1=>dO h1 fun it s2 h2=>?_)) (fun _ s' hq=>wpAny_pure (wpAny_pure hq)) fun _ _ e=>e)
 refine uN xs js (RR:=fun acc C=>compPost (model X.prog X.w) X.A X.xe (some (assign (.Name y py) X.env)) (fun _ s'=>SP X pins D .next s') acc C) (Q:=fun ys H2=>∀D',H2 D'=none->D.nx (σ.set i (some (.ref D'))) (upd H2 D' (.lst ys))) hc hk hcell hfree hg hif he hjs h2 ?_
 intro D' C s' H2 ys m I' hD hn all fpC hCD hq
 show wpAny _ X.A (assign (.Name y py) X.env (.ref D')) _ _ _
 refine wpAny_assign_Name (zL I' hNX hiy (.inl hy) (v:=.ref D') rfl (fun s'' I'' ⟨a,sb,ha⟩=>?_) (.inr hy))
 obtain⟨f1,f2,f3,f4,f5,f6⟩:=fpC
 have hCa:C≠a:=by
  rcases ha with z | z
  ·rw [z];exact f2
  ·exact fun w=>f5 _ _ z w.symm
 exact⟨m,hn.sameBut sb hCa,fun h' sb'=>⟨_,_,I''.turned (t':=s''.toks) (it:=C) (fun b o hb e=>(sb'.2 b hb).trans e) f1 f2 f4 f5 f6,hq D' hD⟩⟩
end
theorem FW {ts:List Str} {js:List Nat} {σ:St} {g:TG} {tt:TT} {te:TE} {Qd:List V->Hp->Prop} {K:PySem.W.Frag} {a:Addr} {xs:List V} {H:Hp} (Pv:Nat->List V->Hp->Prop) (hn:xs.length<=sizeLine) (h0:Pv 0 [] H) (hl:∀i ys H,Pv i ys H->ys.length<=i) (hq:∀i ys H,i<=xs.length->Pv i ys H->bH K H a xs)
  (hs:∀i x ys H,xs[i]?=some x->Pv i ys H->g x ((ts.map fun _=>none) ++ d8 σ js) H fun σ2 H3=>σ2.drop ts.length=d8 σ js/\tt σ2 H3 fun b H4=>if b=true then te σ2 H4 fun y H5=>Pv (i+1) (ys ++ [y]) H5 else Pv (i+1) ys H4)
  (hd:∀ys H,Pv xs.length ys H->Qd ys H):Dd ts js σ g tt te Qd (X6 K a) H:=by
 refine⟨fun i m ys H=>m=xs.length - i/\i<=xs.length/\Pv i ys H,⟨xs.length,by simp,Nat.zero_le _,h0⟩,?_⟩
 rintro i m ys H ⟨rfl,hi,p⟩
 have hlen:=hl i ys H p
 have q:=hq i ys H hi p
 by_cases hlt:i <xs.length
 ·refine .inr ⟨⟨xs,xs[i],q,by simp [hlt]⟩,by omega,Pv (i+1),fun ys' H' p'=>⟨xs.length - (i+1),by omega,rfl,hlt,p'⟩,fun x H' y=>?_⟩
  obtain⟨e,y⟩:=y
  subst e
  exact hs i x ys _ (y xs q) p
 ·have e:i=xs.length:=by omega
  subst e
  exact .inl ⟨⟨xs,q,Nat.le_refl _⟩,by omega,hd ys H p⟩
structure JG (K:PySem.W.Frag) (x qual:Str) (st:Stmt) (f:Addr) (fd:FuncData) (its:Array Value):Prop where
 ex:∃(oc:Value) (od:Option Addr) (T:Addr) (kV doc pm:Value) (an:Option Addr) (cdv ct:Value) (osl:Array (Option Value)) (o:Obj) (n:Nat),
  fd=PySem.W.fnOf x qual (gW st) (fV st) (aV st) (.ref T) kV doc pm an cdv ct/\K.lookup f=some ⟨oc,od,.func fd,osl⟩/\PySem.W.codeIn K cdv qual=true/\K.lookup T=some o/\o.data=.seq its n
 kp:PySem.W.keepIn K (.ref f)=true
section
variable {P:Program} {w:World} {K:PySem.W.Frag} {mg:Str->Option Value} {base:Heap} {its:Array Value}
theorem JG.ok {x qual:Str} {st:Stmt} {f:Addr} {fd:FuncData} {N ps:List Str} {k:Nat} {sp:Sp} (F:JG K x qual st f fd its) (S:gm N ps (aV st)) (len:∀vs H Q E,sp vs H Q E->vs.length=ps.length)
  (hbody:∀(cdv:Value) (A:Around) (outer:List Env) (s:Shared) (H:Hp) (vs:List V) (Q:VK) (E:XK),ji k (A.deeper (envOfC qual (aV st) s.heap.objs.size f cdv))->sp vs H Q E->
   ∃t,Pj (Ny Fw P w K mg base N qual (aV st) f cdv A outer s H E).nox (fV st) t/\t { nx:=fun _ H'=>Q .non H',rt:=Q } (start N vs) H):iK P w K mg base Fw (k+1) f fd ps sp:=by
 obtain⟨oc,od,T,kV,doc,pm,an,cdv,ct,osl,o,n,rfl,lk,hcd,_⟩:=F.ex
 refine WY lk hcd S len fun A outer s H vs Q E hr hsp=>?_
 obtain⟨t,h,q⟩:=hbody cdv A outer s H vs Q E hr hsp
 exact⟨t,h.nox,q⟩
theorem JG.binds {x qual:Str} {st:Stmt} {f:Addr} {fd:FuncData} {ps:List Str} (F:JG K x qual st f fd its)
  (h:∀(T:Addr) (kV doc pm:Value) (an:Option Addr) (cdv ct:Value) (us:List Value),us.length=ps.length->∃k,bindArgs (PySem.W.fnOf x qual (gW st) (fV st) (aV st) (.ref T) kV doc pm an cdv ct) ⟨us,[]⟩=seqItems? (.ref T) >>= k/\k (some its)=pure (ps.zip us)):Binds K fd ps []:=by
 obtain⟨oc,od,T,kV,doc,pm,an,cdv,ct,osl,o,n,rfl,lk,hcd,hT,ho⟩:=F.ex
 intro s us X hl
 rw [List.append_nil] at hl ⊢
 obtain⟨k,h1,h2⟩:=h T kV doc pm an cdv ct us hl
 exact .of_defaults rfl (X _ _ hT) ho h1 h2
theorem Vs {x qual:Str} {st:Stmt} {f T:Addr} {oc:Value} {od an:Option Addr} {osl:Array (Option Value)} {kV doc pm cdv ct:Value} {o:Obj} {n:Nat} (l:K.lookup f=some ⟨oc,od,.func (PySem.W.fnOf x qual (gW st) (fV st) (aV st) (.ref T) kV doc pm an cdv ct),osl⟩)
  (c:PySem.W.codeIn K cdv qual=true) (k:PySem.W.keepIn K (.ref f)=true) (d:K.lookup T=some o) (e:o.data=.seq its n):JG K x qual st f (PySem.W.fnOf x qual (gW st) (fV st) (aV st) (.ref T) kV doc pm an cdv ct) its:=⟨⟨oc,od,T,kV,doc,pm,an,cdv,ct,osl,o,n,rfl,l,c,d,e⟩,k⟩
end
section
variable {X:Cx} {e:Expr} {es:List Expr} {te:TE} {t:TA} {pos:Pos} {st:Stmt} {rest:List Stmt} {ts us:TS}
end
section
variable {X:Cx}
noncomputable def Sg (z:Str):Value->Bool
 | .str y _=>y.cps.toList == z.cps.toList
 | _=>false
theorem Hi {z:Str} {t:Tok}:∀{ys:List Str} {us:List Value},Vals (ys.map V.str) us->(∀u∈us,PySem.MeetsSeq.EqGives u (.str z t) (Sg z u))/\us.countP (Sg z)=ys.countP (fun y=>decide (y=z))/\∀(m:Nat) (u:Value),us[m]?=some u->∃y,ys[m]?=some y/\Sg z u=decide (y=z)
 | [],us,r=>by
  rw [List.map_nil] at r
  cases r
  exact⟨(fun _ h=>by cases h),rfl,fun m u h=>by simp at h⟩
 | y:: ys,us,r=>by
  rw [List.map_cons] at r
  cases r with
  | cons r1 r2=>
   obtain⟨t',e⟩:=r1
   subst e
   obtain⟨h1,h2,h3⟩:=Hi (z:=z) (t:=t) r2
   have he:Sg z (.str y t')=decide (y=z):=by
    show(y.cps.toList == z.cps.toList)=decide (y=z)
    rw [Bool.eq_iff_iff,beq_iff_eq,decide_eq_true_eq]
    exact⟨fun h=>ext_toList h,fun h=>by rw [h]⟩
   refine⟨fun u hu=>?_,?_,fun m u hm=>?_⟩
   ·rcases List.mem_cons.mp hu with rfl | hu
    ·exact PySem.SeqRoads2.EqGives.str y z t' t
    ·exact h1 u hu
   ·rw [List.countP_cons,List.countP_cons,h2,he]
   ·cases m with
    | zero=>
     simp only [List.getElem?_cons_zero,Option.some.injEq] at hm
     subst hm
     exact⟨y,rfl,he⟩
    | succ m=>exact h3 m u (by simpa using hm)
inductive KN (x:V) (vs:List V) (H:Hp) (Q:VK):Prop where
 | mk:∀(l:Addr) (xs:List Str) (z:Str) (j:Nat),x=.ref l->vs=[.str z]->H l=some (.lst (xs.map V.str))->xs[j]?=some z->((∀m y,m <j->xs[m]?=some y->y≠z))->Q (.int (j:Nat)) H->KN x vs H Q
noncomputable def VR:V->List V->Hp->VK->Prop:=fun x vs H Q=>KN x vs H Q
theorem Hf:Yx X "list.index" VR:=by
 intro pins s σ H x vs v us Q I rx rv h
 obtain⟨l,xs,z,j,rfl,rfl,hH,hj,hno,q⟩:=h
 cases rx
 obtain⟨u,rfl,ru⟩:=rv.one
 obtain⟨t,rfl⟩:=ru
 obtain⟨hz,its,n,r,hl,e⟩:=I.lstM hH
 have hsz:sizeLine=16777216:=sizeLine_eq
 obtain⟨h1,_,h3⟩:=Hi (z:=z) (t:=t) r
 have hjx:=(List.getElem?_eq_some_iff.mp hj).1
 rw [List.length_map] at hl hz
 have hji:j <its.length:=by omega
 refine call_meets F.slot_list_index ⟨_,e,rfl⟩ F.entry_list_index (F.args_list_index_2 _ _) (MeetsSeq.list_index l its.toArray n (.str z t) (Sg z) (fun y hy=>h1 y (by simpa using hy)) j (by simpa using hji) (by omega) ?_ ?_) ⟨e,?_⟩
 ·obtain⟨y,hy,e2⟩:=h3 j its[j] (List.getElem?_eq_getElem hji)
  rw [hj] at hy
  cases hy
  simpa using e2
 ·intro m hm hlt
  have hm':m <its.length:=by simpa using hm
  obtain⟨y,hy,e2⟩:=h3 m its[m] (List.getElem?_eq_getElem hm')
  have:=hno m y hlt hy
  simp only [List.getElem_toArray]
  rw [e2]
  exact decide_eq_false this
 ·exact⟨.int (j:Nat),H,I.tok _,⟨s.toks,rfl⟩,q⟩
end
section
variable {X:Cx}
end
section
variable {prog:Program} {w:World} {A:Around} {E:Value->Shared->Prop}
end
section
variable {X:Cx} {tg:Expr}
end
section
variable {X:Cx} {e:Expr}
end
section
variable {X:Cx}
theorem rW:∀{us:List Value} {ys:List Str},StrsAre us ys->Vals (ys.map V.str) us
 | _,_,.nil=>.nil
 | _,_,.cons _ _ t=>.cons ⟨_,rfl⟩ (rW t)
theorem Hr:bootBuiltins "sorted" =some (.builtin "sorted"):=by decide +kernel
theorem Nx:jW X (.builtin "sorted") (fun xs H Q=>∃p ys,xs=[.ref p]/\bH X.K H p (ys.map V.str)/\ys.length <64/\∀l zs,H l=none->zs.Perm ys->sortedS zs=true->Q (.ref l) (upd H l (.lst (zs.map V.str)))):=by
 intro pins s σ H xs us Q I rx h
 obtain⟨p,ys,rfl,hq,hl,q⟩:=h
 obtain⟨u,rfl,ru⟩:=vals1 rx
 cases ru
 obtain⟨its,r,pl,hz⟩:=I.list hq
 have hlen:=r.length
 rw [List.length_map] at hlen
 have hsz:sizeLine=16777216:=sizeLine_eq
 refine sorted_strs pl.isList (sX r) (by omega) fun out ss' a1 a2 a3=>?_
 obtain⟨e,he⟩:=sortedAll_at s.heap its out
 have hl':=a2.length_eq
 have rv:=rW a1
 refine⟨.ref (s.heap.objs.size+1),_,I.laid (t':=s.toks) (fun b o=>sortedAll_old) (Nat.le_succ _) (show fJ X.prog X.w _ _ _ (.lst (ss'.map V.str)) from⟨by rw [List.length_map];omega,out.toList,e,rv,by simpa [seqObj] using he⟩),rfl,q _ _ (I.hok.fresh (Nat.le_succ _)) a2 a3⟩
theorem Mm (hc:X.calm=true):jW X (.builtin "sorted") (fun xs H Q=>∃d kvs ys,xs=[.ref d]/\Rd H d (.dK kvs)/\kvs.map (·.1)=ys.map (fun y=>(Sum.inr y:Key))/\ys.length <64/\∀l zs,H l=none->zs.Perm ys->sortedS zs=true->Q (.ref l) (upd H l (.lst (zs.map V.str)))):=by
 intro pins s σ H xs us Q I rx h
 obtain⟨d,kvs,ys,rfl,hr,hk,hl,q⟩:=h
 obtain⟨u,rfl,ru⟩:=vals1 rx
 cases ru
 obtain⟨z,hd,vs,rel,dd⟩:=vC I.hok hr
 obtain⟨ep,da⟩:=dd.dictAt
 have hlv:kvs.length=vs.length:=Paired.length rel
 have hly:kvs.length=ys.length:=by have:=congrArg List.length hk;rwa [List.length_map,List.length_map] at this
 have hsz:sizeLine=16777216:=sizeLine_eq
 refine Calls.call_function_entry kind_sorted plain_sorted entry_sorted (args_sorted1 _) ?_
 unfold Builtin.«sorted»
 refine wpAny_bind (m:=checkCount "sorted" 1 1 _) (wpAny_pure ?_)
 refine wpAny_bind (PySem.W.kdu_collect (A:=X.A.in1) (PySem.W.kdl_dict (knd:=bV X.prog X.w) (kvs:=vs) (ep:=ep) hd) (I.ok.hd hc) da (by omega) fun h' tk acc kp hacc=>?_)
 have hla:acc.toList.length=vs.length:=by rw [Array.length_toList];exact hacc.1
 refine wpAny_bind (wpAny_newList ?_ (by rw [hla];omega))
 have hS:StrsAre acc.toList ys:=by
  refine sX (uG (by rw [hla,List.length_map];omega) fun j x u hx hu=>?_)
  obtain⟨k,v,hkv,hki⟩:=hacc.2 j u (by rw [<-Array.getElem?_toList];exact hu)
  rw [List.getElem?_map] at hx
  obtain⟨y,hy,rfl⟩:=Option.map_eq_some_iff.mp hx
  have e1:(kvs.map (·.1))[j]?=some (Sum.inr y):=by rw [hk,List.getElem?_map,hy];rfl
  rw [List.getElem?_map] at e1
  obtain⟨p,hp,e2⟩:=Option.map_eq_some_iff.mp e1
  obtain⟨v',hv'⟩:=Jt rel (k:=p.1) (v:=p.2) hp
  rw [hkv] at hv'
  cases hv'
  rw [e2] at hki
  exact Mu (k:=Sum.inr y) hki
 have hoL:(h'.push (seqObj "list" acc.toList.toArray 0)).get? h'.objs.size=some (seqObj "list" acc.toList.toArray 0):=Heap.get?_push_size _ rfl
 show wpAny _ _ _ _ _ { s with heap:=h'.push (seqObj "list" acc.toList.toArray 0),toks:=tk }
 refine wpAny_bind (wpAny_holding (wpAny_call_entry slot_list_sort ⟨_,hoL,rfl⟩ entry_list_sort (list_sort_treeK strKind_oneLt hoL hS.keysOf (fun v₁ v₂ rest e=>keyKind_strs (by rw [<-e];exact hS)) (by omega) fun st' a1 a2=>⟨_,rfl,?_⟩) (args_list_sort _)))
 obtain⟨ss',b1,b2,b3⟩:=sorted_out_str hS a1 a2
 generalize (arrOf st').map (·.2)=out at b1 ⊢
 obtain⟨e,he⟩:=sortedHeap_at (out:=out) hoL
 have hl':=b2.length_eq
 have I1:Inv X pins σ H { s with heap:=h',toks:=tk }:=I.kept kp
 refine wpAny_pure ⟨_,rfl,.ref h'.objs.size,_,I1.laid (t':=tk) (fun b o eb=>?_) (Nat.le_refl _) (show fJ X.prog X.w _ _ _ (.lst (ss'.map V.str)) from⟨by rw [List.length_map];omega,out.toList,e,rW b1,by simpa [seqObj] using he⟩),rfl,q _ _ (I1.hok.fresh (Nat.le_refl _)) b2 b3⟩
 have hlt:b <h'.objs.size:=Heap.lt_size eb
 rw [sortedHeap_old (Nat.ne_of_lt hlt) (by rw [size_push'];exact Nat.lt_succ_of_lt hlt),Heap.get?_push_ne _ _ _ (Nat.ne_of_lt hlt)]
 exact eb
end
theorem xX:∀{p:Str} {r:List Str},risingS p r=true->∀y∈r,p.cps.toList<=y.cps.toList
 | p,x:: r,h,y,hy=>by
  unfold risingS at h
  rw [Bool.and_eq_true,ltCps_eq] at h
  have h1:p.cps.toList<=x.cps.toList:=List.not_lt.mp (by simpa using h.1)
  rcases List.mem_cons.mp hy with rfl | hy
  ·exact h1
  ·exact List.le_trans h1 (xX h.2 y hy)
theorem zq {p:Str} {r:List Str} (h:sortedS (p:: r)=true):sortedS r=true:=by
 cases r with
 | nil=>rfl
 | cons x r=>
  have:risingS p (x:: r)=true:=h
  unfold risingS at this
  rw [Bool.and_eq_true] at this
  exact this.2
theorem Fd:∀{l m:List Str},sortedS l=true->sortedS m=true->l.Perm m->l=m
 | [],m,_,_,p=>(List.nil_perm.mp p).symm
 | a:: r,[],_,_,p=>by have:=p.length_eq;simp at this
 | a:: r,b:: t,h1,h2,p=>by
  have e:a=b:=by
   have hb:b∈a:: r:=p.mem_iff.mpr List.mem_cons_self
   have ha:a∈b:: t:=p.mem_iff.mp List.mem_cons_self
   rcases List.mem_cons.mp hb with h | hb
   ·exact h.symm
   rcases List.mem_cons.mp ha with h | ha
   ·exact h
   exact PyProof.Rows.ext_toList (List.le_antisymm (xX h1 b hb) (xX h2 a ha))
  subst e
  rw [Fd (zq h1) (zq h2) (List.Perm.cons_inv p)]
section
variable {M:Model} {A:Around} {E:Value->Shared->Prop} {nm q:Str} {C N:Addr} {bs bm:List Value} {hdct:Bool} {sn:List Str} {sub:List Value} {ab:Bool} {col:Option Bool} {dd:Option Addr} {k0 k1 k2 k3 k5:Option Value} {newId:String}
end
end L2
namespace L2
open PySem PyProof
section
variable {X:Cx} {x:Str} {px pos:Pos} {iter elt:Expr} {ifs:List Expr} {scope:Scope} {wi:TI} {tt:TT} {te:TE}
theorem Be (js:List Nat) {pins:List (Addr×Obj)} {σ:St} {s:Shared} {itv:Value} {Q:List V->Hp->Prop} {RR:Value->Addr->Result->Shared->Prop} {E:Value->Shared->Prop}
  (hc:X.calm=true) (hk:scope.kind=.function) (hx:scope.names.lookup x=some .local) (hcell:∀y∈scope.names,y.2≠.cell)
  (hfree:∀y∈scope.names,y.2=.free->X.env.kindOf y.1=some .cell∨X.env.kindOf y.1=some .free)
  (hN:(x:: dB X.N js).Nodup) (hjs:∀y∈dB X.N js,scope.names.lookup y=some .free)
  (hif:∀cl C s H ex,PF (Ac X scope x js cl C s H ex) ifs tt) (he:∀cl C s H ex,PE (Ac X scope x js cl C s H ex) elt te)
  (hit:PIE X pins σ (.Name x px) (CompEnd js tt te σ Q) itv s)
  (hR:∀D C s' H2 ys m,Inv X pins σ (upd H2 D (.lst ys)) s'->H2 D=none->s'.heap.Ns C m->(∀h',Heap.SameBut C s'.heap h'->Inv X pins σ (upd H2 D (.lst ys)) { s' with heap:=h' })->JX X pins (upd H2 D (.lst ys)) C->C≠D->Q ys H2->RR (.ref D) C (.ok .next) s'):
  wpAny (model X.prog X.w) X.A (newList []) (fun acc s₃=>wpAny (model X.prog X.w) X.A (newFunctionEnv scope X.env.globals (clos X.env scope.names []) [] X.env.qual none .none (some X.env)) (fun cenv s₄=>
   codeAny (model X.prog X.w) X.A (.compStart (.ListComp elt [⟨.Name x px,iter,ifs,0⟩] scope pos) 0 itv acc { cenv with scope:=relabel scope X.env }) (RR acc cenv.locals) s₄) E s₃) E s:=
 uN (tg:=.Name x px) (g:=yI 0) [x] js hc hk hcell hfree (fun cl C s H ex=>wu (i:=0) hN rfl (.inl (lookup_relabel_local hx)) (.inr (lookup_relabel_local hx))) hif he hjs
  (by
   obtain⟨it,fp,tn,J,H',e,I,T,t0,hf,W,h0,hW⟩:=hit
   exact⟨it,fp,tn,J,H',e,I,T,t0,hf,W,h0,fun i m ys H2 w=>(hW i m ys H2 w).imp_right fun⟨a,b,N,c,d⟩=>⟨a,b,N,c,fun y H3 z=>⟨rfl,d y H3 z⟩⟩⟩) hR
theorem eN (js:List Nat) (N0:List Str) (sc0:Scope) (hc:X.calm=true) (hi:PI X (.Name x px) iter wi)
  (hif:∀cl C s H ex,PF (Ac X scope x js cl C s H ex) ifs tt) (he:∀cl C s H ex,PE (Ac X scope x js cl C s H ex) elt te)
  (hk:scope.kind=.function:=by rfl) (hx:scope.names.lookup x=some .local:=by rfl) (hcell:∀y∈scope.names,y.2≠.cell:=by decide +kernel)
  (hnames:∀y∈scope.names,y.2=.local->scope.names.lookup y.1=some .local:=by decide +kernel)
  (hsc:X.env.scope=sc0:=by rfl) (hfree0:∀y∈scope.names,y.2=.free->sc0.names.lookup y.1=some .cell∨sc0.names.lookup y.1=some .free:=by decide +kernel)
  (hNN:X.N=N0:=by rfl) (hN0:(x:: dB N0 js).Nodup:=by decide +kernel) (hj0:∀y∈dB N0 js,scope.names.lookup y=some .free:=by decide +kernel)
  (hs:∀x,foldedSetIterable iter X.env x=pure x:=by intro _;rfl):
  PE X (.ListComp elt [⟨.Name x px,iter,ifs,0⟩] scope pos) (Wc js wi tt te):=by
 intro pins s σ H Q I h
 have hN:(x:: dB X.N js).Nodup:=by rw [hNN];exact hN0
 have hfree:∀y∈scope.names,y.2=.free->X.env.kindOf y.1=some .cell∨X.env.kindOf y.1=some .free:=fun y hy e=>by
  show X.env.scope.names.lookup y.1=some .cell∨X.env.scope.names.lookup y.1=some .free
  rw [hsc];exact hfree0 y hy e
 have hjs:∀y∈dB X.N js,scope.names.lookup y=some .free:=by rw [hNN];exact hj0
 rw [eval_ListComp]
 have hcl:closureFor scope X.env=pure (clos X.env scope.names []):=lA fun y hy e=>I.ok.has y.1 (hfree y hy e)
 refine wpAny_comprehension_free (use:=none) rfl hs hcl hk hnames (dO (hi pins s σ H _ I h) fun xv s1 h1=>dO h1 fun it s2 h2=>?_)
 refine Be js (RR:=fun acc C=>compPost (model X.prog X.w) X.A X.xe none (EP X pins σ Q) acc C) (Q:=fun ys H2=>∀D,H2 D=none->Q (.ref D) (upd H2 D (.lst ys))) hc hk hx hcell hfree hN hjs hif he h2 ?_
 intro D C s' H2 ys m I' hD hn all fpC hCD hq
 exact⟨m,hn,fun h' sb=>⟨.ref D,_,all h' sb,rfl,hq D hD⟩⟩
theorem jX {i:Nat} {y:Str} {py spos:Pos} (js:List Nat) (N0:List Str) (sc0:Scope) (hc:X.calm=true) (hNX:X.N.Nodup) (hiy:X.N[i]?=some y) (hi:PI X (.Name x px) iter wi)
  (hif:∀cl C s H ex,PF (Ac X scope x js cl C s H ex) ifs tt) (he:∀cl C s H ex,PE (Ac X scope x js cl C s H ex) elt te)
  (hsw:swapsWith (.ListComp elt [⟨.Name x px,iter,ifs,0⟩] scope pos) (some (.Name y py)) spos.line X.env=pure true:=by rfl) (hy:X.env.scope.names.lookup y=some .local:=by rfl)
  (hk:scope.kind=.function:=by rfl) (hx:scope.names.lookup x=some .local:=by rfl) (hcell:∀y∈scope.names,y.2≠.cell:=by decide +kernel)
  (hnames:∀y∈scope.names,y.2=.local->scope.names.lookup y.1=some .local:=by decide +kernel)
  (hsc:X.env.scope=sc0:=by rfl) (hfree0:∀y∈scope.names,y.2=.free->sc0.names.lookup y.1=some .cell∨sc0.names.lookup y.1=some .free:=by decide +kernel)
  (hNN:X.N=N0:=by rfl) (hN0:(x:: dB N0 js).Nodup:=by decide +kernel) (hj0:∀y∈dB N0 js,scope.names.lookup y=some .free:=by decide +kernel)
  (hs:∀x,foldedSetIterable iter X.env x=pure x:=by intro _;rfl):
  PS X (.Assign [.Name y py] (.ListComp elt [⟨.Name x px,iter,ifs,0⟩] scope pos) spos) (Rk (Wc js wi tt te) (yI i)):=by
 intro pins s σ H D I h
 have hN:(x:: dB X.N js).Nodup:=by rw [hNN];exact hN0
 have hfree:∀y∈scope.names,y.2=.free->X.env.kindOf y.1=some .cell∨X.env.kindOf y.1=some .free:=fun y hy e=>by
  show X.env.scope.names.lookup y.1=some .cell∨X.env.scope.names.lookup y.1=some .free
  rw [hsc];exact hfree0 y hy e
 have hjs:∀y∈dB X.N js,scope.names.lookup y=some .free:=by rw [hNN];exact hj0
 rw [exec_Assign_Name_used _ _ _ _ hsw]
 refine wpAny_bind (wpAny_standAt (wpAny_bind ?_))
 show wpAny _ X.A (do let _ <-comprehension (.ListComp elt [⟨.Name x px,iter,ifs,0⟩] scope pos) scope X.env _ (newList []) false (eval iter X.env) (some (assign (.Name y py) X.env))) _ _ s
 have hcl:closureFor scope X.env=pure (clos X.env scope.names []):=lA fun y hy e=>I.ok.has y.1 (hfree y hy e)
 refine wpAny_bind (wpAny_mono (wpAny_comprehension_free (use:=some (assign (.Name y py) X.env)) (Q:=fun _ s'=>SP X pins D .next s') rfl hs hcl hk hnames
  (dO (hi pins s σ H _ I h) fun xv s1 h1=>dO h1 fun it s2 h2=>?_)) (fun _ s' hq=>wpAny_pure (wpAny_pure hq)) fun _ _ e=>e)
 refine Be js (RR:=fun acc C=>compPost (model X.prog X.w) X.A X.xe (some (assign (.Name y py) X.env)) (fun _ s'=>SP X pins D .next s') acc C) (Q:=fun ys H2=>∀D',H2 D'=none->D.nx (σ.set i (some (.ref D'))) (upd H2 D' (.lst ys))) hc hk hx hcell hfree hN hjs hif he h2 ?_
 intro D' C s' H2 ys m I' hD hn all fpC hCD hq
 show wpAny _ X.A (assign (.Name y py) X.env (.ref D')) _ _ _
 refine wpAny_assign_Name (zL I' hNX hiy (.inl hy) (v:=.ref D') rfl (fun s'' I'' ⟨a,sb,ha⟩=>?_) (.inr hy))
 obtain⟨f1,f2,f3,f4,f5,f6⟩:=fpC
 have hCa:C≠a:=by
  rcases ha with z | z
  ·rw [z];exact f2
  ·exact fun w=>f5 _ _ z w.symm
 exact⟨m,hn.sameBut sb hCa,fun h' sb'=>⟨_,_,I''.turned (t':=s''.toks) (it:=C) (fun b o hb e=>(sb'.2 b hb).trans e) f1 f2 f4 f5 f6,hq D' hD⟩⟩
end
end L2
namespace L2
open PySem PySem.Spec PyProof.Rows
noncomputable def fdOf (K:PySem.W.Frag) (f:Addr):FuncData:=match K.lookup f with
 | some ⟨_,_,.func d,_⟩=>d
 | _=>default
theorem VM {K:PySem.W.Frag} {f:Addr} {oc:Value} {od:Option Addr} {fd:FuncData} {osl:Array (Option Value)} (l:K.lookup f=some ⟨oc,od,.func fd,osl⟩):fdOf K f=fd:=by
 unfold fdOf
 rw [l]
structure d7 (K:PySem.W.Frag) (nm qn:Str) (s:Stmt) (f:Addr) (ps:List Str):Prop where
 F:Wf K nm qn s f (fdOf K f)
 b:Binds K (fdOf K f) ps []
 i:PySem.W.isFn K (.ref f)=true
theorem d7.me {K:PySem.W.Frag} {nm qn m:Str} {s:Stmt} {f C:Addr} {ps:List Str} (x:d7 K nm qn s f ps) (h:PySem.W.findIn K (.ref C) m=some (some (.ref f))):Meth K C m f:=⟨h,x.i,x.F.kp⟩
theorem d7.of {K:PySem.W.Frag} {nm qn:Str} {s:Stmt} {f:Addr} {ps:List Str} {oc:Value} {od an:Option Addr} {osl:Array (Option Value)} {kV doc pm cdv ct:Value}
  (l:K.lookup f=some ⟨oc,od,.func (PySem.W.fnOf nm qn (gW s) (fV s) (aV s) .none kV doc pm an cdv ct),osl⟩) (c:PySem.W.codeIn K cdv qn=true) (k:PySem.W.keepIn K (.ref f)=true) (i:PySem.W.isFn K (.ref f)=true)
  (h:∀(kV doc pm:Value) (an:Option Addr) (cdv ct:Value) (us:List Value),us.length=ps.length->bindArgs (PySem.W.fnOf nm qn (gW s) (fV s) (aV s) .none kV doc pm an cdv ct) ⟨us,[]⟩=pure (ps.zip us)):d7 K nm qn s f ps:=by
 have e:fdOf K f=PySem.W.fnOf nm qn (gW s) (fV s) (aV s) .none kV doc pm an cdv ct:=by
  unfold fdOf
  rw [l]
 have F:=Xv l c k
 have b:=F.binds h
 rw [<-e] at F b
 exact⟨F,b,i⟩
structure Wm (K:PySem.W.Frag) (nm qn:Str) (s:Stmt) (f:Addr) (ps:List Str):Prop where
 F:JG K nm qn s f (fdOf K f) #[.none]
 b:Binds K (fdOf K f) ps []
 i:PySem.W.isFn K (.ref f)=true
theorem Wm.me {K:PySem.W.Frag} {nm qn m:Str} {s:Stmt} {f C:Addr} {ps:List Str} (x:Wm K nm qn s f ps) (h:PySem.W.findIn K (.ref C) m=some (some (.ref f))):Meth K C m f:=⟨h,x.i,x.F.kp⟩
theorem Wm.of {K:PySem.W.Frag} {nm qn:Str} {s:Stmt} {f T:Addr} {ps:List Str} {oc oe:Value} {od an oh:Option Addr} {osl osm:Array (Option Value)} {kV doc pm cdv ct:Value} {n:Nat}
  (l:K.lookup f=some ⟨oc,od,.func (PySem.W.fnOf nm qn (gW s) (fV s) (aV s) (.ref T) kV doc pm an cdv ct),osl⟩) (d:K.lookup T=some ⟨oe,oh,.seq #[.none] n,osm⟩) (c:PySem.W.codeIn K cdv qn=true) (k:PySem.W.keepIn K (.ref f)=true) (i:PySem.W.isFn K (.ref f)=true)
  (h:∀fd:FuncData,JG K nm qn s f fd #[.none]->Binds K fd ps []):Wm K nm qn s f ps:=by
 have F:=Vs (its:=#[.none]) l c k d rfl
 have b:=h _ F
 rw [<-VM l] at F b
 exact⟨F,b,i⟩
structure lW (K:PySem.W.Frag) (mg:Str->Option Value) (nm:Str) (s:Stmt) (f:Addr) (ps:List Str):Prop where
 x:d7 K nm nm s f ps
 m:mg nm=some (.ref f)
theorem lW.of {K:PySem.W.Frag} {mg:Str->Option Value} {nm:Str} {s:Stmt} {f:Addr} {ps:List Str} (m:mg nm=some (.ref f)) (x:d7 K nm nm s f ps):lW K mg nm s f ps:=⟨x,m⟩
theorem gC {mg:Str->Option Value} {nm:Str} {u:Value} {v:V} (m:mg nm=some u) (r:RelV v u):∃u,mg nm=some u/\RelV v u:=⟨u,m,r⟩
theorem lW.F {K:PySem.W.Frag} {mg:Str->Option Value} {nm:Str} {s:Stmt} {f:Addr} {ps:List Str} (h:lW K mg nm s f ps):Wf K nm nm s f (fdOf K f):=h.x.F
theorem lW.b {K:PySem.W.Frag} {mg:Str->Option Value} {nm:Str} {s:Stmt} {f:Addr} {ps:List Str} (h:lW K mg nm s f ps):Binds K (fdOf K f) ps []:=h.x.b
noncomputable def MB (K:PySem.W.Frag) (C:Addr):List (Str×Addr)->Prop
 | []=>True
 | (m,f):: r=>PySem.W.findIn K (.ref C) m=some (some (.ref f))/\MB K C r
noncomputable def NB (K:PySem.W.Frag) (C:Addr):List Str->Prop
 | []=>True
 | f:: r=>PySem.W.findIn K (.ref C) f=some none/\NB K C r
structure J8 (K:PySem.W.Frag) (mg:Str->Option Value) (nm:Str) (C:Addr) (ms:List (Str×Addr)) (as:List Str):Prop where
 m:mg nm=some (.ref C)
 c:QB K C
 mks:PySem.W.makesIn K C=true
 kp:PySem.W.keepIn K (.ref C)=true
 me:MB K C ms
 na:NB K C as
theorem J8.M {K:PySem.W.Frag} {mg:Str->Option Value} {nm:Str} {C f:Addr} {ms:List (Str×Addr)} {as ps:List Str} {n q:Str} {s:Stmt} (h:J8 K mg nm C (("__init__",f):: ms) as) (x:d7 K n q s f ps):Mk K C f:=⟨h.mks,h.me.1,x.i,h.kp⟩
theorem Xp {K:PySem.W.Frag} {nm qn:Str} {st:Stmt} {f:Addr} {x:Str} (F:Wf K nm qn st f (fdOf K f))
  (h:∀(kV doc pm:Value) (an:Option Addr) (cdv ct v:Value),bindArgs (PySem.W.fnOf nm qn (gW st) (fV st) (aV st) .none kV doc pm an cdv ct) ⟨[v],[]⟩=pure [(x,v)]) (s:Shared) (v:Value):BindsTo s (fdOf K f) ⟨[v],[]⟩ [(x,v)]:=by
 obtain⟨oc,od,kV,doc,pm,an,cdv,ct,osl,e,lk,hcd⟩:=F.ex
 rw [e]
 exact .of_eq (h kV doc pm an cdv ct v)
theorem aaJ {K:PySem.W.Frag} {h:Heap} {C f:Addr} (X:K.In h) (_:PySem.W.findIn K (.ref C) "__init__" =some (some (.ref f))) (b:Uh K C f=true):ExcAt K C:=(Fi.ofIn b).at X
theorem us_0 {α:Type} {P:List α->Prop} (h:P []):∀us:List α,us.length=0->P us
 | [],_=>h
theorem zu {α:Type} {P:List α->Prop} (h:∀a,P [a]):∀us:List α,us.length=1->P us
 | [a],_=>h a
theorem wH {α:Type} {P:List α->Prop} (h:∀a b,P [a,b]):∀us:List α,us.length=2->P us
 | [a,b],_=>h a b
theorem Gw {α:Type} {P:List α->Prop} (h:∀a b c,P [a,b,c]):∀us:List α,us.length=3->P us
 | [a,b,c],_=>h a b c
theorem Xg {α:Type} {P:List α->Prop} (h:∀a b c d,P [a,b,c,d]):∀us:List α,us.length=4->P us
 | [a,b,c,d],_=>h a b c d
theorem Yw {α:Type} {P:List α->Prop} (h:∀a b c d e,P [a,b,c,d,e]):∀us:List α,us.length=5->P us
 | [a,b,c,d,e],_=>h a b c d e
theorem Z5 {α:Type} {P:List α->Prop} (h:∀a b c d e f,P [a,b,c,d,e,f]):∀us:List α,us.length=6->P us
 | [a,b,c,d,e,f],_=>h a b c d e f
theorem us_7 {α:Type} {P:List α->Prop} (h:∀a b c d e f g,P [a,b,c,d,e,f,g]):∀us:List α,us.length=7->P us
 | [a,b,c,d,e,f,g],_=>h a b c d e f g
theorem d7.sc {K:PySem.W.Frag} {nm qn:Str} {s:Stmt} {f:Addr} {ps:List Str} (_:d7 K nm qn s f ps) (N:List Str) (h:gm N ps (aV s):=by exact⟨rfl,rfl,rfl,by decide +kernel,rfl,by decide +kernel,by decide +kernel⟩):gm N ps (aV s):=h
theorem lW.sc {K:PySem.W.Frag} {mg:Str->Option Value} {nm:Str} {s:Stmt} {f:Addr} {ps:List Str} (_:lW K mg nm s f ps) (N:List Str) (h:gm N ps (aV s):=by exact⟨rfl,rfl,rfl,by decide +kernel,rfl,by decide +kernel,by decide +kernel⟩):gm N ps (aV s):=h
noncomputable abbrev FO (P:Program) (w:World) (K:PySem.W.Frag) (mg:Str->Option Value) (base:Heap) (k:Nat) (f:Addr) (ps:List Str) (sp:Sp):Prop:=iK P w K mg base Fw k f (fdOf K f) ps sp
theorem O2 {N ps:List Str} {sc:Scope} (h:gm N ps sc:=by exact⟨rfl,rfl,rfl,by decide +kernel,rfl,by decide +kernel,by decide +kernel⟩):gm N ps sc:=h
section
variable {X:Cx} {k k' i:Nat} {f C:Addr} {ps as:List Str} {ms:List (Str×Addr)} {sp:Sp} {x m nm qn n:Str} {p pos apos pos':Pos} {e o:Expr} {es:List Expr} {ta te:TE} {t:TA} {s:Stmt} {N:List Str}
theorem dJ (F:iK X.prog X.w X.K X.mg X.base Fw k f (fdOf X.K f) ps sp) (g:lW X.K X.mg x s f ps) (hr:ji k' X.A) (ha:PA X (e:: es) t) (hk:k<=k':=by decide) (hg:Gl X x:=by rfl)
  (hdb:(x == ("__debug__" :Str))=false:=by decide) (he:starEach (e:: es) X.env=(false,eval e X.env):: starEach es X.env:=by rfl) (hpl:(backTo pos (starEach es X.env)).any (·.1)=false:=by rfl):
  PE X (.Call (.Name x p) (e:: es) [] pos) (Wv sp [] E0 t):=Vv F (hr.mono hk) hg g.m g.F.kp g.b .nil ik ha hdb he hpl
theorem vJ {pl:Sem Bool} (he:PE X o ta) (c:J8 X.K X.mg n C ms as) (hm:PySem.W.findIn X.K (.ref C) m=some (some (.ref f))) (F:iK X.prog X.w X.K X.mg X.base Fw k f (fdOf X.K f) ps sp) (g:d7 X.K nm qn s f ps) (hr:ji k' X.A) (ha:PA X (e:: es) t)
  (hk:k<=k':=by decide) (hst:starEach (e:: es) X.env=(false,eval e X.env):: starEach es X.env:=by rfl) (hpl:(backTo pos (starEach es X.env)).any (·.1)=false:=by rfl)
  (ht:eval (.Call (.Attribute o m apos) (e:: es) [] pos) X.env=(do
   let ov <-eval o X.env
   standAt apos.atName
   let (f,first) <-holding [ov] (getMethod ov m pl)
   callWith pos f first (backTo pos (starEach (e:: es) X.env)) (backToKw pos (keywordEach [] X.env))):=by rfl):
  PE X (.Call (.Attribute o m apos) (e:: es) [] pos) (Oo C m sp [] E0 ta t):=PQ he c.c (g.me hm) F (hr.mono hk) g.b .nil ik ha hst hpl ht
theorem Nh {pl:Sem Bool} (he:PE X o ta) (c:J8 X.K X.mg n C ms as) (hm:PySem.W.findIn X.K (.ref C) m=some (some (.ref f))) (F:iK X.prog X.w X.K X.mg X.base Fw k f (fdOf X.K f) ps sp) (g:d7 X.K nm qn s f ps) (hr:ji k' X.A)
  (hk:k<=k':=by decide) (ht:eval (.Call (.Attribute o m apos) [] [] pos) X.env=(do
   let ov <-eval o X.env
   standAt apos.atName
   let (f,first) <-holding [ov] (getMethod ov m pl)
   callWith pos f first (backTo pos (starEach [] X.env)) (backToKw pos (keywordEach [] X.env))):=by rfl):
  PE X (.Call (.Attribute o m apos) [] [] pos) (Oo C m sp [] E0 ta Q6):=Ls he c.c (g.me hm) F (hr.mono hk) g.b .nil ik ht
theorem gN {sc:Scope} (S:gm X.N ps sc) (i:Nat) (hi:X.N[i]?=some x:=by rfl) (hx:Loc X.env.scope x:=by first | exact Or.inl rfl | exact Or.inr rfl) (hf:X.fn x=true∨X.env.scope.names.lookup x=some .local:=by first | exact .inl rfl | exact .inr rfl | assumption):PG X (.Name x pos) (yI i):=wu S.nd hi hx hf
theorem sN {sc:Scope} (S:gm X.N ps sc) (i:Nat) (he:PE X e te) (hi:X.N[i]?=some x:=by rfl) (hx:Loc X.env.scope x:=by first | exact Or.inl rfl | exact Or.inr rfl) (hs:swapsWith e (some (.Name x pos')) pos.line X.env=pure false:=by rfl) (hf:X.fn x=true∨X.env.scope.names.lookup x=some .local:=by first | exact .inl rfl | exact .inr rfl | assumption):
  PS X (.Assign [.Name x pos'] e pos) (Rk te (yI i)):=Xf S.nd hi hx he hs hf
theorem JL (h1:PE X o ta) (h2:PA X (e:: es) t) (hbase:attributeBase o "append" X.env (eval o X.env)=eval o X.env:=by rfl)
  (hfew:((backTo pos (starEach (e:: es) X.env)).all (fun x=>!x.1) && (backToKw pos (keywordEach [] X.env)).all (fun x=>x.1.isSome) && decide ((e:: es).length+([]:List Keyword).length+(if ([]:List Keyword).isEmpty then 0 else 1) <30))=true:=by rfl)
  (hline:(apos.endLine == pos.line)=true:=by rfl) (hs:starEach (e:: es) X.env=(false,eval e X.env):: starEach es X.env:=by rfl) (hplain:(backTo pos (starEach es X.env)).any (·.1)=false:=by rfl):
  PE X (.Call (.Attribute o "append" apos) (e:: es) [] pos) (tBM X.K "list" Od ta t):=yG PySem.F.plainAttrs_list PySem.F.slot_list_append PySem.F.type_list_append Qq h1 h2 hbase hfew hline hs hplain
end
theorem ln {sp:Sp} {ps:List Str} (h:∀vs H Q E,sp vs H Q E->vs.length=ps.length:=by
 intro _ _ _ _ h
 first
 | (cases h;subst_vars;rfl)
 | (cases h;rename_i h;cases h;subst_vars;rfl)
 | (obtain⟨_,rfl,_⟩:=h;rfl)
 | (obtain⟨_,_,rfl,_⟩:=h;rfl)
 | (obtain⟨_,_,_,rfl,_⟩:=h;rfl)):∀vs H Q E,sp vs H Q E->vs.length=ps.length:=h
theorem Hd {X:Cx}:jW X (.builtin "len") (fun xs H Q=>∃d kvs,xs=[.ref d]/\Rd H d (.dK kvs)/\Q (.int (kvs.length:Nat)) H):=by
 intro pins s σ H xs us Q I rx h
 obtain⟨d,kvs,rfl,hr,q⟩:=h
 obtain⟨u,rfl,ru⟩:=vals1 rx
 cases ru
 obtain⟨z,hd,vs,rel,dd⟩:=vC I.hok hr
 have hl:kvs.length=vs.length:=Paired.length rel
 have hs:sizeLine=16777216:=sizeLine_eq
 refine call_len_dict (knd:=bV X.prog X.w) hd dd (by omega) ?_
 rw [<-hl]
 exact⟨.int _,H,I.tok _,⟨_,rfl⟩,q⟩
noncomputable def U7:Option Key->Value->Bool
 | some k,v=>Ay k v
 | none,.none=>true
 | none,_=>false
theorem jL {v:Value} (h:U7 none v=true):v=.none:=by
 cases v <;> first | rfl | cases h
theorem Fe {k:Key} (h:Ay k .none=true):False:=by
 rcases dw h with ⟨i,t,_,e⟩ | ⟨x,t,_,e⟩ <;> cases e
theorem YF {A:Around} {s:Shared}:SeqAt.EqAt A s .none .none true:=fun prog w E Q h=>by
 unfold eqBool
 refine wpAny_holding ?_
 refine wpAny_ite_split (fun _=>wpAny_bind (wpAny_rule (wpAny_pure h))) (fun z=>absurd rfl z)
noncomputable def Pq (prog:Program) (w:World):PySem.KeyKind prog w (Option Key) where
 is:=U7
 hash:=fun k=>match k with
  | some k=>YD w k
  | none=>reduceHash 0xFCA86420
 inj:=fun v a b ha hb=>by
  cases a with
  | none=>
   have:=jL ha
   subst this
   cases b with
   | none=>rfl
   | some b=>exact(Fe hb).elim
  | some a=>
   cases b with
   | none=>
    have:=jL hb
    subst this
    exact(Fe ha).elim
   | some b=>rw [(bV prog w).inj v a b ha hb]
 byValue:=fun k v h=>by
  cases k with
  | none=>rw [jL h];rfl
  | some k=>exact(bV prog w).byValue k v h
 pyHash:=fun {A E s k v Q} hv h=>by
  cases k with
  | none=>
   rw [jL hv]
   exact PySem.W.pyHash_slot (T:= "NoneType") rfl F.slot_NoneType_hash F.entry_NoneType_hash (F.args_NoneType_hash_1 _) (beq_builtin_none _) (.inl rfl) (wpAny_bind (wpAny_pure (wpAny_bind (wpAny_mkInt (wpAny_pure ⟨_,_,rfl,h⟩)))))
  | some k=>exact(bV prog w).pyHash hv h
 eqBool:=fun {A E s a b u v Q} hu hv h=>by
  cases a with
  | none=>
   rw [jL hu]
   cases b with
   | none=>rw [jL hv];exact YF _ _ _ _ h
   | some b=>
    rcases dw hv with ⟨j,x,rfl,rfl⟩ | ⟨y,x,rfl,rfl⟩
    ·exact SeqAt.EqAt.none_int j x _ _ _ _ h
    ·exact SeqAt.EqAt.none_str y x _ _ _ _ h
  | some a=>
   cases b with
   | none=>
    rw [jL hv]
    rcases dw hu with ⟨j,x,rfl,rfl⟩ | ⟨y,x,rfl,rfl⟩
    ·exact SeqAt.EqAt.int_none j x _ _ _ _ h
    ·exact SeqAt.EqAt.str_none y x _ _ _ _ h
   | some b=>exact(bV prog w).eqBool (a:=a) (b:=b) hu hv (by simpa using h)
 «strs» :=fun k x t v h=>by
  cases k with
  | none=>cases h
  | some k=>exact(bV prog w).strs k x t v h
theorem UG {P:Program} {w:World} {h:Heap} {a:Addr} {kvs:List (Key×Value)} (hd:h.DictOf (bV P w) a kvs):∃f,h.MapOf (Pq P w) a f/\f none=none:=by
 obtain⟨o,es,ep,ho,hc,hdat,hk,hp,_⟩:=hd
 refine⟨findBy U7 es,⟨o,es,ep,ho,hc,hdat,fun e he=>?_,fun k=>rfl⟩,?_⟩
 ·obtain⟨k,h1,h2⟩:=hk e he
  exact⟨some k,h1,h2⟩
 ·unfold findBy
  cases hf:es.find? fun e=>U7 none e.key with
  | none=>rfl
  | some e=>
   have h1:=Array.find?_some hf
   have h2:=Array.mem_of_find?_eq_some hf
   obtain⟨k,h3,_⟩:=hk e h2
   rw [jL h1] at h3
   exact(Fe h3).elim
inductive Nz (Q:VK) (x y:V) (H2:Hp):Prop where
 | key:∀a o,x=.ref a->dM H2 a y o->Q (.bl o.isSome) H2->Nz Q x y H2
 | non:∀a kvs,x=.ref a->y=.non->Rd H2 a (.dK kvs)->Q (.bl false) H2->Nz Q x y H2
noncomputable def S8 (ty td:TE):TE:=fun σ H Q=>ty σ H fun y H1=>td σ H1 fun x H2=>Nz Q x y H2
theorem V8 {X:Cx} {o i:Expr} {td ty:TE} (hu:X.A.units+1 <cLine) (hi:PE X i ty) (ho:PE X o td):PC X .In i o (S8 ty td):=by
 intro pins s σ H Q I h
 refine dO (hi pins s σ H _ I h) fun iv s1 ⟨y,H1,I1,ry,q1⟩=>dO (ho pins s1 σ H1 _ I1 q1) fun u s2 hpt=>?_
 obtain⟨x,H2,I2,rx,q2⟩:=hpt
 rcases q2 with ⟨a,ov,ex,g,q2⟩ | ⟨a,kvs,ex,ey,hr,q2⟩
 ·subst ex
  obtain rfl:u=Value.ref a:=rx
  exact Zg hu I2 g ry fun s3 I3=>⟨.bl ov.isSome,H2,I3,rfl,q2⟩
 ·subst ex ey
  obtain rfl:u=Value.ref a:=rx
  obtain rfl:iv=Value.none:=ry
  obtain⟨z,hd,vs,rel,dd⟩:=vC I2.hok hr
  obtain⟨f,hm,hf⟩:=UG dd
  refine wpAny_in_of (knd:=Pq X.prog X.w) (k:=none) rfl hd hm ?_
  rw [hf]
  exact⟨.bl false,H2,I2.tok _,rfl,q2⟩
end L2
namespace PySem
open PyProof.Rows
section
variable {prog:Program} {w:World} {A:Around} {R:Result->Shared->Prop} {I:Addr} {fp wr:List Addr} {G:Array GenState->Array GenState->Prop} {n:Nat} {P:Nat->Value->Prop} {St:Nat->Shared->Prop} {KK:Type} [DecidableEq KK] {knd:KeyKind prog w KK}
end
section
variable {prog:Program} {w:World} {A:Around} {E:Value->Shared->Prop} {s:Shared} {KK:Type} [DecidableEq KK] {knd:KeyKind prog w KK}
end
end PySem
namespace L2
open PySem PySem.Spec PyProof.Rows
theorem range_any (bs:List Bool):((List.range bs.length).any fun i=>(bs[i]?).getD true)=bs.any id:=by
 rw [Bool.eq_iff_iff,List.any_eq_true,List.any_eq_true]
 constructor
 ·rintro⟨i,hi,e⟩
  have hi:=List.mem_range.mp hi
  rw [List.getElem?_eq_getElem hi] at e
  exact⟨bs[i],List.getElem_mem hi,e⟩
 ·rintro⟨b,hb,e⟩
  obtain⟨i,hi,rfl⟩:=List.mem_iff_getElem.mp hb
  exact⟨i,List.mem_range.mpr hi,by rw [List.getElem?_eq_getElem hi];exact e⟩
theorem Tq {X:Cx} (hc:X.calm=true):jW X (.builtin "any") (fun xs H Q=>∃(p:Addr) (bs:List Bool),xs=[.ref p]/\bH X.K H p (bs.map V.bl)/\Q (.bl (bs.any id)) H):=by
 intro pins s σ H xs us Q I r h
 obtain⟨p,bs,rfl,hq,q⟩:=h
 obtain⟨u,rfl,rx⟩:=vals1 r
 cases rx
 obtain⟨its,rv,pl,_⟩:=I.list hq
 have hl:=pl.isList
 have hlt:p <s.heap.objs.size:=by obtain⟨_,e,_⟩:=hl;exact Heap.lt_size e
 have hb:∀i v,its[i]?=some v->∃b,bs[i]?=some b/\v=Value.bool b:=fun i v e=>by
  have hi:i <its.length:=(List.getElem?_eq_some_iff.mp e).1
  have hi':i <bs.length:=by have:=rv.length;rw [List.length_map] at this;omega
  obtain⟨u,e',r'⟩:=rv.get (i:=i) (x:=.bl bs[i]) (by rw [List.getElem?_map,List.getElem?_eq_getElem hi'];rfl)
  rw [e] at e'
  cases e'
  exact⟨bs[i],List.getElem?_eq_getElem hi',r'⟩
 refine call_any_walk (wpAny_pyIter_list hl ?_)
 refine⟨s.heap.objs.size,[s.heap.objs.size,p],[s.heap.objs.size],its.toArray.size,_,_,fun i=>(bs[i]?).getD true,rfl,Walks.list (A:=X.A.in1) (I.ok.hd hc) _ p (Nat.ne_of_lt hlt) its.toArray,
  ⟨⟨_,Heap.get?_push_size _ rfl,rfl,rfl⟩,hl.push _⟩,fun i v s' Q' E' hP hQ=>?_,fun h' tk hk=>?_⟩
 ·obtain⟨b,e,rfl⟩:=hb i v (by simpa using hP)
  simp only [e,Option.getD_some] at hQ
  exact wpAny_truthy_bool hQ
 ·have e:((List.range its.toArray.size).any fun i=>(bs[i]?).getD true)=bs.any id:=by
   have hlen:=rv.length
   rw [List.length_map] at hlen
   rw [List.size_toArray,<-hlen];exact range_any bs
  rw [e]
  exact⟨.bl _,H,I.kept (LSm.kept_iter hk),rfl,q⟩
theorem Xm:bootBuiltins "any" =some (.builtin "any"):=by decide +kernel
noncomputable def jr (val:Nat->Str):Nat->List Str
 | 0=>[]
 | i+1=>if val i∈jr val i then jr val i else jr val i ++ [val i]
theorem Ly (val:Nat->Str):∀i,(jr val i).length<=i
 | 0=>Nat.le_refl _
 | i+1=>by
  have:=Ly val i
  unfold jr
  split
  ·omega
  ·rw [List.length_append,List.length_singleton];omega
theorem Oc {xs:List Str} (nd:xs.Nodup):∀i,i<=xs.length->jr (fun i=>(xs[i]?).getD "") i=xs.take i
 | 0,_=>by simp [jr]
 | i+1,h=>by
  have hi:i <xs.length:=by omega
  unfold jr
  rw [Oc nd i (by omega),List.getElem?_eq_getElem hi,Option.getD_some,if_neg,List.take_add_one,List.getElem?_eq_getElem hi]
  ·rfl
  ·intro hm
   obtain⟨j,hj,e⟩:=List.mem_iff_getElem.mp hm
   rw [List.length_take] at hj
   rw [List.getElem_take] at e
   have:=(List.getElem_inj nd).mp e
   omega
section
variable {prog:Program} {w:World} {A:Around}
theorem HN {R:Result->Shared->Prop} {I:Addr} {fp wr:List Addr} {G:Array GenState->Array GenState->Prop} {n:Nat} {P:Nat->Value->Prop} {St:Nat->Shared->Prop} (W:WalksS prog w A.in1 I fp wr G n P St) {S:Addr} (hS:S∉fp) {val:Nat->Str} (hv:∀i v,P i v->∃t,v=.str (val i) t) (hb:n+1 <scanBound):
  ∀(k i:Nat) (s:Shared),i+k=n->St i s->s.heap.SetOf (PySem.strKind prog w) S (fun x=>decide (x∈jr val i)) (jr val i).length->
   (∀s',Moved (S:: wr) G s s'->s'.heap.SetOf (PySem.strKind prog w) S (fun x=>decide (x∈jr val n)) (jr val n).length->R (.ok (.ret .none)) s')->
   codeAny (model prog w) A (.builtin "set.update.loop" ⟨[.ref S,.ref I],[]⟩) R s
 | 0,i,s,e,st,hs,hR=>by
  have e:i=n:=e
  subst e
  refine codeAny_builtin PyProof.Rows.F.entry_set_update_loop ?_
  rw [Around.under_plainId PyProof.Rows.F.plain_set_update_loop _]
  refine wpAny_bind (m:=pyNext (.ref I)) (W.done s _ _ st fun s' m=>?_)
  refine wpAny_pure (hR s' (m.mono fun b hb=>List.mem_cons_of_mem _ hb) ?_)
  obtain⟨o,es,ep,t,ho,r⟩:=hs
  exact⟨o,es,ep,t,m.heap S _ (fun z=>hS (W.sub _ z)) ho,r⟩
 | k+1,i,s,e,st,hs,hR=>by
  refine codeAny_builtin PyProof.Rows.F.entry_set_update_loop ?_
  rw [Around.under_plainId PyProof.Rows.F.plain_set_update_loop _]
  refine wpAny_bind (m:=pyNext (.ref I)) (W.item i s _ _ (by omega) st fun v s' hP st' m=>?_)
  obtain⟨t,rfl⟩:=hv i v hP
  have hs':s'.heap.SetOf (PySem.strKind prog w) S (fun x=>decide (x∈jr val i)) (jr val i).length:=by
   obtain⟨o,es,ep,tb,ho,r⟩:=hs
   exact⟨o,es,ep,tb,m.heap S _ (fun z=>hS (W.sub _ z)) ho,r⟩
  show wpAny _ A.in1 (holding [Value.str (val i) t] (setAdd S (.str (val i) t)) >>= _) _ _ s'
  refine wpAny_bind (wpAny_holding ?_)
  unfold setAdd
  refine wpAny_holding (wpAny_bind ((PySem.strKind prog w).pyHash (PySem.strKind_is _ _ _ _) ?_))
  have hl:=Ly val i
  refine wpAny_setAddHashed_of (knd:=PySem.strKind prog w) (s:={ s' with toks:=s'.toks+1 }) (PySem.strKind_is _ _ _ _) rfl hs' (by omega) fun h' hk h2=>?_
  have h3:h'.SetOf (PySem.strKind prog w) S (fun x=>decide (x∈jr val (i+1))) (jr val (i+1)).length:=by
   refine SetOf_congr h2 (fun x=>?_) ?_
   ·show(decide (x∈jr val i) || decide (x=val i))=decide (x∈if val i∈jr val i then jr val i else jr val i ++ [val i])
    by_cases hm:val i∈jr val i
    ·rw [if_pos hm]
     by_cases ex:x=val i
     ·rw [ex,decide_eq_true hm];rfl
     ·rw [decide_eq_false ex,Bool.or_false]
    ·rw [if_neg hm,Bool.eq_iff_iff];simp
   ·show(if decide (val i∈jr val i)=true then _ else _)=(if val i∈jr val i then jr val i else jr val i ++ [val i]).length
    by_cases hm:val i∈jr val i
    ·rw [if_pos (decide_eq_true hm),if_pos hm]
    ·rw [if_neg (by simp [hm]),if_neg hm,List.length_append,List.length_singleton]
  refine wpAny_pure ⟨plainId_quiet PyProof.Rows.F.plain_set_update_loop _,HN W hS hv hb k (i+1) _ (by omega) (W.frame _ s' _ _ st' (Nat.le_succ _) fun b hb o e=>?_) h3 fun s2 m2 hs2=>?_⟩
  ·rw [hk.2 b fun z=>hS (by rw [<-z];exact hb)];exact e
  ·refine hR s2 (Moved.trans W.gtrans ((m.mono fun b hb=>List.mem_cons_of_mem _ hb).then_heap (Nat.le_succ _) fun b o hb e=>?_) m2) hs2
   rw [hk.2 b fun z=>hb (by rw [z];exact List.mem_cons_self)];exact e
set_option maxHeartbeats 3200000 in
theorem DG {E:Value->Shared->Prop} {s:Shared} {l:Addr} {vs:List Value} {xs:List Str} {Q:Value->Shared->Prop} (hh:A.handled=none) (hl:s.heap.IsList l vs.toArray) (hv:∀(i:Nat) (v:Value),vs[i]?=some v->∃t,v=.str ((xs[i]?).getD "") t) (hb:vs.length+1 <scanBound)
  (h:∀(h':Heap) (tk:Nat),h'.SetOf (PySem.strKind prog w) s.heap.objs.size (fun x=>decide (x∈jr (fun i=>(xs[i]?).getD "") vs.length)) (jr (fun i=>(xs[i]?).getD "") vs.length).length->(∀b o,s.heap.get? b=some o->h'.get? b=some o)->Q (.ref s.heap.objs.size) { s with heap:=h',toks:=tk }):
  wpAny (model prog w) A (call (.type "set") [.ref l]) Q E s:=by
 obtain⟨c,tl,hmro⟩:=PySem.F.called_set.mro
 have hmade:=PySem.F.called_set.made
 have hsub:=PySem.F.called_set.sub
 refine wpAny_call (codeAny_of_tree ?_)
 show wpAny _ _ (callAny (.type "set") _) _ _ _
 refine wpAny_pure ⟨Code.quiet_builtin _ (by decide +kernel),codeAny_builtin PySem.F.entry_type_call ?_⟩
 rw [Around.under_plain (weight_type_call_type "set" [.ref l] []) rfl]
 have h1:=PySem.F.called_set.notType
 have h2:=PySem.F.called_set.canCreate
 have hct:=PySem.F.typeCall_set_1 (.ref l)
 repeat (any_goals (first | assumption | wp_step))
 refine codeAny_mono (code_set_new_1 (.ref l) (E:=E) (Q₁:=fun ob s1=>∃led:Bool,ob=.ref s.heap.objs.size/\s1={ s with heap:=s.heap.push { cls:=.type "set",dict:=none,data:=.set #[] 0 (.fresh 0 0 led) } }) fun led=>⟨led,rfl,rfl⟩) fun r s1 hr=>?_
 match r,hr with
 | .error e,hr=>exact hr
 | .ok (.ret ob),hr=>
  obtain⟨led,rfl,rfl⟩:=hr
  have hS:(s.heap.push { cls:=.type "set",dict:=none,data:=.set #[] 0 (.fresh 0 0 led) }).get? s.heap.objs.size=some { cls:=.type "set",dict:=none,data:=.set #[] 0 (.fresh 0 0 led) }:=Heap.get?_push_size _ rfl
  have hT:Shared.TypeIs { s with heap:=s.heap.push { cls:=.type "set",dict:=none,data:=.set #[] 0 (.fresh 0 0 led) } } (.ref s.heap.objs.size) "set" :=⟨_,hS,rfl⟩
  have hli:=PySem.F.called_set.init.lookup
  have hbi:=PySem.F.called_set.init.bind (.ref s.heap.objs.size)
  repeat (any_goals (first | assumption | wp_step))
  refine codeAny_mono (codeAny_call_builtin (R:=wants (fun v s2=>v=.none/\∃h' tk,s2={ s with heap:=h',toks:=tk }/\h'.SetOf (PySem.strKind prog w) s.heap.objs.size (fun x=>decide (x∈jr (fun i=>(xs[i]?).getD "") vs.length)) (jr (fun i=>(xs[i]?).getD "") vs.length).length/\∀b o,s.heap.get? b=some o->h'.get? b=some o) E) PySem.F.called_set.init.plain PySem.F.entry_set_init (check_set_init_1 hT ?_)) fun r2 s2 hr2=>?_
  ·obtain⟨⟨oc,od,dt,sl⟩,hol,e1,nl,e2⟩:=hl
   dsimp only at e1 e2
   subst e1 e2
   have hol':(s.heap.push { cls:=.type "set",dict:=none,data:=.set #[] 0 (.fresh 0 0 led) }).get? l=some { cls:=.type "list",dict:=od,data:=.seq vs.toArray nl,slots:=sl }:=Heap.get?_push_of_some _ hol
   have hl1:(s.heap.push { cls:=.type "set",dict:=none,data:=.set #[] 0 (.fresh 0 0 led) }).IsList l vs.toArray:=⟨_,hol',rfl,nl,rfl⟩
   have a1:=PySem.F.sub_list_set
   have a2:=PySem.F.sub_list_frozenset
   have a3:(Value.type "list" == Value.type "dict")=false:=by decide
   unfold Builtin.«set.__init__» noKeywords Builtin.Frozenset.updateFrom
   generalize hPI:pyIter=PI
   wp_walk
   subst hPI
   refine wpAny_pyIter_list hl1 (wpAny_bind (wpAny_runValue ?_))
   have hlt:l <s.heap.objs.size:=Heap.lt_size hol
   have hz:(s.heap.push { cls:=.type "set",dict:=none,data:=.set #[] 0 (.fresh 0 0 led) }).objs.size=s.heap.objs.size+1:=Heap.size_push ..
   refine HN (n:=vs.toArray.size) ((Walks.list (by simp [hh]) _ l (Nat.ne_of_lt (by rw [hz];exact Nat.lt_succ_of_lt hlt)) vs.toArray).toS) (S:=s.heap.objs.size) (by rw [hz];simp;exact fun z=>Nat.ne_of_lt hlt z.symm) (val:=fun i=>(xs[i]?).getD "") (fun i v e=>hv i v (by simpa using e)) (by simpa using hb) vs.toArray.size 0 _ (Nat.zero_add _) ⟨⟨_,Heap.get?_push_size _ rfl,rfl,rfl⟩,hl1.push _⟩ ?_ ?_
   ·refine SetOf_congr ((setObjOf_fresh (knd:=PySem.strKind prog w) led).setOf (Heap.get?_push_of_some _ hS) (by unfold scanBound;omega)) (fun _=>by simp [jr]) rfl
   ·rintro⟨h',g',d',tk',os'⟩ m hs
    obtain rfl:g'=s.gens:=m.gens
    obtain rfl:d'=s.drawn:=m.drawn
    obtain rfl:os'=s.os:=m.os
    rw [List.size_toArray] at hs
    show wpAny _ _ _ _ _ _
    refine wpAny_pure ?_
    show wpAny _ _ (ret Value.none) _ _ _
    refine wpAny_pure ⟨rfl,h',tk',rfl,hs,fun b o e=>?_⟩
    have hb:=Heap.lt_size e
    exact m.heap b o (by rw [hz];simp;exact⟨Nat.ne_of_lt hb,Nat.ne_of_lt (Nat.lt_succ_of_lt hb)⟩) (Heap.get?_push_of_some _ (Heap.get?_push_of_some _ e))
  ·match r2,hr2 with
   | .error e,hr2=>exact hr2
   | .ok (.ret v),hr2=>
    obtain⟨rfl,h',tk,rfl,hs,hk⟩:=hr2
    repeat (any_goals (first | assumption | wp_step))
    exact h _ _ hs hk
   | .ok .next,hr2=>exact hr2.elim
   | .ok .brk,hr2=>exact hr2.elim
   | .ok .cont,hr2=>exact hr2.elim
 | .ok .next,hr=>exact hr.elim
 | .ok .brk,hr=>exact hr.elim
 | .ok .cont,hr=>exact hr.elim
end
noncomputable def VJ (K:PySem.W.Frag) (te:TE):TE:=fun σ H Q=>te σ H fun x H1=>∃(a:Addr) (xs:List Str),x=.ref a/\bH K H1 a (xs.map V.str)/\xs.length<=1000/\Q (.int ((jr (fun i=>(xs[i]?).getD "") xs.length).length:Nat)) H1
theorem XN:bootBuiltins "set" =some (.type "set"):=by decide +kernel
theorem QM {X:Cx} {e:Expr} {te:TE} {p p2 pos pos2:Pos} (hc:X.calm=true) (gl:Gl X "len") (ml:X.mg "len" =none) (gs:Gl X "set") (ms:X.mg "set" =none) (he:PE X e te) (h1:starEach [e] X.env=[(false,eval e X.env)]:=by rfl):PE X (.Call (.Name "len" p) [.Call (.Name "set" p2) [e] [] pos2] [] pos) (VJ X.K te):=by
 intro pins s σ H Q I h
 refine wpAny_Call_Name_kw (zU I gl ml cP ?_ (by decide) (by decide))
 refine PyProof.Rows.callWith_builtin1 (env:=X.env) (rest:=[]) ?_ rfl rfl
 refine Calls.spliced_cons (wpAny_Call_Name_kw (zU I gs ms XN ?_ (by decide) (by decide)))
 refine PyProof.Rows.callWith_type1 (env:=X.env) (rest:=[]) ?_ h1 rfl
 rw [h1]
 refine Calls.spliced_cons (dO (he pins s σ H _ I h) fun u s1 hpt=>?_)
 obtain⟨x,H1,I1,r1,a,xs,ex,hq,hl,q⟩:=hpt
 subst ex
 cases r1
 refine Calls.spliced_nil ?_
 obtain⟨its,rv,pl,_⟩:=I1.list hq
 have hn:=rv.length
 rw [List.length_map] at hn
 refine DG (xs:=xs) (I1.ok.hd hc) pl.isList (fun i v e=>?_) (by unfold scanBound;omega) fun h' tk hs hk=>?_
 ·have hi:i <xs.length:=by have:=(List.getElem?_eq_some_iff.mp e).1;omega
  obtain⟨u,e',r'⟩:=rv.get (i:=i) (x:=.str xs[i]) (by rw [List.getElem?_map,List.getElem?_eq_getElem hi];rfl)
  rw [e] at e'
  cases e'
  obtain⟨t,rfl⟩:=r'
  exact⟨t,by rw [List.getElem?_eq_getElem hi];rfl⟩
 refine Calls.spliced_nil ?_
 obtain⟨o,es,ep,t,ho,c1,c2,_,_,c3,c4,c5⟩:=hs
 refine call_len_set ho c1 c2 c4 (by unfold scanBound at c3;omega) ⟨.int _,H1,I1.kept hk,?_,q⟩
 rw [hn,<-c5]
 exact⟨_,rfl⟩
theorem JG.binds1 {K:PySem.W.Frag} {x qual:Str} {st:Stmt} {f:Addr} {fd:FuncData} {ps:List Str} {n:Nat} (F:JG K x qual st f fd #[.none]) (hn:n+1=ps.length)
  (h:∀(T:Addr) (kV doc pm:Value) (an:Option Addr) (cdv ct:Value) (us:List Value),us.length=n->∃k,bindArgs (PySem.W.fnOf x qual (gW st) (fV st) (aV st) (.ref T) kV doc pm an cdv ct) ⟨us,[]⟩=seqItems? (.ref T) >>= k/\k (some #[.none])=pure (ps.zip (us ++ [.none]))):Binds K fd ps [.none]:=by
 obtain⟨oc,od,T,kV,doc,pm,an,cdv,ct,osl,o,m,rfl,lk,hcd,hT,ho⟩:=F.ex
 intro s us X hl
 rw [List.length_append,List.length_singleton] at hl
 obtain⟨k,h1,h2⟩:=h T kV doc pm an cdv ct us (by omega)
 exact .of_defaults rfl (X _ _ hT) ho h1 h2
theorem Wm.b1 {K:PySem.W.Frag} {nm qn:Str} {s:Stmt} {f:Addr} {ps:List Str} {n:Nat} (x:Wm K nm qn s f ps)
  (h:∀(T:Addr) (kV doc pm:Value) (an:Option Addr) (cdv ct:Value) (us:List Value),us.length=n->∃k,bindArgs (PySem.W.fnOf nm qn (gW s) (fV s) (aV s) (.ref T) kV doc pm an cdv ct) ⟨us,[]⟩=seqItems? (.ref T) >>= k/\k (some #[.none])=pure (ps.zip (us ++ [.none]))) (hn:n+1=ps.length:=by rfl):Binds K (fdOf K f) ps [.none]:=x.F.binds1 hn h
end L2
namespace One
open PySem PySem.W PySem.Calls PyProof.Rows
def HQ:Nat->BT->List Obj->BT
 | _,t,[]=>t
 | n,t,o:: r=>HQ (n+1) (t.ins n o) r
def Js:Nat->BT->List Obj->Bool
 | _,_,[]=>true
 | n,t,o:: r=>((t.ins n o).get n).isSome && Js (n+1) (t.ins n o) r
theorem Ia {life:Life}:∀(l:List Obj) (n:Nat) (t:BT) (as:List Obj),absHeap t n life=⟨as.toArray,life⟩->Js n t l=true->absHeap (HQ n t l) (n+l.length) life=⟨(as ++ l).toArray,life⟩
 | [],n,t,as,h,_=>by simpa [HQ] using h
 | o:: r,n,t,as,h,k=>by
  simp only [Js,Bool.and_eq_true] at k
  have e:=absHeap_ins (life:=life) k.1
  rw [h] at e
  have:=Ia r (n+1) (t.ins n o) (as ++ [o]) (by rw [e];simp [Heap.push]) k.2
  rw [List.append_assoc] at this
  rw [List.length_cons,show n+(r.length+1)=n+1+r.length by omega]
  exact this
def Zz (tb:String->Option Builtin) (p:Program) (w:World) (m:Nat) (an:Option Value):Nat->SharedT->Thread->Option (SharedT×Thread)
 | 0,s,t=>some (s,t)
 | n+1,s,t=>match through t with
  | true=>some (s,t)
  | false=>match stepOk m an t with
   | false=>none
   | true=>match stepT (denote tb) p w s t with
    | some (s',t')=>Zz tb p w m an n s' t'
    | none=>none
theorem Tv {tb:String->Option Builtin} {p:Program} {w:World} {m:Nat} {an:Option Value}:∀{n:Nat} {s s':SharedT} {t t':Thread},Zz tb p w m an n s t=some (s',t')->through t'=true->topRun tb p w m an (n+1) s.abs t=some s'.abs
 | 0,s,s',t,t',h,z=>by
  obtain⟨rfl,rfl⟩:=Prod.mk.inj (Option.some.inj h)
  unfold topRun
  rw [z]
 | n+1,s,s',t,t',h,z=>by
  unfold Zz at h
  unfold topRun
  cases e1:through t with
  | true=>
   rw [e1] at h
   obtain⟨rfl,rfl⟩:=Prod.mk.inj (Option.some.inj h)
   rfl
  | false=>
   rw [e1] at h
   cases e2:stepOk m an t with
   | false=>rw [e2] at h;cases h
   | true=>
    rw [e2] at h
    cases e3:stepT (denote tb) p w s t with
    | none=>rw [e3] at h;cases h
    | some r=>
     obtain⟨s2,t2⟩:=r
     rw [e3] at h
     rw [stepT_spec e3]
     exact Tv h z
def ends (r:SharedT×Thread):Option SharedT:=match through r.2 with
 | true=>some r.1
 | false=>none
theorem VP {tb:String->Option Builtin} {p:Program} {w:World} {m:Nat} {an:Option Value} {n:Nat} {s s':SharedT} {t:Thread} (h:(Zz tb p w m an n s t).bind ends=some s'):topRun tb p w m an (n+1) s.abs t=some s'.abs:=by
 obtain⟨⟨s2,t2⟩,e1,e2⟩:=Option.bind_eq_some_iff.mp h
 unfold ends at e2
 cases z:through t2 with
 | false=>simp only [z] at e2;cases e2
 | true=>
  simp only [z] at e2
  cases e2
  exact Tv e1 z
noncomputable def YK (P:Params):Option Value:=(boot_heap P).nsMap mainGlobals "__annotations__"
noncomputable def S0 (w:World) (os:OsState):SharedT:=⟨HQ 0 .nil (boot_heap w.params).objs.toList,11,{},Array.mk [],boot_drawn,boot_toks,os⟩
theorem XM (w:World) (os:OsState):(S0 w os).abs=⟨boot_heap w.params,Array.mk [],boot_drawn,boot_toks,os⟩:=by
 have e:=Ia (life:={}) (boot_heap w.params).objs.toList 0 .nil [] rfl (by rfl)
 have e2:absHeap (HQ 0 .nil (boot_heap w.params).objs.toList) 11 {}=boot_heap w.params:=e
 show(⟨absHeap (HQ 0 .nil (boot_heap w.params).objs.toList) 11 {},_,_,_,_⟩:Shared)=_
 rw [e2]
 rfl
noncomputable def XJ (p:Program) (M:Nat) (w:World) (os:OsState):Option SharedT:=(Zz treeTable p w 11 (YK w.params) M (S0 w os) (topStub p)).bind ends
noncomputable def Sq (p q:Program) (loose:List Str) (Xt:Shared->Bool) (M:Nat) (w:World) (os:OsState):=
 (XJ p M w os).map fun s=>(staticsOk (importedModules p.main.body) (boot_heap w.params) s.abs.heap && namesBound p s.abs.heap && gensDone s.abs && laidKept (boot_heap w.params) s.abs.heap,openSeen q loose (importedModules p.main.body) Xt true s.abs)
theorem Wa {p q:Program} {loose:List Str} {Xt:Shared->Bool} {α:Type} {Yf:Shared->α} {Ya:World->α} {N M:Nat} (e:opening p=plainProg p.main.scope.names) (hN:Nat.ble 600 N=true) (f:∀s,fenceModules? p s=some s) (le:Nat.ble (M+1) N=true)
  (A:∀w os,Sq p q loose Xt M w os=some (true,openGood q loose)) (B:∀w os,(XJ p M w os).map (fun s=>Yf s.abs)=some (Ya w)):LeftO p q loose Xt Yf Ya N:=fun w=>by
 obtain⟨⟨h,gs,d,k,os⟩,e1,e2⟩:=Option.map_eq_some_iff.mp (boot_open e hN f w)
 obtain⟨rfl,rfl,rfl,rfl⟩:h=boot_heap w.params/\gs=Array.mk []/\d=boot_drawn/\k=boot_toks:=by simpa using e2
 obtain⟨s1,r1,l1⟩:=Option.map_eq_some_iff.mp (A w os)
 obtain⟨s2,r2,l2⟩:=Option.map_eq_some_iff.mp (B w os)
 rw [r1] at r2
 cases r2
 obtain⟨l3,l4⟩:=Prod.mk.inj l1
 have r3:=VP r1
 rw [XM] at r3
 have r4:=topRun_mono (N - (M+1)) _ _ _ _ r3
 rw [show M+1+(N - (M+1))=N by have:=Nat.le_of_ble_eq_true le;omega] at r4
 have t:topFrom treeTable p w N ⟨boot_heap w.params,Array.mk [],boot_drawn,boot_toks,os⟩=some s1.abs:=by
  unfold topFrom
  have z1:((boot_heap w.params).isNs mainGlobals && (Array.mk []:Array GenState).size == 0)=true:=by kernel_rfl
  dsimp only
  rw [z1]
  show((topRun treeTable p w 11 (YK w.params) N _ _).bind _)=_
  rw [r4]
  show(match staticsOk (importedModules p.main.body) (boot_heap w.params) s1.abs.heap && namesBound p s1.abs.heap && gensDone s1.abs && laidKept (boot_heap w.params) s1.abs.heap with | true=>_ | false=>_)=_
  rw [l3]
 unfold openEnds
 rw [e1]
 show(topFrom treeTable p w N _).map _=_
 rw [t]
 exact congrArg some (Prod.ext l4 l2)
def yK (s:SharedT) (a:Addr):Option Obj:=match Nat.blt a s.n with
 | true=>(match s.tree.get a with | some o=>alive o | none=>none)
 | false=>none
theorem Rx {s:SharedT} {a:Addr} {o:Obj} (h:yK s a=some o):s.abs.heap.get? a=some o:=by
 unfold yK at h
 cases e:Nat.blt a s.n with
 | false=>rw [e] at h;cases h
 | true=>
  rw [e] at h
  cases g:s.tree.get a with
  | none=>rw [g] at h;cases h
  | some x=>
   rw [g] at h
   exact(abs_get (Nat.le_of_ble_eq_true e) g).trans h
theorem Py {s:SharedT}:∀{as:List Addr} {l:List (Addr×Obj)},as.map (yK s)=l.map (fun p=>some p.2)->as.map s.abs.heap.get?=l.map fun p=>some p.2
 | [],[],_=>rfl
 | [],_:: _,h=>by cases h
 | _:: _,[],h=>by cases h
 | a:: as,x:: l,h=>by
  have h1:=List.cons.inj h
  show s.abs.heap.get? a:: as.map _=_
  rw [Rx h1.1,Py h1.2]
  rfl
theorem chunk {o:Option SharedT} {as:List Addr} {l:List (Addr×Obj)} (n:Nat) (h1:o.map (fun s=>(as.take n).map (yK s))=some ((l.take n).map fun p=>some p.2)) (h2:o.map (fun s=>(as.drop n).map (yK s))=some ((l.drop n).map fun p=>some p.2)):
  o.map (fun s=>as.map (yK s))=some (l.map fun p=>some p.2):=by
 obtain⟨s,e1,e2⟩:=Option.map_eq_some_iff.mp h1
 subst e1
 have e3:=Option.some.inj h2
 show some (as.map (yK s))=_
 rw [<-List.take_append_drop n as,<-List.take_append_drop n l,List.map_append,List.map_append]
 exact congrArg some (congr (congrArg _ e2) e3)
theorem Vx {o:Option SharedT} {w:World} {K:Params->Frag} {as:List Addr} {e:∀P,as=(K P).map (·.1)} (h:o.map (fun s=>as.map (yK s))=some ((K w.params).map fun p=>some p.2)):
  o.map (fun s=>Hook.obs (kHook K as e) s.abs)=some (Hook.val (kHook K as e) w):=by
 obtain⟨s,h1,h2⟩:=Option.map_eq_some_iff.mp h
 rw [h1]
 exact congrArg some (Py h2)
end One
namespace HD
open PySem PySem.W PySem.Calls PyProof.Rows
abbrev rr:OpenRow:=OpenLaw.row PySem.Challenge.rw_holdlane_k54_whole_stood_still
def q:Program:=view PySem.Challenge.pw_holdlane_k54_whole_stood_still [89]
def loose:List PySem.Str:=(["_wall", "gone_round", "wait_of", "waits_of", "leads_to", "ring_of_waits", "from_first", "stopped", "LaneError", "TooMany", "NoKind", "BadName", "Doubled", "NoSuch", "BadNumbers", "BadLanes"]:List PySem.Str) ++ (["BadRoom", "Open", "Loose", "BadRow", "VALUES", "FIGURES", "LETTERS", "LONGEST_NAME", "is_whole", "is_value", "is_name", "rest", "COUNTS", "Part", "Give", "Take"]:List PySem.Str) ++ (["Pass", "Copy", "Turn", "Heap", "Add", "Less", "Order", "Choose", "Split", "is_kind", "need_fit", "made_of", "part_made", "MOST_LANES", "MOST_PARTS", "MOST_ROOM"]:List PySem.Str) ++ (["need_counts", "need_fresh", "need_lane", "fresh_part", "tie_lanes", "need_ends", "joined_with", "need_joined", "Net", "Flow", "LONGEST_ROW", "is_row", "need_rows", "Run", "_law_cell", "_law_mix"]:List PySem.Str) ++ (["_law_value", "_law_word", "_law_lane", "_law_part", "_law_pick", "_law_two", "_law_loop", "_law_step", "_law_closed", "_law_net", "_law_rows", "_law_held", "_law_ends", "_law_explained", "_law_held_lanes"]:List PySem.Str)
def Xt (s:Shared):Bool:=xlAt q [] s && recOk (RowW.records (OpenRow.toRowW (OpenLaw.row PySem.Challenge.rw_holdlane_k54_whole_stood_still))) s
structure KA where
 K:Params->Frag
 as:List Addr
def pickK {r:OpenRow} {K:Params->Frag} {as:List Addr} (_:(∀H:Hook,(∃e,H=kHook K as e)->r.Holds)->r.Holds):KA:=⟨K,as⟩
local macro_rules | `(tactic| o_head $H)=>`(tactic| (rename_i hh;exact hh $H ⟨_,rfl⟩))
noncomputable def ka:KA:=pickK (r:=rr) (fun _=>by k_head)
theorem Vu (P:Params):KA.as ka=(ka.heap_1 P).map (·.1):=by kernel_rfl
noncomputable def runC:World->OsState->Option SharedT:=fun w os=>One.XJ PySem.Challenge.pw_holdlane_k54_whole_stood_still 14060 w os
noncomputable def Jh:=fun(w:World) (os:OsState)=>One.Sq PySem.Challenge.pw_holdlane_k54_whole_stood_still q loose Xt 14060 w os
noncomputable def O5:=some (true,openGood q loose)
theorem Xy:runC=runC:=rfl
name_quick runQ for HD.runC by HD.Xy
theorem RP:Jh=Jh:=rfl
name_quick looksQ for HD.Jh by HD.RP
theorem Vp:O5=O5:=rfl
name_quick goodQ for HD.O5 by HD.Vp
theorem A0 (w:World) (os:OsState):PySem.W.Fast.looksQ (w.withFollow "special-get-raises" false) os=PySem.W.Fast.goodQ:=by kernel_rfl
theorem aax (w:World) (os:OsState):(PySem.W.Fast.runQ (w.withFollow "special-get-raises" false) os).map (fun s=>(KA.as ka).map (One.yK s))=some ((ka.heap_1 (w.withFollow "special-get-raises" false).params).map fun p=>some p.2):=by kernel_rfl
theorem B0 (w:World) (os:OsState):(PySem.W.Fast.runQ (w.withFollow "special-get-raises" false) os).map (fun s=>(KA.as ka).map (One.yK s))=some ((ka.heap_1 (w.withFollow "special-get-raises" false).params).map fun p=>some p.2):=aax w os
theorem A1 (w:World) (os:OsState):PySem.W.Fast.looksQ (w.withFollow "special-get-raises" true) os=PySem.W.Fast.goodQ:=by kernel_rfl
theorem Z2 (w:World) (os:OsState):(PySem.W.Fast.runQ (w.withFollow "special-get-raises" true) os).map (fun s=>(KA.as ka).map (One.yK s))=some ((ka.heap_1 (w.withFollow "special-get-raises" true).params).map fun p=>some p.2):=by kernel_rfl
theorem B1 (w:World) (os:OsState):(PySem.W.Fast.runQ (w.withFollow "special-get-raises" true) os).map (fun s=>(KA.as ka).map (One.yK s))=some ((ka.heap_1 (w.withFollow "special-get-raises" true).params).map fun p=>some p.2):=Z2 w os
theorem A (w:World):∀os,Jh w os=O5:=by
 rw [PySem.W.Fast.looksQ_eq,PySem.W.Fast.goodQ_eq]
 exact byRow2 "special-get-raises" (P:=fun w=>∀os,PySem.W.Fast.looksQ w os=PySem.W.Fast.goodQ) A0 A1 w
theorem B (w:World):∀os,(runC w os).map (fun s=>(KA.as ka).map (One.yK s))=some ((ka.heap_1 w.params).map fun p=>some p.2):=by
 rw [PySem.W.Fast.runQ_eq]
 exact byRow2 "special-get-raises" (P:=fun w=>∀os,(PySem.W.Fast.runQ w os).map (fun s=>(KA.as ka).map (One.yK s))=some ((ka.heap_1 w.params).map fun p=>some p.2)) B0 B1 w
theorem head {d:DefRec} {kwd:List (PySem.Str×Expr)}
  (hdef:defOf q rr.name=some (d,kwd)) (hp:rr.prog.theDef rr.name=some (d.params,d.body,d.scope)) (hk:kwWritten? d.params.kwonlyargs d.params.kw_defaults=some kwd) (hwr:(!rr.writes || rr.records.isEmpty)=true)
  (k1:rr.wellSaid=true) (ok:(chainsOk q && opensWell rr.prog && (frees rr.toRowW && rr.within.isEmpty))=true) (hb:rr.prog.bare) (ho:opening PySem.Challenge.pw_holdlane_k54_whole_stood_still=plainProg (PySem.Challenge.pw_holdlane_k54_whole_stood_still).main.scope.names) (f:∀s,fenceModules? PySem.Challenge.pw_holdlane_k54_whole_stood_still s=some s)
  (hw:rr.toRowW.promised) (hc:WalkO q loose (XL q []) (Hook.says (kHook ka.heap_1 (KA.as ka) Vu)) rr.toRowW d kwd fun f vs=>PySem.call f vs):rr.Holds:=by
 have left:LeftO PySem.Challenge.pw_holdlane_k54_whole_stood_still q loose Xt (Hook.obs (kHook ka.heap_1 (KA.as ka) Vu)) (Hook.val (kHook ka.heap_1 (KA.as ka) Vu)) 28700:=One.Wa (M:=14060) ho rfl f rfl A fun w os=>One.Vx (B w os)
 exact holds_open (XP:=XL q []) (YP:=Hook.says (kHook ka.heap_1 (KA.as ka) Vu)) left (Hook.of _) (Hook.keeps _) (fun s z=>xl_of s (Bool.and_eq_true_iff.mp z).1) XL.keeps hdef hp hk (fun s z=>recFacts_of (Bool.and_eq_true_iff.mp z).2) hwr k1 ok hb hw hc
end HD
namespace K54
open PySem L2
theorem lM {α β:Type} {f:α->β} {l:List α}:(l.map f).length=l.length:=List.length_map ..
theorem lP {α:Type} {l m:List α}:(l ++ m).length=l.length+m.length:=List.length_append ..
theorem iZ {n:Nat} (h:Nat.ble n 16777216=true:=by rfl):n<=sizeLine:=by rw [sizeLine_eq];exact Nat.le_of_ble_eq_true h
noncomputable def top (i:Nat):Stmt:=PySem.Challenge.pw_holdlane_k54_whole_stood_still.main.body.getD i (.Pass ⟨0,0,0,0⟩)
set_option genInjectivity false in
structure jd where
 (Ds Fp bU uD u9 vH uB uH uP xQ uz rY qT sV Ha Do Hc Aj Tu cG mG cL dh sW qX qN qW qO sG qM oV my o8 qJ rA Ft BL zz Al Bc BK Br Eo Bj Bh wW FT G7 xF zf Az yM Bk Bs wV wM j6 j8 jj ur uY iV qR oW pH pI qQ pU sY mC vI kj sO o9 uC zW mL mq mH ph o7 j9 xW LC Bq pA mQ mz G6 Df za DK zp uc GR Bb Ar Bl rJ qt We Nt Ni Mz Nm N8 M5 Tp Nb JP DN Jm dN b7 pL yP:Addr)
noncomputable abbrev ROWS:List (Str×List Int):=[("give",[0,0,1]),("take",[0,1,0]),("pass",[0,1,1]),("copy",[0,1,2]),("turn",[2,1,1]),("heap",[1,1,1]),("add",[0,2,1]),("less",[0,2,1]),("order",[0,2,2]),("choose",[0,3,1]),("split",[0,2,2])]
structure Txt (w:World) (K:PySem.W.Frag) (mg:Str->Option Value) (t:jd):Prop where
 iH:J8 K mg "Give" t.Nt [("__init__",t.bU),("kind",t.uD),("taking",t.cG),("lacks",t.cL),("worked",t.qJ),("start",t.dh)] ["name", "numbers", "ins", "outs"]
 iD:J8 K mg "Take" t.Ni [("__init__",t.bU),("kind",t.u9),("taking",t.cG),("lacks",t.cL),("worked",t.rA),("start",t.dh)] ["name", "numbers", "ins", "outs"]
 iG:J8 K mg "Pass" t.Mz [("__init__",t.bU),("kind",t.vH),("taking",t.cG),("lacks",t.cL),("worked",t.qX),("start",t.dh)] ["name", "numbers", "ins", "outs"]
 iQ:J8 K mg "Copy" t.Nm [("__init__",t.bU),("kind",t.uB),("taking",t.cG),("lacks",t.cL),("worked",t.qN),("start",t.dh)] ["name", "numbers", "ins", "outs"]
 iI:J8 K mg "Turn" t.N8 [("__init__",t.bU),("kind",t.uH),("taking",t.cG),("lacks",t.cL),("worked",t.qW),("start",t.dh)] ["name", "numbers", "ins", "outs"]
 iY:J8 K mg "Heap" t.M5 [("__init__",t.bU),("kind",t.uP),("taking",t.cG),("lacks",t.cL),("worked",t.qO),("start",t.sW)] ["name", "numbers", "ins", "outs"]
 lG:J8 K mg "Add" t.Tp [("__init__",t.bU),("kind",t.xQ),("taking",t.cG),("lacks",t.cL),("worked",t.sG),("start",t.dh)] ["name", "numbers", "ins", "outs"]
 iW:J8 K mg "Less" t.Nb [("__init__",t.bU),("kind",t.uz),("taking",t.cG),("lacks",t.cL),("worked",t.qM),("start",t.dh)] ["name", "numbers", "ins", "outs"]
 fM:J8 K mg "Order" t.JP [("__init__",t.bU),("kind",t.rY),("taking",t.cG),("lacks",t.cL),("worked",t.oV),("start",t.dh)] ["name", "numbers", "ins", "outs"]
 eG:J8 K mg "Choose" t.DN [("__init__",t.bU),("kind",t.qT),("taking",t.mG),("lacks",t.cL),("worked",t.my),("start",t.dh)] ["name", "numbers", "ins", "outs"]
 fP:J8 K mg "Split" t.Jm [("__init__",t.bU),("kind",t.sV),("taking",t.cG),("lacks",t.cL),("worked",t.o8),("start",t.dh)] ["name", "numbers", "ins", "outs"]
 aU:J8 K mg "Net" t.dN [("__init__",t.pU),("lane_names",t.j6),("part_names",t.j8),("names_of_kind",t.jj),("gives",t.ur),("takes",t.uY),("need_lane_name",t.iV),("room_of",t.qR),("first_of",t.oW),("giver_of",t.pH),("taker_of",t.pI),("part_of",t.qQ)] ["rooms", "firsts", "parts", "givers", "takers"]
 aQ:J8 K mg "Flow" t.b7 [("__init__",t.mL),("holds",t.sY),("held_now",t.mC),("head",t.vI),("row_ended",t.kj),("heads",t.sO),("lacking",t.o9),("deed",t.uC),("do",t.zW),("row_left",t.mQ)] ["net", "ever", "gone", "kept", "done", "rows"]
 bN:J8 K mg "Run" t.pL [("__init__",t.pA),("full_lane",t.mq),("next_deed",t.mH),("need_doors",t.j9),("step",t.xW),("can_work",t.ph),("lane_now",t.o7),("rows_left",t.mz)] ["net", "flow", "turns"]
 rZ:lW K mg "is_whole" (top 28) t.Ds ["thing"]
 pN:lW K mg "is_value" (top 29) t.Fp ["thing"]
 bh:d7 K "__init__" "Part.__init__" (inClass (top 34) 0) t.bU ["self", "name", "numbers", "ins", "outs"]
 qe:d7 K "kind" "Give.kind" (inClass (top 35) 0) t.uD ["self"]
 qm:d7 K "kind" "Take.kind" (inClass (top 36) 0) t.u9 ["self"]
 qd:d7 K "kind" "Pass.kind" (inClass (top 37) 0) t.vH ["self"]
 pZ:d7 K "kind" "Copy.kind" (inClass (top 38) 0) t.uB ["self"]
 qC:d7 K "kind" "Turn.kind" (inClass (top 39) 0) t.uH ["self"]
 qy:d7 K "kind" "Heap.kind" (inClass (top 40) 0) t.uP ["self"]
 sr:d7 K "kind" "Add.kind" (inClass (top 41) 0) t.xQ ["self"]
 qD:d7 K "kind" "Less.kind" (inClass (top 42) 0) t.uz ["self"]
 nZ:d7 K "kind" "Order.kind" (inClass (top 43) 0) t.rY ["self"]
 kO:d7 K "kind" "Choose.kind" (inClass (top 44) 0) t.qT ["self"]
 m9:d7 K "kind" "Split.kind" (inClass (top 45) 0) t.sV ["self"]
 vY:lW K mg "is_kind" (top 46) t.Ha ["word"]
 xY:lW K mg "need_fit" (top 47) t.Do ["kind", "name", "numbers", "ins", "outs"]
 HS:lW K mg "made_of" (top 48) t.Hc ["kind", "name", "numbers", "ins", "outs"]
 Aq:lW K mg "part_made" (top 49) t.Aj ["kind", "name", "numbers", "ins", "outs"]
 Fq:lW K mg "rest" (top 31) t.Tu ["number"]
 bC:d7 K "taking" "Part.taking" (inClass (top 34) 4) t.cG ["self", "heads"]
 jz:d7 K "taking" "Choose.taking" (inClass (top 44) 1) t.mG ["self", "heads"]
 bG:d7 K "lacks" "Part.lacks" (inClass (top 34) 3) t.cL ["self", "heads"]
 bJ:d7 K "start" "Part.start" (inClass (top 34) 2) t.dh ["self"]
 nC:d7 K "start" "Heap.start" (inClass (top 40) 1) t.sW ["self"]
 km:d7 K "worked" "Pass.worked" (inClass (top 37) 1) t.qX ["self", "values", "kept"]
 kJ:d7 K "worked" "Copy.worked" (inClass (top 38) 1) t.qN ["self", "values", "kept"]
 lz:d7 K "worked" "Turn.worked" (inClass (top 39) 1) t.qW ["self", "values", "kept"]
 lg:d7 K "worked" "Heap.worked" (inClass (top 40) 2) t.qO ["self", "values", "kept"]
 nH:d7 K "worked" "Add.worked" (inClass (top 41) 1) t.sG ["self", "values", "kept"]
 lu:d7 K "worked" "Less.worked" (inClass (top 42) 1) t.qM ["self", "values", "kept"]
 jN:d7 K "worked" "Order.worked" (inClass (top 43) 1) t.oV ["self", "values", "kept"]
 jB:d7 K "worked" "Choose.worked" (inClass (top 44) 2) t.my ["self", "values", "kept"]
 jQ:d7 K "worked" "Split.worked" (inClass (top 45) 1) t.o8 ["self", "values", "kept"]
 kI:d7 K "worked" "Give.worked" (inClass (top 35) 1) t.qJ ["self", "values", "kept"]
 lB:d7 K "worked" "Take.worked" (inClass (top 36) 1) t.rA ["self", "values", "kept"]
 bx:lW K mg "_law_mix" (top 73) t.Ft ["_law_cell_here", "_law_k"]
 gU:lW K mg "_law_cell" (top 72) t.BL ["_law_script", "_law_k"]
 fO:lW K mg "_law_value" (top 74) t.zz ["_law_cell_here", "_law_k"]
 jH:lW K mg "_law_word" (top 75) t.Al ["_law_cell_here", "_law_k"]
 iM:lW K mg "_law_lane" (top 76) t.Bc ["_law_state", "_law_cell_here", "_law_back"]
 lJ:lW K mg "_law_pick" (top 78) t.BK ["_law_state", "_law_number"]
 cC:lW K mg "_law_part" (top 77) t.Br ["_law_state", "_law_cell_here", "_law_kind", "_law_numbers", "_law_ins", "_law_many"]
 xP:lW K mg "_law_two" (top 79) t.Eo ["_law_state", "_law_cell_here", "_law_one", "_law_odd"]
 uA:lW K mg "_law_loop" (top 80) t.Bj ["_law_state", "_law_cell_here", "_law_one"]
 uO:lW K mg "_law_step" (top 81) t.Bh ["_law_state", "_law_cell_here", "_law_odd"]
 qY:lW K mg "_law_closed" (top 82) t.wW ["_law_state", "_law_cell_here", "_law_back"]
 yc:lW K mg "_law_net" (top 83) t.FT ["_law_script", "_law_start", "_law_steps", "_law_odd"]
 z9:lW K mg "is_name" (top 30) t.G7 ["thing"]
 rn:lW K mg "need_counts" (top 54) t.xF ["lanes", "parts"]
 mY:lW K mg "need_fresh" (top 55) t.zf ["name", "known"]
 uo:lW K mg "need_lane" (top 56) t.Az ["name", "room", "first"]
 tH:lW K mg "fresh_part" (top 57) t.yM ["row", "known"]
 qF:lW K mg "tie_lanes" (top 58) t.Bk ["part", "lanes", "rooms", "ends"]
 um:lW K mg "need_ends" (top 59) t.Bs ["rooms", "givers", "takers"]
 qP:lW K mg "joined_with" (top 60) t.wV ["part", "givers", "takers"]
 qL:lW K mg "need_joined" (top 61) t.wM ["names", "givers", "takers"]
 jg:d7 K "lane_names" "Net.lane_names" (inClass (top 62) 1) t.j6 ["self"]
 cJ:d7 K "part_names" "Net.part_names" (inClass (top 62) 2) t.j8 ["self"]
 gj:d7 K "names_of_kind" "Net.names_of_kind" (inClass (top 62) 5) t.jj ["self", "kind"]
 jK:d7 K "gives" "Net.gives" (inClass (top 62) 3) t.ur ["self"]
 uQ:d7 K "takes" "Net.takes" (inClass (top 62) 4) t.uY ["self"]
 cD:d7 K "need_lane_name" "Net.need_lane_name" (inClass (top 62) 12) t.iV ["self", "name"]
 rm:d7 K "room_of" "Net.room_of" (inClass (top 62) 7) t.qR ["self", "name"]
 pQ:d7 K "first_of" "Net.first_of" (inClass (top 62) 8) t.oW ["self", "name"]
 pM:d7 K "giver_of" "Net.giver_of" (inClass (top 62) 9) t.pH ["self", "name"]
 oY:d7 K "taker_of" "Net.taker_of" (inClass (top 62) 10) t.pI ["self", "name"]
 jm:d7 K "part_of" "Net.part_of" (inClass (top 62) 11) t.qQ ["self", "name"]
 jT:d7 K "__init__" "Net.__init__" (inClass (top 62) 0) t.pU ["self", "lanes", "parts"]
 m5:d7 K "holds" "Flow.holds" (inClass (top 64) 1) t.sY ["self", "lane"]
 mK:d7 K "held_now" "Flow.held_now" (inClass (top 64) 2) t.mC ["self", "lane"]
 uV:d7 K "head" "Flow.head" (inClass (top 64) 5) t.vI ["self", "lane"]
 je:d7 K "row_ended" "Flow.row_ended" (inClass (top 64) 8) t.kj ["self", "name"]
 nW:d7 K "heads" "Flow.heads" (inClass (top 64) 6) t.sO ["self", "part"]
 jV:d7 K "lacking" "Flow.lacking" (inClass (top 64) 7) t.o9 ["self", "name"]
 qj:d7 K "deed" "Flow.deed" (inClass (top 64) 9) t.uC ["self", "name"]
 Ab:d7 K "do" "Flow.do" (inClass (top 64) 10) t.zW ["self", "name", "deed"]
 jy:d7 K "__init__" "Flow.__init__" (inClass (top 64) 0) t.mL ["self", "net", "rows"]
 jx:d7 K "full_lane" "Run.full_lane" (inClass (top 70) 4) t.mq ["self", "deed"]
 jC:d7 K "next_deed" "Run.next_deed" (inClass (top 70) 3) t.mH ["self", "name"]
 oM:d7 K "can_work" "Run.can_work" (inClass (top 70) 5) t.ph ["self", "name"]
 pF:d7 K "lane_now" "Run.lane_now" (inClass (top 70) 8) t.o7 ["self", "name"]
 j7:d7 K "need_doors" "Run.need_doors" (inClass (top 70) 2) t.j9 ["self", "names"]
 pB:Wm K "step" "Run.step" (inClass (top 70) 1) t.xW ["self", "held"]
 CW:lW K mg "is_row" (top 67) t.LC ["thing"]
 uZ:lW K mg "need_rows" (top 68) t.Bq ["net", "rows"]
 jO:d7 K "__init__" "Run.__init__" (inClass (top 70) 0) t.pA ["self", "net", "rows"]
 lZ:d7 K "row_left" "Flow.row_left" (inClass (top 64) 4) t.mQ ["self", "door"]
 mO:d7 K "rows_left" "Run.rows_left" (inClass (top 70) 13) t.mz ["self"]
 zY:lW K mg "wait_of" (top 4) t.G6 ["run", "name"]
 sH:lW K mg "waits_of" (top 5) t.Df ["run"]
 sZ:lW K mg "gone_round" (top 2) t.za ["start", "leads"]
 pK:lW K mg "leads_to" (top 6) t.DK ["net", "wait"]
 tE:lW K mg "from_first" (top 8) t.zp ["ring", "names"]
 lX:lW K mg "ring_of_waits" (top 7) t.uc ["run"]
 wy:lW K mg "stopped" (top 9) t.GR ["run"]
 vy:lW K mg "_law_rows" (top 84) t.Bb ["_law_script", "_law_parts", "_law_start"]
 uL:lW K mg "_law_held" (top 85) t.Ar ["_law_parts", "_law_cell_here"]
 vA:lW K mg "_law_ends" (top 86) t.Bl ["_law_net_one", "_law_waits", "_law_name"]
 j4:lW K mg "_law_explained" (top 87) t.rJ ["_law_run", "_law_net_one", "_law_parts"]
 iz:lW K mg "_law_held_lanes" (top 88) t.qt ["_law_run", "_law_lanes"]
 O9:lW K mg "law" (top 89) t.We ["_law_script"]
 Ib:mg "COUNTS" =some (.ref t.yP)
 Kf:KTab w K t.yP ROWS
 Ob:mg "all" =none
 Zi:mg "any" =none
 XQ:mg "bool" =none
 Y6:mg "int" =none
 mX:mg "isinstance" =none
 eQ:mg "len" =none
 xZ:mg "list" =none
 RT:mg "max" =none
 Y7:mg "min" =none
 iC:mg "range" =none
 Yt:mg "set" =none
 KJ:mg "sorted" =none
 W0:mg "str" =none
 Cv:mg "tuple" =none
 LK:∃u,mg "VALUES" =some u/\RelV (.int 1000000000) u
 Ie:∃u,mg "LETTERS" =some u/\RelV (.str "abcdefghijklmnopqrstuvwxyz") u
 Fz:∃u,mg "LONGEST_NAME" =some u/\RelV (.int 8) u
 Qe:∃u,mg "FIGURES" =some u/\RelV (.str "0123456789") u
 Jw:∃u,mg "MOST_LANES" =some u/\RelV (.int 24) u
 Ju:∃u,mg "MOST_PARTS" =some u/\RelV (.int 16) u
 K8:∃u,mg "MOST_ROOM" =some u/\RelV (.int 199) u
 Gs:∃u,mg "LONGEST_ROW" =some u/\RelV (.int 300) u
section
variable {P:Program} {w:World} {K:PySem.W.Frag} {mg:Str->Option Value} {base:Heap} {t:jd}
noncomputable def fc (i:Nat):Str:=match i with
 | 0=> "give"
 | 1=> "take"
 | 2=> "pass"
 | 3=> "copy"
 | 4=> "turn"
 | 5=> "heap"
 | 6=> "add"
 | 7=> "less"
 | 8=> "order"
 | 9=> "choose"
 | _=> "split"
noncomputable def cN (i:Nat):Nat:=match i with
 | 0=>0
 | 1=>0
 | 2=>0
 | 3=>0
 | 4=>2
 | 5=>1
 | 6=>0
 | 7=>0
 | 8=>0
 | 9=>0
 | _=>0
noncomputable def cI (i:Nat):Nat:=match i with
 | 0=>0
 | 1=>1
 | 2=>1
 | 3=>1
 | 4=>1
 | 5=>1
 | 6=>2
 | 7=>2
 | 8=>2
 | 9=>3
 | _=>2
noncomputable def cO (i:Nat):Nat:=match i with
 | 0=>1
 | 1=>0
 | 2=>1
 | 3=>2
 | 4=>1
 | 5=>1
 | 6=>1
 | 7=>1
 | 8=>2
 | 9=>1
 | _=>2
noncomputable def cls (t:jd) (i:Nat):Addr:=match i with
 | 0=>t.Nt
 | 1=>t.Ni
 | 2=>t.Mz
 | 3=>t.Nm
 | 4=>t.N8
 | 5=>t.M5
 | 6=>t.Tp
 | 7=>t.Nb
 | 8=>t.JP
 | 9=>t.DN
 | _=>t.Jm
theorem row_of (i:Nat):rowOf ROWS (fc i)=some [((cN i:Nat):Int),((cI i:Nat):Int),((cO i:Nat):Int)]:=match i with
 | 0=>by show rowOf ROWS "give" =some [0,0,1];decide +kernel
 | 1=>by show rowOf ROWS "take" =some [0,1,0];decide +kernel
 | 2=>by show rowOf ROWS "pass" =some [0,1,1];decide +kernel
 | 3=>by show rowOf ROWS "copy" =some [0,1,2];decide +kernel
 | 4=>by show rowOf ROWS "turn" =some [2,1,1];decide +kernel
 | 5=>by show rowOf ROWS "heap" =some [1,1,1];decide +kernel
 | 6=>by show rowOf ROWS "add" =some [0,2,1];decide +kernel
 | 7=>by show rowOf ROWS "less" =some [0,2,1];decide +kernel
 | 8=>by show rowOf ROWS "order" =some [0,2,2];decide +kernel
 | 9=>by show rowOf ROWS "choose" =some [0,3,1];decide +kernel
 | n+10=>by show rowOf ROWS "split" =some [0,2,2];decide +kernel
theorem iJ (T:Txt w K mg t) (i:Nat):QB K (cls t i):=match i with
 | 0=>T.iH.c
 | 1=>T.iD.c
 | 2=>T.iG.c
 | 3=>T.iQ.c
 | 4=>T.iI.c
 | 5=>T.iY.c
 | 6=>T.lG.c
 | 7=>T.iW.c
 | 8=>T.fM.c
 | 9=>T.eG.c
 | n+10=>T.fP.c
theorem CG (T:Txt w K mg t) (i:Nat):oU K (cls t i) "name" :=match i with
 | 0=>T.iH.na.1
 | 1=>T.iD.na.1
 | 2=>T.iG.na.1
 | 3=>T.iQ.na.1
 | 4=>T.iI.na.1
 | 5=>T.iY.na.1
 | 6=>T.lG.na.1
 | 7=>T.iW.na.1
 | 8=>T.fM.na.1
 | 9=>T.eG.na.1
 | n+10=>T.fP.na.1
theorem tG (T:Txt w K mg t) (i:Nat):oU K (cls t i) "numbers" :=match i with
 | 0=>T.iH.na.2.1
 | 1=>T.iD.na.2.1
 | 2=>T.iG.na.2.1
 | 3=>T.iQ.na.2.1
 | 4=>T.iI.na.2.1
 | 5=>T.iY.na.2.1
 | 6=>T.lG.na.2.1
 | 7=>T.iW.na.2.1
 | 8=>T.fM.na.2.1
 | 9=>T.eG.na.2.1
 | n+10=>T.fP.na.2.1
theorem zQ (T:Txt w K mg t) (i:Nat):oU K (cls t i) "ins" :=match i with
 | 0=>T.iH.na.2.2.1
 | 1=>T.iD.na.2.2.1
 | 2=>T.iG.na.2.2.1
 | 3=>T.iQ.na.2.2.1
 | 4=>T.iI.na.2.2.1
 | 5=>T.iY.na.2.2.1
 | 6=>T.lG.na.2.2.1
 | 7=>T.iW.na.2.2.1
 | 8=>T.fM.na.2.2.1
 | 9=>T.eG.na.2.2.1
 | n+10=>T.fP.na.2.2.1
theorem JS (T:Txt w K mg t) (i:Nat):oU K (cls t i) "outs" :=match i with
 | 0=>T.iH.na.2.2.2.1
 | 1=>T.iD.na.2.2.2.1
 | 2=>T.iG.na.2.2.2.1
 | 3=>T.iQ.na.2.2.2.1
 | 4=>T.iI.na.2.2.2.1
 | 5=>T.iY.na.2.2.2.1
 | 6=>T.lG.na.2.2.2.1
 | 7=>T.iW.na.2.2.2.1
 | 8=>T.fM.na.2.2.2.1
 | 9=>T.eG.na.2.2.2.1
 | n+10=>T.fP.na.2.2.2.1
theorem Zv (i:Nat):cN i<=2:=match i with
 | 0=>by show 0<=2;decide
 | 1=>by show 0<=2;decide
 | 2=>by show 0<=2;decide
 | 3=>by show 0<=2;decide
 | 4=>by show 2<=2;decide
 | 5=>by show 1<=2;decide
 | 6=>by show 0<=2;decide
 | 7=>by show 0<=2;decide
 | 8=>by show 0<=2;decide
 | 9=>by show 0<=2;decide
 | n+10=>by show 0<=2;decide
theorem Hm (i:Nat):cI i<=3:=match i with
 | 0=>by show 0<=3;decide
 | 1=>by show 1<=3;decide
 | 2=>by show 1<=3;decide
 | 3=>by show 1<=3;decide
 | 4=>by show 1<=3;decide
 | 5=>by show 1<=3;decide
 | 6=>by show 2<=3;decide
 | 7=>by show 2<=3;decide
 | 8=>by show 2<=3;decide
 | 9=>by show 3<=3;decide
 | n+10=>by show 2<=3;decide
theorem RZ (i:Nat):cO i<=2:=match i with
 | 0=>by show 1<=2;decide
 | 1=>by show 0<=2;decide
 | 2=>by show 1<=2;decide
 | 3=>by show 2<=2;decide
 | 4=>by show 1<=2;decide
 | 5=>by show 1<=2;decide
 | 6=>by show 1<=2;decide
 | 7=>by show 1<=2;decide
 | 8=>by show 2<=2;decide
 | 9=>by show 1<=2;decide
 | n+10=>by show 2<=2;decide
theorem ie {f:Str} {y:V} {fs:List (Str×V)} {n:Nat} (h:fs.length<=n):(aJ f y fs).length<=n+1:=Nat.le_trans (ut f y fs) (Nat.succ_le_succ h)
noncomputable def Ew (nm:V) (tn ti to:Addr):List (Str×V):=aJ "outs" (.ref to) (aJ "ins" (.ref ti) (aJ "numbers" (.ref tn) (aJ "name" nm [])))
theorem Ai (nm:V) (tn ti to:Addr):(Ew nm tn ti to).lookup ("name" :Str)=some nm:=by
 unfold Ew
 rw [aC,if_neg (by decide +kernel),aC,if_neg (by decide +kernel),aC,if_neg (by decide +kernel),aC,if_pos rfl]
theorem sJ (nm:V) (tn ti to:Addr):(Ew nm tn ti to).lookup ("numbers" :Str)=some (.ref tn):=by
 unfold Ew
 rw [aC,if_neg (by decide +kernel),aC,if_neg (by decide +kernel),aC,if_pos rfl]
theorem vD (nm:V) (tn ti to:Addr):(Ew nm tn ti to).lookup ("ins" :Str)=some (.ref ti):=by
 unfold Ew
 rw [aC,if_neg (by decide +kernel),aC,if_pos rfl]
theorem GJ (nm:V) (tn ti to:Addr):(Ew nm tn ti to).lookup ("outs" :Str)=some (.ref to):=by
 unfold Ew
 rw [aC,if_pos rfl]
theorem wj (nm:V) (tn ti to:Addr) {m:Str} (h1:¬m= "outs") (h2:¬m= "ins") (h3:¬m= "numbers") (h4:¬m= "name"):(Ew nm tn ti to).lookup m=none:=by
 unfold Ew
 rw [aC,if_neg h1,aC,if_neg h2,aC,if_neg h3,aC,if_neg h4]
 all_goals rfl
structure fK (K:PySem.W.Frag) (t:jd) (H:Hp) (p:Addr) (i:Nat) (nm:V) (ns is os:List V):Prop where
 ex:∃dx tn ti to,H p=some (.ins (cls t i) dx (Ew nm tn ti to))/\fH K H tn ns/\fH K H ti is/\fH K H to os
theorem fK.same {H H':Hp} {p:Addr} {i:Nat} {nm:V} {ns is os:List V} (h:fK K t H p i nm ns is os) (s:aK H H'):fK K t H' p i nm ns is os:=by
 obtain⟨dx,tn,ti,to,h1,h2,h3,h4⟩:=h
 exact⟨dx,tn,ti,to,s _ _ h1,s.seqT h2,s.seqT h3,s.seqT h4⟩
noncomputable def jh (i:Nat):Sp:=fun vs H Q _=>∃x,vs=[x]/\Q (.str (fc i)) H
noncomputable def nV (j:Nat):V:=.int (j:Nat)
inductive Val (v:V):Prop where
 | mk:∀n:Int,v=.int n->0<=n->n <1000000000->Val v
inductive Flat:PyData->Prop
 | non:Flat .none
 | int (i:Int):Flat (.int i)
noncomputable def places (i:Nat) (hs:List V):List Nat:=if i=9 then(match hs with | .int n:: _=>[0,1+(n % 2).toNat] | _=>[0]) else List.range hs.length
noncomputable def yC (i:Nat) (hs:List V):Prop:=hs.length=cI i/\∀h∈hs,h=.non∨∃n:Int,h=.int n
noncomputable def xG (hs:List V) (q:Nat):Bool:=decide (hs[q]?=some V.non)
noncomputable def O8 (i:Nat) (hs:List V):V:=match (places i hs).find? (xG hs) with
 | some q=>nV q
 | none=>.non
theorem j5 {i:Nat} {hs:List V} (h:yC i hs):∀q∈places i hs,q <hs.length:=by
 intro q hq
 unfold places at hq
 by_cases hi:i=9
 ·rw [if_pos hi] at hq
  have hl:hs.length=3:=by rw [h.1,hi];rfl
  rw [hl]
  split at hq
  ·rename_i n r
   have h0:=Int.emod_nonneg n (show(2:Int)≠0 by decide)
   have h1:=Int.emod_lt_of_pos n (show(0:Int) <2 by decide)
   simp at hq
   omega
  ·simp at hq
   omega
 ·rw [if_neg hi] at hq
  simpa using hq
theorem Pz {f:Nat->Bool}:∀{l:List Nat} {j q:Nat},l[j]?=some q->(∀x∈l.take j,f x=false)->f q=true->l.find? f=some q
 | [],_,_,e,_,_=>by simp at e
 | x:: r,0,q,e,_,hq=>by
  simp at e
  subst e
  rw [List.find?_cons,hq]
 | x:: r,j+1,q,e,h,hq=>by
  have hx:f x=false:=h x (by simp)
  rw [List.find?_cons,hx]
  exact Pz (l:=r) (j:=j) (by simpa using e) (fun y hy=>h y (by simp [hy])) hq
theorem V7 {f:Nat->Bool} {l:List Nat} (h:∀x∈l,f x=false):l.find? f=none:=by
 rw [List.find?_eq_none]
 intro x hx
 rw [h x hx]
 decide
inductive oG (K:PySem.W.Frag) (t:jd) (i:Nat) (vs:List V) (H:Hp) (Q:VK) (E:XK):Prop where
 | mk:∀(p a:Addr) (nm:V) (ns is os hs:List V),vs=[.ref p,.ref a]->fK K t H p i nm ns is os->is.length=cI i->bH K H a hs->yC i hs->(∀H' L,aK H H'->H L=none->H' L=some (.lst ((places i hs).map nV))->Q (.ref L) H')->oG K t i vs H Q E
inductive ym (K:PySem.W.Frag) (t:jd) (i:Nat) (vs:List V) (H:Hp) (Q:VK) (E:XK):Prop where
 | mk:∀(p a:Addr) (nm:V) (ns is os hs:List V),vs=[.ref p,.ref a]->fK K t H p i nm ns is os->is.length=cI i->bH K H a hs->yC i hs->(∀H',aK H H'->Q (O8 i hs) H')->ym K t i vs H Q E
noncomputable def g0 (l:List Int):Int:=l.getD 0 0
noncomputable def g1 (l:List Int):Int:=l.getD 1 0
noncomputable def cV (i:Nat):Nat:=match i with
 | 0=>1
 | 1=>1
 | 2=>1
 | 3=>1
 | 4=>1
 | 5=>1
 | 6=>2
 | 7=>2
 | 8=>2
 | 9=>2
 | _=>2
noncomputable def cY (i:Nat) (ns ws:List Int) (kp:Int):List (Int×Int):=match i with
 | 0=>[(0,g0 ws)]
 | 1=>[]
 | 2=>[(0,g0 ws)]
 | 3=>[(0,g0 ws),(1,g0 ws)]
 | 4=>[(0,(g0 ns * g0 ws+g1 ns) % 1000000000)]
 | 5=>[(0,(kp+g0 ws) % 1000000000)]
 | 6=>[(0,(g0 ws+g1 ws) % 1000000000)]
 | 7=>[(0,if g0 ws <g1 ws then 1 else 0)]
 | 8=>[(0,if g1 ws <g0 ws then g1 ws else g0 ws),(1,if g1 ws <g0 ws then g0 ws else g1 ws)]
 | 9=>[(0,g1 ws)]
 | _=>[(g0 ws % 2,g1 ws)]
noncomputable def gf (i:Nat) (ws:List Int) (kp:Int):Int:=if i=5 then(kp+g0 ws) % 1000000000 else kp
noncomputable def J9 (ps:List (Int×Int)):List (List V):=ps.map fun p=>[.int p.1,.int p.2]
noncomputable def Ym (ws:List Int):Prop:=∀w∈ws,0<=w/\w <1000000000
inductive eU (K:PySem.W.Frag) (t:jd) (i:Nat) (vs:List V) (H:Hp) (Q:VK) (E:XK):Prop where
 | mk:∀(p a:Addr) (nm:V) (ns:List Int) (is os:List V) (ws:List Int) (kp:Int),vs=[.ref p,.ref a,.int kp]->fK K t H p i nm (ns.map V.int) is os->ns.length=cN i->bH K H a (ws.map V.int)->ws.length=cV i->Ym ws->(∀H' U L rs,aK H H'->H L=none->H' U=some (.tup [.ref L,.int (gf i ws kp)])->H' L=some (.lst (rs.map V.ref))->dz H' rs (J9 (cY i ns ws kp))->Q (.ref U) H')->eU K t i vs H Q E
theorem zH {H:Hp} {Q:VK} {a b x y:Int} (hx:x=a) (hy:y=b) (k:∀H' L rs,aK H H'->H L=none->H' L=some (.lst (rs.map V.ref))->dz H' rs (J9 [(a,b)])->Q (.ref L) H') {t0 L:Addr} (n0:H t0=none)
  (nL:(upd H t0 (.tup [.int x,.int y])) L=none):Q (.ref L) (upd (upd H t0 (.tup [.int x,.int y])) L (.lst [.ref t0])):=by
 subst hx hy
 have s0:=aB (o:=.tup [.int x,.int y]) n0
 have s1:=aB (o:=.lst [.ref t0]) nL
 exact k _ L [t0] (s0.trans s1) (s0.free nL) az (.cons (s1 _ _ az) .nil)
theorem WT {H:Hp} {Q:VK} {a b c d x y u v:Int} (hx:x=a) (hy:y=b) (hu:u=c) (hv:v=d) (k:∀H' L rs,aK H H'->H L=none->H' L=some (.lst (rs.map V.ref))->dz H' rs (J9 [(a,b),(c,d)])->Q (.ref L) H') {t0 t1 L:Addr} (n0:H t0=none)
  (n1:(upd H t0 (.tup [.int x,.int y])) t1=none) (nL:(upd (upd H t0 (.tup [.int x,.int y])) t1 (.tup [.int u,.int v])) L=none):Q (.ref L) (upd (upd (upd H t0 (.tup [.int x,.int y])) t1 (.tup [.int u,.int v])) L (.lst [.ref t0,.ref t1])):=by
 subst hx hy hu hv
 have s0:=aB (o:=.tup [.int x,.int y]) n0
 have s1:=aB (o:=.tup [.int u,.int v]) n1
 have s2:=aB (o:=.lst [.ref t0,.ref t1]) nL
 exact k _ L [t0,t1] (s0.trans (s1.trans s2)) (s0.free (s1.free nL)) az (.cons (s2 _ _ (s1 _ _ az)) (.cons (s2 _ _ az) .nil))
theorem Fo {H:Hp} {Q:VK} {c:Int} {ps:List (Int×Int)} (k:∀H' U L rs,aK H H'->H L=none->H' U=some (.tup [.ref L,.int c])->H' L=some (.lst (rs.map V.ref))->dz H' rs (J9 ps)->Q (.ref U) H'):
  ∀H' L rs,aK H H'->H L=none->H' L=some (.lst (rs.map V.ref))->dz H' rs (J9 ps)->∀U,H' U=none->Q (.ref U) (upd H' U (.tup [.ref L,.int c])):=fun H' L rs s nL eL tL U nU=>
 have s2:=aB (o:=.tup [.ref L,.int c]) nU
 k _ U L rs (s.trans s2) nL az (s2 _ _ eL) (tL.same s2)
theorem d9:(2:Nat)<=sizeLine:=by decide
theorem one_le:(1:Nat)<=sizeLine:=by decide
theorem aat {a b:Int} {ws:List Int} (h:Ym ws) (hb:b∈ws):IntMulOk a b:=.of_right (intBits_le_64 (by have:=(h b hb).1;omega) (by have:=(h b hb).2;omega))
noncomputable def J7 (i:Nat) (ns:List V):V:=if i=5 then ns.headD .non else .int 0
inductive ug (K:PySem.W.Frag) (t:jd) (i:Nat) (vs:List V) (H:Hp) (Q:VK) (E:XK):Prop where
 | mk:∀(p:Addr) (nm:V) (ns is os:List V),vs=[.ref p]->fK K t H p i nm ns is os->ns.length=cN i->Q (J7 i ns) H->ug K t i vs H Q E
noncomputable def XF (i:Nat) (kv:V) (ns:List V):List V:=if i=5 then [kv] else ns
inductive Fy (K:PySem.W.Frag) (t:jd) (i:Nat) (vs:List V) (H:Hp) (Q:VK) (E:XK):Prop where
 | mk:∀(p:Addr) (kv nm:V) (ns is os:List V),vs=[.ref p,kv]->i<=10->fK K t H p i nm ns is os->(∀H' q,aK H H'->H q=none->fK K t H' q i nm (XF i kv ns) is os->Q (.ref q) H')->Fy K t i vs H Q E
noncomputable def cg (a b:Int):Int:=((((a % 2147483647 * 48271+7919 * b+11) % 2147483647) * ((a % 2147483647 * 48271+7919 * b+11) % 2147483647) % 2147483629+613 * b) * (((a % 2147483647 * 48271+7919 * b+11) % 2147483647) * ((a % 2147483647 * 48271+7919 * b+11) % 2147483647) % 2147483629)) % 2147483587
theorem Bf (a b:Int):0<=cg a b:=Int.emod_nonneg _ (by decide)
noncomputable def jP (ns:List Int) (j:Nat):Int:=(ns[j]?).getD (41 * (j:Int)+3)
noncomputable def qZ (a b:Int):Int:=if cg a b / 7 % 3=0 then cg a b % 5 else if cg a b / 7 % 3=1 then cg a b % 10 ^ 9 else 10 ^ 9 - 1 - cg a b % 3
theorem ou (a b:Int):0<=qZ a b/\qZ a b <1000000000:=by
 unfold qZ
 have h0:=Bf a b
 generalize cg a b=n at h0
 split
 ·omega
 ·split
  ·have h1:=Int.emod_lt_of_pos n (show(0:Int) <10 ^ 9 by decide)
   have h2:=Int.emod_nonneg n (show(10:Int) ^ 9≠0 by decide)
   exact⟨h2,h1⟩
  ·have h1:=Int.emod_lt_of_pos n (show(0:Int) <3 by decide)
   have h2:=Int.emod_nonneg n (show(3:Int)≠0 by decide)
   have e:(10:Int) ^ 9=1000000000:=by decide
   rw [e]
   omega
noncomputable def low (c:Nat):Bool:=decide (97<=c) && decide (c<=122)
noncomputable def MJ (c:Nat):Bool:=decide (48<=c) && decide (c<=57)
noncomputable def nameB (x:Str):Bool:=match x.cps.toList with
 | []=>false
 | c:: r=>decide (r.length<=7) && (low c && (c:: r).all fun d=>low d || MJ d)
theorem n8 (x:Str):x.cps.toList.length=x.length:=by simp [Str.length]
theorem Ea:∀(ws:List Str),(Str.join Str.empty ws).cps.toList=(ws.map fun w=>w.cps.toList).flatten
 | []=>rfl
 | [w]=>by simp [Str.join]
 | w:: v:: r=>by
  have ih:=Ea (v:: r)
  show(w.cps ++ #[] ++ (Str.join Str.empty (v:: r)).cps).toList=_
  rw [Array.toList_append,ih]
  simp
theorem Tj {n:Nat}:∀(ws:List Str),(∀w∈ws,w.length<=n)->(ws.map (·.length)).sum<=ws.length * n
 | [],_=>by simp
 | w:: r,h=>by
  have h1:=h w (by simp)
  have h2:=Tj r fun v hv=>h v (by simp [hv])
  simp only [List.map_cons,List.sum_cons,List.length_cons,Nat.add_mul]
  omega
noncomputable def K9 (n:Int):Nat:=97+(n % 26).toNat
theorem Jv (n:Int):low (K9 n)=true:=by
 unfold low K9
 have h0:=Int.emod_nonneg n (show(26:Int)≠0 by decide)
 have h1:=Int.emod_lt_of_pos n (show(0:Int) <26 by decide)
 simp
 omega
noncomputable abbrev LT:Str:= "abcdefghijklmnopqrstuvwxyz"
theorem NQ:LT.length=26:=by decide +kernel
theorem Rt:LT.cps.toList=List.range' 97 26:=by decide +kernel
theorem Ug (n:Int):Gk LT.cps.toList (n % 26)=some (K9 n):=by
 have h0:=Int.emod_nonneg n (show(26:Int)≠0 by decide)
 have h1:=Int.emod_lt_of_pos n (show(0:Int) <26 by decide)
 obtain⟨j,hj⟩:∃j:Nat,n % 26=(j:Int):=⟨(n % 26).toNat,by omega⟩
 unfold K9
 rw [hj,Rt]
 exact aN (by rw [List.getElem?_range' (by omega)];simp)
noncomputable def gQ (a:Int):List Nat:=(List.range (cg a 50 % 7).toNat).map fun j=>K9 (cg a (60+(j:Nat)))
noncomputable def qp (a:Int):Nat:=(cg a 51 % (cg a 50 % 7+1)).toNat
noncomputable def M7 (n:Nat):List Nat:=(toString (Int.ofNat n):Str).cps.toList
noncomputable def Bu (a:Int) (k:Nat):List Nat:=if cg a 52 % 3=0 then K9 (cg a 53):: M7 (cg a 54 % 1000+37 * (k:Int)).toNat else(gQ a).take (qp a) ++ K9 (cg a 55+k):: (gQ a).drop (qp a)
noncomputable def cT (a:Int) (k:Nat):Str:=⟨(Bu a k).toArray⟩
noncomputable def Ti (l:List Nat):Nat:=l.foldl (fun r c=>10 * r+(c - 48)) 0
theorem Vy:(List.range 2000).all (fun i=>(M7 i).all MJ && decide ((M7 i).length<=4) && decide (Ti (M7 i)=i))=true:=by decide +kernel
theorem wg {n:Nat} (h:n <2000):(M7 n).all MJ=true/\(M7 n).length<=4/\Ti (M7 n)=n:=by
 have z:=List.all_eq_true.mp Vy n (List.mem_range.mpr h)
 simp only [Bool.and_eq_true,decide_eq_true_eq] at z
 exact⟨z.1.1,z.1.2,z.2⟩
theorem FN (a:Int):(gQ a).length<=6/\((gQ a).length:Int)=cg a 50 % 7:=by
 unfold gQ
 have h0:=Int.emod_nonneg (cg a 50) (show(7:Int)≠0 by decide)
 have h1:=Int.emod_lt_of_pos (cg a 50) (show(0:Int) <7 by decide)
 rw [lM,List.length_range]
 omega
theorem Oa (a:Int):qp a<=(gQ a).length:=by
 have h:=(FN a).2
 unfold qp
 have h0:=Int.emod_nonneg (cg a 50) (show(7:Int)≠0 by decide)
 have h1:=Int.emod_lt_of_pos (cg a 51) (show(0:Int) <cg a 50 % 7+1 by omega)
 have h2:=Int.emod_nonneg (cg a 51) (show cg a 50 % 7+1≠0 by omega)
 omega
theorem Du {x:Str} {c:Nat} {r:List Nat} (e:x.cps.toList=c:: r) (h:r.length<=7) (hc:low c=true) (ha:∀d∈r,low d=true∨MJ d=true):nameB x=true:=by
 unfold nameB
 rw [e]
 simp only [Bool.and_eq_true,decide_eq_true_eq,List.all_eq_true,Bool.or_eq_true]
 refine⟨h,hc,fun d hd=>?_⟩
 rcases List.mem_cons.mp hd with rfl | hd
 ·exact .inl hc
 ·exact ha d hd
theorem Eu (a:Int) (k:Nat):(cT a k).cps.toList=Bu a k:=by simp [cT]
theorem Px (a:Int) {k:Nat} (hk:k <26):nameB (cT a k)=true:=by
 have h0:=Int.emod_nonneg (cg a 54) (show(1000:Int)≠0 by decide)
 have h1:=Int.emod_lt_of_pos (cg a 54) (show(0:Int) <1000 by decide)
 have e:=Eu a k
 unfold Bu at e
 split at e
 ·obtain⟨n1,n2,_⟩:=wg (n:=(cg a 54 % 1000+37 * (k:Int)).toNat) (by omega)
  exact Du e (by omega) (Jv _) fun c hc=>.inr (List.all_eq_true.mp n1 c hc)
 ·have b1:=(FN a).1
  have b2:=Oa a
  have all:∀c∈(gQ a).take (qp a) ++ K9 (cg a 55+k):: (gQ a).drop (qp a),low c=true:=fun c hc=>by
   have hb:∀c∈gQ a,low c=true:=fun c hc=>by
    unfold gQ at hc
    obtain⟨j,_,rfl⟩:=List.mem_map.mp hc
    exact Jv _
   rcases List.mem_append.mp hc with h | h
   ·exact hb c (List.mem_of_mem_take h)
   ·rcases List.mem_cons.mp h with rfl | h
    ·exact Jv _
    ·exact hb c (List.mem_of_mem_drop h)
  have len:((gQ a).take (qp a) ++ K9 (cg a 55+k):: (gQ a).drop (qp a)).length<=7:=by
   rw [lP,List.length_take,List.length_cons,List.length_drop]
   omega
  have ne:(gQ a).take (qp a) ++ K9 (cg a 55+k):: (gQ a).drop (qp a)≠[]:=by simp
  generalize (gQ a).take (qp a) ++ K9 (cg a 55+k):: (gQ a).drop (qp a)=l at all len ne e
  obtain⟨c,r,rfl⟩:=List.exists_cons_of_ne_nil ne
  rw [List.length_cons] at len
  exact Du e (by omega) (all c List.mem_cons_self) fun d hd=>.inl (all d (List.mem_cons_of_mem _ hd))
theorem KC (a:Int) {j k:Nat} (hj:j <26) (hk:k <26) (h:cT a j=cT a k):j=k:=by
 have e:Bu a j=Bu a k:=by
  have:=congrArg (fun s:Str=>s.cps.toList) h
  simpa [cT] using this
 unfold Bu at e
 split at e
 ·have h0:=Int.emod_nonneg (cg a 54) (show(1000:Int)≠0 by decide)
  have h1:=Int.emod_lt_of_pos (cg a 54) (show(0:Int) <1000 by decide)
  have e2:=congrArg Ti (List.cons.inj e).2
  rw [(wg (by omega)).2.2,(wg (by omega)).2.2] at e2
  omega
 ·have e2:=(List.cons.inj (List.append_cancel_left e)).1
  unfold K9 at e2
  omega
namespace Drawn
variable {S:Type}
structure iU (S:Type) where
 kind:Nat
 name:S
 nums:List Int
 ins:List S
 outs:List S
structure NS (S:Type) where
 lanes:List S
 parts:List (iU S)
 opens:List S
 back:List S
inductive jq (ps:List (iU S)):S->S->Prop
 | refl (x:S):jq ps x x
 | step {x y z:S} {p:iU S}:p∈ps->x∈p.ins ++ p.outs->y∈p.ins ++ p.outs->jq ps y z->jq ps x z
theorem jq.trans {ps:List (iU S)} {x y z:S} (h:jq ps x y) (k:jq ps y z):jq ps x z:=by
 induction h with
 | refl _=>exact k
 | step hp hx hy _ ih=>exact .step hp hx hy (ih k)
theorem jq.symm {ps:List (iU S)} {x y:S} (h:jq ps x y):jq ps y x:=by
 induction h with
 | refl _=>exact .refl _
 | step hp hx hy _ ih=>exact ih.trans (.step hp hy hx (.refl _))
theorem jq.mono {ps qs:List (iU S)} (hs:∀p∈ps,p∈qs) {x y:S} (h:jq ps x y):jq qs x y:=by
 induction h with
 | refl _=>exact .refl _
 | step hp hx hy _ ih=>exact .step (hs _ hp) hx hy ih
theorem jq.part {ps:List (iU S)} {p:iU S} (hp:p∈ps) {x y:S} (hx:x∈p.ins ++ p.outs) (hy:y∈p.ins ++ p.outs):jq ps x y:=.step hp hx hy (.refl _)
structure WF (ns:NS S):Prop where
 nod:ns.lanes.Nodup
 outs:((ns.parts.flatMap (·.outs)) ++ ns.back).Perm ns.lanes
 ins:((ns.parts.flatMap (·.ins)) ++ ns.opens).Perm ns.lanes
 hang:∀p∈ns.parts,∃x∈p.ins ++ p.outs,∃o∈ns.opens,jq ns.parts x o
 touch:∀p∈ns.parts,p.ins ++ p.outs≠[]
theorem WF.add {ns:NS S} (w:WF ns) {p:iU S} {newl opens' back':List S} (hn:(ns.lanes ++ newl).Nodup) (ho:(p.outs ++ back').Perm (ns.back ++ newl)) (hi:(p.ins ++ opens').Perm (ns.opens ++ newl))
  (hg:∀o∈ns.opens,∃o'∈opens',jq (ns.parts ++ [p]) o o') (hp:∃x∈p.ins ++ p.outs,∃o∈opens',jq (ns.parts ++ [p]) x o):
  WF { lanes:=ns.lanes ++ newl,parts:=ns.parts ++ [p],opens:=opens',back:=back' }:=by
 have mono:∀q∈ns.parts,q∈ns.parts ++ [p]:=fun q hq=>List.mem_append.mpr (.inl hq)
 refine⟨hn,?_,?_,?_,?_⟩
 ·have e:(ns.parts ++ [p]).flatMap (·.outs)=ns.parts.flatMap (·.outs) ++ p.outs:=by simp
  show(((ns.parts ++ [p]).flatMap (·.outs)) ++ back').Perm _
  rw [e,List.append_assoc]
  exact(ho.append_left _).trans (by rw [<-List.append_assoc];exact w.outs.append_right _)
 ·have e:(ns.parts ++ [p]).flatMap (·.ins)=ns.parts.flatMap (·.ins) ++ p.ins:=by simp
  show(((ns.parts ++ [p]).flatMap (·.ins)) ++ opens').Perm _
  rw [e,List.append_assoc]
  exact(hi.append_left _).trans (by rw [<-List.append_assoc];exact w.ins.append_right _)
 ·intro q hq
  rcases List.mem_append.mp hq with h | h
  ·obtain⟨x,hx,o,hoq,c⟩:=w.hang q h
   obtain⟨o',ho',c'⟩:=hg o hoq
   exact⟨x,hx,o',ho',(c.mono mono).trans c'⟩
  ·rw [List.mem_singleton] at h
   subst h
   exact hp
 ·intro q hq
  rcases List.mem_append.mp hq with h | h
  ·exact w.touch q h
  ·rw [List.mem_singleton] at h
   subst h
   obtain⟨x,hx,_⟩:=hp
   intro z
   rw [z] at hx
   cases hx
theorem WF.start:WF (⟨[],[],[],[]⟩:NS S):=⟨List.nodup_nil,.refl _,.refl _,fun p hp=>(by cases hp),fun p hp=>(by cases hp)⟩
theorem WF.backLane {ns:NS S} (w:WF ns) {b:S} (hn:(ns.lanes ++ [b]).Nodup):WF { ns with lanes:=ns.lanes ++ [b],opens:=ns.opens ++ [b],back:=ns.back ++ [b] }:=by
 refine⟨hn,?_,?_,fun p hp=>?_,w.touch⟩
 ·show(_ ++ (ns.back ++ [b])).Perm _
  rw [<-List.append_assoc]
  exact w.outs.append_right _
 ·show(_ ++ (ns.opens ++ [b])).Perm _
  rw [<-List.append_assoc]
  exact w.ins.append_right _
 ·obtain⟨x,hx,o,ho,c⟩:=w.hang p hp
  exact⟨x,hx,o,List.mem_append.mpr (.inl ho),c⟩
theorem WF.part {ns:NS S} (w:WF ns) {p:iU S} {rest:List S} (hi:ns.opens.Perm (p.ins ++ rest)) (hf:(ns.lanes ++ p.outs).Nodup) (ho:p.outs≠[]):
  WF { ns with lanes:=ns.lanes ++ p.outs,parts:=ns.parts ++ [p],opens:=rest ++ p.outs }:=by
 have hp:p∈ns.parts ++ [p]:=by simp
 obtain⟨o1,hoo⟩:∃o1,o1∈p.outs:=List.exists_mem_of_ne_nil _ ho
 have h1:o1∈rest ++ p.outs:=List.mem_append.mpr (.inr hoo)
 refine w.add hf List.perm_append_comm ?_ (fun o h=>?_) ⟨o1,List.mem_append.mpr (.inr hoo),o1,h1,.refl _⟩
 ·rw [<-List.append_assoc]
  exact hi.symm.append_right _
 ·rcases List.mem_append.mp (hi.mem_iff.mp h) with h | h
  ·exact⟨o1,h1,jq.part hp (List.mem_append.mpr (.inl h)) (List.mem_append.mpr (.inr hoo))⟩
  ·exact⟨o,List.mem_append.mpr (.inl h),.refl _⟩
theorem WF.take {ns:NS S} (w:WF ns) {p:iU S} {rest:List S} {y x:S} (hi:p.ins=[y]) (ho:p.outs=[]) (hr:ns.opens.Perm (y:: rest)) (hx:x∈rest) (c:jq ns.parts y x):
  WF { ns with parts:=ns.parts ++ [p],opens:=rest }:=by
 have mono:∀q∈ns.parts,q∈ns.parts ++ [p]:=fun q hq=>List.mem_append.mpr (.inl hq)
 have:=w.add (p:=p) (newl:=[]) (opens':=rest) (back':=ns.back) (by rw [List.append_nil];exact w.nod) (by rw [ho,List.append_nil];exact .refl _) (by rw [hi,List.append_nil];exact hr.symm)
  (fun o h=>by
   rcases List.mem_cons.mp (hr.mem_iff.mp h) with rfl | h
   ·exact⟨x,hx,c.mono mono⟩
   ·exact⟨o,h,.refl _⟩) ⟨y,by simp [hi],x,hx,c.mono mono⟩
 rw [List.append_nil] at this
 exact this
theorem WF.loop {ns:NS S} (w:WF ns) {p:iU S} {rest:List S} {one own fresh:S} (hi:p.ins=[one,own]) (ho:p.outs=[own,fresh]) (hr:ns.opens.Perm (one:: rest)) (hn:(ns.lanes ++ [own,fresh]).Nodup):
  WF { ns with lanes:=ns.lanes ++ [own,fresh],parts:=ns.parts ++ [p],opens:=rest ++ [fresh] }:=by
 have hp:p∈ns.parts ++ [p]:=by simp
 have hf:fresh∈rest ++ [fresh]:=by simp
 refine w.add hn (by rw [ho];exact List.perm_append_comm) ?_ (fun o h=>?_) ⟨fresh,by simp [ho],fresh,hf,.refl _⟩
 ·rw [hi]
  show(one:: own:: (rest ++ [fresh])).Perm (ns.opens ++ [own,fresh])
  refine .trans ?_ (hr.symm.append_right _)
  refine .cons _ ?_
  show(own:: (rest ++ [fresh])).Perm (rest ++ ([own] ++ [fresh]))
  rw [<-List.append_assoc]
  exact(List.perm_append_comm (l₁:=[own]) (l₂:=rest)).append_right [fresh]
 ·rcases List.mem_cons.mp (hr.mem_iff.mp h) with rfl | h
  ·exact⟨fresh,hf,jq.part hp (by simp [hi]) (by simp [ho])⟩
  ·exact⟨o,List.mem_append.mpr (.inl h),.refl _⟩
theorem WF.closeBack {ns:NS S} (w:WF ns) {p:iU S} {rest:List S} {one b fresh:S} (hi:p.ins=[one]) (ho:p.outs=[b,fresh]) (hb:ns.back.Perm (b:: rest)) (h1:ns.opens=[one]) (hn:(ns.lanes ++ [fresh]).Nodup):
  WF { lanes:=ns.lanes ++ [fresh],parts:=ns.parts ++ [p],opens:=[fresh],back:=rest }:=by
 have hp:p∈ns.parts ++ [p]:=by simp
 refine w.add hn ?_ (by rw [hi,h1]) (fun o h=>?_) ⟨fresh,by simp [ho],fresh,by simp,.refl _⟩
 ·rw [ho]
  show(b:: fresh:: rest).Perm (ns.back ++ [fresh])
  refine .trans ?_ (hb.symm.append_right _)
  exact .cons _ (List.perm_append_comm (l₁:=[fresh]) (l₂:=rest))
 ·rw [h1,List.mem_singleton] at h
  subst h
  exact⟨fresh,by simp,jq.part hp (by simp [hi]) (by simp [ho])⟩
theorem WF.last {ns:NS S} (w:WF ns) {p:iU S} {y:S} (hb:ns.back=[]) (h1:ns.opens=[y]) (hi:p.ins=[y]) (ho:p.outs=[]):
  ((ns.parts ++ [p]).flatMap (·.outs)).Perm ns.lanes/\((ns.parts ++ [p]).flatMap (·.ins)).Perm ns.lanes/\∀q∈ns.parts ++ [p],∃x∈q.ins ++ q.outs,jq (ns.parts ++ [p]) x y:=by
 have mono:∀q∈ns.parts,q∈ns.parts ++ [p]:=fun q hq=>List.mem_append.mpr (.inl hq)
 refine⟨?_,?_,?_⟩
 ·have e:(ns.parts ++ [p]).flatMap (·.outs)=ns.parts.flatMap (·.outs):=by simp [ho]
  rw [e]
  have:=w.outs
  rw [hb,List.append_nil] at this
  exact this
 ·have e:(ns.parts ++ [p]).flatMap (·.ins)=ns.parts.flatMap (·.ins) ++ [y]:=by simp [hi]
  rw [e]
  have:=w.ins
  rw [h1] at this
  exact this
 ·intro q hq
  rcases List.mem_append.mp hq with h | h
  ·obtain⟨x,hx,o,hoq,c⟩:=w.hang q h
   rw [h1,List.mem_singleton] at hoq
   subst hoq
   exact⟨x,hx,c.mono mono⟩
  ·rw [List.mem_singleton] at h
   subst h
   exact⟨y,by simp [hi],.refl _⟩
theorem Mx {ps:List (iU S)} {J:iU S->Prop} (closed:∀(l:S) (p q:iU S),p∈ps->q∈ps->l∈p.ins ++ p.outs->l∈q.ins ++ q.outs->J p->J q) {y:S} (hang:∀q∈ps,∃x∈q.ins ++ q.outs,jq ps x y)
  {p0:iU S} (hp0:p0∈ps) (h0:J p0):∀q∈ps,J q:=by
 have go:∀{x z:S},jq ps x z->(∃p∈ps,x∈p.ins ++ p.outs/\J p)->∃p∈ps,z∈p.ins ++ p.outs/\J p:=by
  intro x z c
  induction c with
  | refl _=>exact id
  | step hp hx hy _ ih=>
   rintro⟨p',hp',hx',hJ⟩
   exact ih ⟨_,hp,hy,closed _ _ _ hp' hp hx' hx hJ⟩
 obtain⟨x0,hx0,c0⟩:=hang p0 hp0
 have hy:=go c0 ⟨p0,hp0,hx0,h0⟩
 intro q hq
 obtain⟨x,hx,c⟩:=hang q hq
 obtain⟨p',hp',hx',hJ⟩:=go c.symm hy
 exact closed _ _ _ hp' hq hx' hx hJ
theorem Qy {ps:List (iU S)} (f:iU S->List S) (h:(ps.flatMap f).Nodup) {i j:Nat} {p q:iU S} {l:S} (hi:ps[i]?=some p) (hj:ps[j]?=some q) (hp:l∈f p) (hq:l∈f q):i=j:=by
 induction ps generalizing i j with
 | nil=>cases hi
 | cons r rs ih=>
  rw [List.flatMap_cons,List.nodup_append] at h
  obtain⟨h1,h2,h3⟩:=h
  have far:∀{k:Nat} {s:iU S},rs[k]?=some s->l∈f s->l∈rs.flatMap f:=fun e hs=>List.mem_flatMap.mpr ⟨_,List.mem_of_getElem? e,hs⟩
  match i,j with
  | 0,0=>rfl
  | 0,j+1=>
   simp only [List.getElem?_cons_zero,Option.some.injEq] at hi
   subst hi
   exact absurd rfl (h3 l hp l (far (by simpa using hj) hq))
  | i+1,0=>
   simp only [List.getElem?_cons_zero,Option.some.injEq] at hj
   subst hj
   exact absurd rfl (h3 l hq l (far (by simpa using hi) hp))
  | i+1,j+1=>exact congrArg (· +1) (ih h2 (by simpa using hi) (by simpa using hj))
end Drawn
structure aH where
 name:Str
 room:Int
 first:List Int
noncomputable def aH.ok (l:aH):Prop:=1<=l.room/\l.room<=10/\(l.first.length:Int)<=l.room/\∀v∈l.first,0<=v/\v <1000000000
noncomputable abbrev PD:=Drawn.iU Str
noncomputable def uK (p:PD):Prop:=p.kind <11/\p.nums.length=cN p.kind/\p.ins.length=cI p.kind/\p.outs.length=cO p.kind/\∀v∈p.nums,0<=v/\v <1000000000
noncomputable def bA (E:List Addr) (H:Hp):Hp:=fun b=>if b∈E then none else H b
theorem bQ {E:List Addr} {H:Hp}:aK (bA E H) H:=fun b o e=>by
 unfold bA at e
 split at e
 ·cases e
 ·exact e
theorem vO {E:List Addr} {H:Hp} {p:Addr} {o:HO} (h:H p=none):aK (bA E H) (bA E (upd H p o)):=fun b u e=>by
 have e':=bQ b u e
 unfold bA at e ⊢
 split at e
 ·cases e
 ·rename_i n
  rw [if_neg n,aM (aD e' h)]
  exact e
theorem dR {E:List Addr} {H:Hp} {p:Addr} {o:HO} (h:H p=some o) (n:p∉E):bA E H p=some o:=by
 unfold bA
 rw [if_neg n]
 exact h
theorem dF {E:List Addr} {H:Hp} {a:Addr} {o:HO} (h:a∈E):bA E (upd H a o)=bA E H:=by
 funext b
 unfold bA
 split
 ·rfl
 ·rename_i n
  rw [aM (fun z=>n (by rw [z];exact h))]
theorem uM {E:List Addr} {H H':Hp} (s:aK H H') (hE:∀a∈E,∃o,H a=some o):aK (bA E H) (bA E H'):=fun b o e=>by
 have e':=bQ b o e
 unfold bA at e ⊢
 split at e
 ·cases e
 ·rename_i n
  rw [if_neg n]
  exact s _ _ e'
inductive jn {α β:Type} (R:α->β->Prop):List α->List β->Prop
 | nil:jn R [] []
 | cons {a:α} {b:β} {l:List α} {m:List β}:R a b->jn R l m->jn R (a:: l) (b:: m)
theorem jn.imp {α β:Type} {R R':α->β->Prop} (h:∀a b,R a b->R' a b):∀{l:List α} {m:List β},jn R l m->jn R' l m
 | _,_,.nil=>.nil
 | _,_,.cons r t=>.cons (h _ _ r) (t.imp h)
theorem jn.length {α β:Type} {R:α->β->Prop}:∀{l:List α} {m:List β},jn R l m->l.length=m.length
 | _,_,.nil=>rfl
 | _,_,.cons _ t=>by rw [List.length_cons,List.length_cons,t.length]
theorem jn.app {α β:Type} {R:α->β->Prop}:∀{l l':List α} {m m':List β},jn R l m->jn R l' m'->jn R (l ++ l') (m ++ m')
 | _,_,_,_,.nil,h=>h
 | _,_,_,_,.cons r t,h=>.cons r (t.app h)
theorem jn.get {α β:Type} {R:α->β->Prop}:∀{l:List α} {m:List β},jn R l m->∀{i:Nat} {a:α},l[i]?=some a->∃b,m[i]?=some b/\R a b
 | _,_,.nil,_,_,h=>by simp at h
 | _,_,.cons r t,0,_,h=>by
  simp only [List.getElem?_cons_zero,Option.some.injEq] at h
  subst h
  exact⟨_,rfl,r⟩
 | _,_,.cons r t,i+1,_,h=>t.get (i:=i) (by simpa using h)
theorem jn.take {α β:Type} {R:α->β->Prop}:∀{l:List α} {m:List β},jn R l m->∀n:Nat,jn R (l.take n) (m.take n)
 | _,_,.nil,_=>by simp;exact .nil
 | _,_,.cons r t,0=>by simp;exact .nil
 | _,_,.cons r t,n+1=>by simp;exact .cons r (t.take n)
theorem jn.drop {α β:Type} {R:α->β->Prop}:∀{l:List α} {m:List β},jn R l m->∀n:Nat,jn R (l.drop n) (m.drop n)
 | _,_,.nil,_=>by simp;exact .nil
 | _,_,.cons r t,0=>.cons r t
 | _,_,.cons r t,n+1=>by simp;exact t.drop n
inductive uJ (G:Hp) (v:V) (l:aH):Prop where
 | mk:∀q f,v=.ref q->G q=some (.tup [.str l.name,.int l.room,.ref f])->G f=some (.lst (l.first.map V.int))->uJ G v l
inductive wL (G:Hp) (v:V) (p:PD):Prop where
 | mk:∀q a1 a2 a3,v=.ref q->G q=some (.tup [.str (fc p.kind),.str p.name,.ref a1,.ref a2,.ref a3])->G a1=some (.lst (p.nums.map V.int))->G a2=some (.lst (p.ins.map V.str))->G a3=some (.lst (p.outs.map V.str))->wL G v p
theorem uJ.same {G G':Hp} {v:V} {l:aH} (h:uJ G v l) (s:aK G G'):uJ G' v l:=by
 obtain⟨q,f,e,h1,h2⟩:=h
 exact⟨q,f,e,s _ _ h1,s _ _ h2⟩
theorem wL.same {G G':Hp} {v:V} {p:PD} (h:wL G v p) (s:aK G G'):wL G' v p:=by
 obtain⟨q,a1,a2,a3,e,h1,h2,h3,h4⟩:=h
 exact⟨q,a1,a2,a3,e,s _ _ h1,s _ _ h2,s _ _ h3,s _ _ h4⟩
structure Dw where
 S:Addr
 L:Addr
 P:Addr
 O:Addr
 c3:Int
 c4:Int
noncomputable abbrev Dw.E (d:Dw):List Addr:=[d.L,d.P,d.O]
structure mZ (d:Dw) (H:Hp) (ls:List aH) (ps:List PD) (os:List Str):Prop where
 top:bA d.E H d.S=some (.lst [.ref d.L,.ref d.P,.ref d.O,.int d.c3,.int d.c4])
 lanes:∃xs,H d.L=some (.lst xs)/\jn (uJ (bA d.E H)) xs ls
 parts:∃xs,H d.P=some (.lst xs)/\jn (wL (bA d.E H)) xs ps
 opens:H d.O=some (.lst (os.map V.str))
 ne:d.L≠d.P/\d.L≠d.O/\d.P≠d.O
 lok:∀l∈ls,l.ok
 pok:∀p∈ps,uK p
 ln:ls.map (·.name)=(List.range ls.length).map (cT d.c3)
 pn:ps.map (·.name)=(List.range ps.length).map (cT d.c4)
theorem mZ.seqS {d:Dw} {H:Hp} {ls:List aH} {ps:List PD} {os:List Str} (D:mZ d H ls ps os):bH K H d.S [.ref d.L,.ref d.P,.ref d.O,.int d.c3,.int d.c4]:=bH.of (bQ _ _ D.top)
theorem mZ.has {d:Dw} {H:Hp} {ls:List aH} {ps:List PD} {os:List Str} (D:mZ d H ls ps os) {a:Addr} (h:a∈d.E):∃o,H a=some o:=by
 obtain⟨_,e1,_⟩:=D.lanes
 obtain⟨_,e2,_⟩:=D.parts
 rcases List.mem_cons.mp h with rfl | h
 ·exact⟨_,e1⟩
 ·rcases List.mem_cons.mp h with rfl | h
  ·exact⟨_,e2⟩
  ·rw [List.mem_singleton] at h
   subst h
   exact⟨_,D.opens⟩
theorem mZ.out {d:Dw} {H:Hp} {ls:List aH} {ps:List PD} {os:List Str} (D:mZ d H ls ps os) {p:Addr} (h:H p=none):p∉d.E:=fun z=>by
 obtain⟨o,e⟩:=D.has z
 rw [h] at e
 cases e
theorem mZ.keep {d:Dw} {H H':Hp} {ls:List aH} {ps:List PD} {os:List Str} (D:mZ d H ls ps os) (s:aK H H'):mZ d H' ls ps os:=by
 obtain⟨xs,e1,a1⟩:=D.lanes
 obtain⟨ys,e2,a2⟩:=D.parts
 have c:=uM (E:=d.E) s (fun a h=>D.has h)
 exact⟨c _ _ D.top,⟨xs,s _ _ e1,a1.imp fun _ _ h=>h.same c⟩,⟨ys,s _ _ e2,a2.imp fun _ _ h=>h.same c⟩,s _ _ D.opens,D.ne,D.lok,D.pok,D.ln,D.pn⟩
theorem mZ.cut {d:Dw} {H H':Hp} {ls:List aH} {ps:List PD} {os:List Str} (D:mZ d H ls ps os) (s:aK H H'):aK (bA d.E H) (bA d.E H'):=uM s (fun _ h=>D.has h)
theorem Ih {α:Type} {f:α->Str} {w:Nat->Str} {l:List α} {x:α} (h:l.map f=(List.range l.length).map w) (hx:f x=w l.length):(l ++ [x]).map f=(List.range (l ++ [x]).length).map w:=by
 rw [List.map_append,lP,List.length_singleton,List.range_succ,List.map_append,h,List.map_singleton,List.map_singleton,hx]
theorem mZ.lane {d:Dw} {H:Hp} {ls:List aH} {ps:List PD} {os:List Str} (D:mZ d H ls ps os) {v:V} {l:aH} (h:uJ (bA d.E H) v l) (hl:l.ok) (hn:l.name=cT d.c3 ls.length) {xs:List V} (e:H d.L=some (.lst xs)):
  mZ d (upd H d.L (.lst (xs ++ [v]))) (ls ++ [l]) ps os:=by
 obtain⟨xs',e1,a1⟩:=D.lanes
 obtain⟨ys,e2,a2⟩:=D.parts
 rw [e] at e1
 cases e1
 have c:bA d.E (upd H d.L (.lst (xs ++ [v])))=bA d.E H:=dF (by simp)
 refine⟨by rw [c];exact D.top,⟨_,az,by rw [c];exact a1.app (.cons h .nil)⟩,⟨ys,by rw [aM (Ne.symm D.ne.1)];exact e2,by rw [c];exact a2⟩,by rw [aM (Ne.symm D.ne.2.1)];exact D.opens,D.ne,fun x hx=>?_,D.pok,Ih D.ln hn,D.pn⟩
 rcases List.mem_append.mp hx with hx | hx
 ·exact D.lok x hx
 ·rw [List.mem_singleton] at hx
  subst hx
  exact hl
theorem mZ.part {d:Dw} {H:Hp} {ls:List aH} {ps:List PD} {os:List Str} (D:mZ d H ls ps os) {v:V} {p:PD} (h:wL (bA d.E H) v p) (hl:uK p) (hn:p.name=cT d.c4 ps.length) {xs:List V} (e:H d.P=some (.lst xs)):
  mZ d (upd H d.P (.lst (xs ++ [v]))) ls (ps ++ [p]) os:=by
 obtain⟨xs',e1,a1⟩:=D.lanes
 obtain⟨ys,e2,a2⟩:=D.parts
 rw [e] at e2
 cases e2
 have c:bA d.E (upd H d.P (.lst (xs ++ [v])))=bA d.E H:=dF (by simp)
 refine⟨by rw [c];exact D.top,⟨_,by rw [aM D.ne.1];exact e1,by rw [c];exact a1⟩,⟨_,az,by rw [c];exact a2.app (.cons h .nil)⟩,by rw [aM (Ne.symm D.ne.2.2)];exact D.opens,D.ne,D.lok,fun x hx=>?_,D.ln,Ih D.pn hn⟩
 rcases List.mem_append.mp hx with hx | hx
 ·exact D.pok x hx
 ·rw [List.mem_singleton] at hx
  subst hx
  exact hl
theorem mZ.open {d:Dw} {H:Hp} {ls:List aH} {ps:List PD} {os os':List Str} (D:mZ d H ls ps os):mZ d (upd H d.O (.lst (os'.map V.str))) ls ps os':=by
 obtain⟨xs,e1,a1⟩:=D.lanes
 obtain⟨ys,e2,a2⟩:=D.parts
 have c:bA d.E (upd H d.O (.lst (os'.map V.str)))=bA d.E H:=dF (by simp)
 exact⟨by rw [c];exact D.top,⟨xs,by rw [aM D.ne.2.1];exact e1,by rw [c];exact a1⟩,⟨ys,by rw [aM D.ne.2.2];exact e2,by rw [c];exact a2⟩,az,D.ne,D.lok,D.pok,D.ln,D.pn⟩
theorem Ba (a:Int) {n:Nat} (h:n<=26):((List.range n).map (cT a)).Nodup:=by
 induction n with
 | zero=>exact List.nodup_nil
 | succ n ih=>
  rw [List.range_succ,List.map_append,List.nodup_append]
  refine⟨ih (by omega),by simp,fun x hx y hy=>?_⟩
  obtain⟨j,hj,rfl⟩:=List.mem_map.mp hx
  rw [List.map_singleton,List.mem_singleton] at hy
  subst hy
  have hj':=List.mem_range.mp hj
  intro z
  have:=KC a (by omega) (by omega) z
  omega
noncomputable abbrev uw (ls:List aH) (ps:List PD) (os back:List Str):Drawn.NS Str:=⟨ls.map (·.name),ps,os,back⟩
theorem mZ.nod {d:Dw} {H:Hp} {ls:List aH} {ps:List PD} {os:List Str} (D:mZ d H ls ps os) (h:ls.length<=26):(ls.map (·.name)).Nodup:=by
 rw [D.ln]
 exact Ba _ h
theorem Xl {ns:Drawn.NS Str} (w:Drawn.WF ns) {os:List Str} (h:ns.opens.Perm os):Drawn.WF { ns with opens:=os }:=
 ⟨w.nod,w.outs,(h.symm.append_left _).trans w.ins,fun p hp=>by
  obtain⟨x,hx,o,ho,c⟩:=w.hang p hp
  exact⟨x,hx,o,h.mem_iff.mp ho,c⟩,w.touch⟩
theorem rG {d:Dw} {H:Hp} {ls newl:List aH} {ps:List PD} {p:PD} {os ops back:List Str} (w:Drawn.WF (uw ls ps ops back)) (ho:p.outs=newl.map (·.name)) (D:mZ d H (ls ++ newl) (ps ++ [p]) (os ++ newl.map (·.name))) (hi:ops.Perm (p.ins ++ os)) (hne:newl.length≠0) (hl:(ls ++ newl).length<=26):
  Drawn.WF (uw (ls ++ newl) (ps ++ [p]) (os ++ newl.map (·.name)) back):=by
 have nd:=D.nod hl
 rw [List.map_append] at nd
 have:=w.part (p:=p) hi (by rw [ho];exact nd) (by rw [ho];intro z;exact hne (by rw [<-lM (f:=fun l:aH=>l.name),z];rfl))
 rw [ho] at this
 unfold uw
 rw [List.map_append]
 exact this
noncomputable def Mg (ps:List PD):Prop:=ps.any (fun p=>p.kind == 0)=true
theorem Mg.app {ps:List PD} {p:PD} (h:Mg ps):Mg (ps ++ [p]):=by unfold Mg at h ⊢;rw [List.any_append,h];rfl
structure Nxt (d:Dw) (H H':Hp) (ls:List aH) (ps:List PD) (back:List Str) (ls':List aH) (ps':List PD) (os':List Str):Prop where
 cut:aK (bA d.E H) (bA d.E H')
 at':mZ d H' ls' ps' os'
 wf:Drawn.WF (uw ls' ps' os' back)
 o1:1<=os'.length
 o4:os'.length<=4
 l2:ls'.length<=ls.length+2
 p2:ps'.length<=ps.length+2
 gv:Mg ps->Mg ps'
theorem Dp {c X Y B:Prop} [Decidable c] (k:B) (hx:c->B->X) (hy:B->Y):if c then X else Y:=by
 split
 ·rename_i h;exact hx h k
 ·exact hy k
theorem hide {t u:TS} {D:Ends} {σ:St} {H:Hp} (h:∀v,v=u->yN t v D σ H):yN t u D σ H:=h u rfl
theorem SJ {i:Nat} {x:V} {t u:TS} {D:Ends} {σ:St} {H:Hp} (h:∀E,E=D->∀v,v=u->yN t v E (σ.set i (some x)) H):yI i x σ H fun σ2 H2=>yN t u D σ2 H2:=h D rfl u rfl
theorem Wd {i:Nat} {x:V} {t:TS} {D:Ends} {σ:St} {H:Hp} (h:∀E,E=D->t E (σ.set i (some x)) H):yI i x σ H fun σ2 H2=>t D σ2 H2:=h D rfl
theorem YT {t u:TS} {D:Ends} {σ:St} {H:Hp} (h:∀E,E=D->∀v,v=u->yN t v E σ H):yN t u D σ H:=h D rfl u rfl
theorem du {t u v:TS} {D:Ends} {σ:St} {H:Hp} (hv:v=yN t u) (h:∀w,w=u->yN t w D σ H):v D σ H:=by
 subst hv
 exact h u rfl
theorem mZ.two {d:Dw} {H:Hp} {ls:List aH} {ps:List PD} {os:List Str} (D:mZ d H ls ps os) {a1 a2:Addr} {x y:HO} (n1:H a1=none) (n2:upd H a1 x a2=none):
  mZ d (upd (upd H a1 x) a2 y) ls ps os/\bA d.E (upd (upd H a1 x) a2 y) a1=some x/\bA d.E (upd (upd H a1 x) a2 y) a2=some y/\aK (bA d.E H) (bA d.E (upd (upd H a1 x) a2 y)):=by
 have s1:=aB (o:=x) n1
 have s2:=aB (o:=y) n2
 have s:=s1.trans s2
 exact⟨D.keep s,dR (s2 _ _ az) (D.out n1),dR az (D.out (s1.free n2)),D.cut s⟩
structure G4 (lanes:List Str) (ps:List PD):Prop where
 nod:lanes.Nodup
 outs:(ps.flatMap (·.outs)).Perm lanes
 ins:(ps.flatMap (·.ins)).Perm lanes
 hang:∃y,∀q∈ps,∃x∈q.ins ++ q.outs,Drawn.jq ps x y
noncomputable def Hu (H:Hp) (a:Addr):Nat:=match H a with
 | some (.lst xs)=>xs.length
 | _=>0
theorem yD {H:Hp} {a:Addr} {xs:List V} (h:H a=some (.lst xs)):Hu H a=xs.length:=by
 unfold Hu
 rw [h]
theorem N7 (m:Int) {n:Int} {k:Nat} (h0:0 <n) (hk:n=k):∃j:Nat,m % n=(j:Int)/\j <k:=by
 have h1:=Int.emod_nonneg m (Int.ne_of_gt h0)
 have h2:=Int.emod_lt_of_pos m h0
 exact⟨(m % n).toNat,(Int.toNat_of_nonneg h1).symm,by omega⟩
theorem YW (m:Int):∃i:Nat,Gk [V.str "add",V.str "less",V.str "add"] (m % 3)=some (.str (fc i))/\(i=6∨i=7):=by
 have key:∀j,j <3->Gk [V.str "add",V.str "less",V.str "add"] ((j:Nat):Int)=some (.str (fc (([6,7,6]:List Nat).getD j 0)))/\(([6,7,6]:List Nat).getD j 0=6∨([6,7,6]:List Nat).getD j 0=7):=by decide +kernel
 obtain⟨j,e,hj⟩:=N7 m (n:=3) (k:=3) (by decide) rfl
 rw [e]
 exact⟨_,key j hj⟩
structure Rn (c3 c4:Int) (ls:List aH) (ps:List PD):Prop where
 lok:∀l∈ls,l.ok
 pok:∀p∈ps,uK p
 ln:ls.map (·.name)=(List.range ls.length).map (cT c3)
 pn:((List.range ps.length).map (cT c4)).Perm (ps.map (·.name))
 whole:G4 (ls.map (·.name)) ps
 l1:1<=ls.length
 l17:ls.length<=17
 p1:1<=ps.length
 p16:ps.length<=16
 giv:Mg ps
structure P0 (H:Hp) (L P:Addr) (ls:List aH) (ps:List PD):Prop where
 lanes:∃xs,H L=some (.lst xs)/\jn (uJ H) xs ls
 parts:∃xs,H P=some (.lst xs)/\jn (wL H) xs ps
theorem P0.same {H H':Hp} {L P:Addr} {ls:List aH} {ps:List PD} (h:P0 H L P ls ps) (s:aK H H'):P0 H' L P ls ps:=by
 obtain⟨⟨xs,e1,a1⟩,⟨ys,e2,a2⟩⟩:=h
 exact⟨⟨xs,s _ _ e1,a1.imp fun _ _ h=>h.same s⟩,⟨ys,s _ _ e2,a2.imp fun _ _ h=>h.same s⟩⟩
theorem Qf {ps qs:List PD} (h:ps.Perm qs) {x y:Str} (c:Drawn.jq ps x y):Drawn.jq qs x y:=c.mono fun _ hp=>h.mem_iff.mp hp
theorem G4.perm {ns:List Str} {ps qs:List PD} (w:G4 ns ps) (h:ps.Perm qs):G4 ns qs:=by
 obtain⟨y,hy⟩:=w.hang
 exact⟨w.nod,(h.symm.flatMap_right _).trans w.outs,(h.symm.flatMap_right _).trans w.ins,y,fun q hq=>by
  obtain⟨x,hx,c⟩:=hy q (h.mem_iff.mpr hq)
  exact⟨x,hx,Qf h c⟩⟩
theorem Uo {α:Type} (l:List α) (n:Nat):l.Perm (l.drop n ++ l.take n):=by
 have h:l.Perm (l.take n ++ l.drop n):=by rw [List.take_append_drop]
 exact h.trans List.perm_append_comm
theorem zZ (xs:List V) (g:Nat):xM xs (some (g:Int)) none=xs.drop g:=by
 unfold xM
 rw [HT.yE,HT.vQ,<-List.length_drop,List.take_length]
 rcases Nat.le_total g xs.length with h | h
 ·rw [Nat.min_eq_left h]
 ·rw [Nat.min_eq_right h,List.drop_length,List.drop_eq_nil_of_le h]
theorem Vh (xs:List V) (g:Nat):xM xs none (some (g:Int))=xs.take g:=by
 unfold xM
 rw [HT.yE,HT.vQ,List.drop_zero,Nat.sub_zero]
 rcases Nat.le_total g xs.length with h | h
 ·rw [Nat.min_eq_left h]
 ·rw [Nat.min_eq_right h,List.take_length,List.take_of_length_le h]
theorem mZ.init {H:Hp} {S L P O:Addr} (c3 c4:Int) (nL:H L=none) (nP:upd H L (.lst []) P=none) (nO:upd (upd H L (.lst [])) P (.lst []) O=none) (nS:upd (upd (upd H L (.lst [])) P (.lst [])) O (.lst []) S=none):
  mZ ⟨S,L,P,O,c3,c4⟩ (upd (upd (upd (upd H L (.lst [])) P (.lst [])) O (.lst [])) S (.lst [.ref L,.ref P,.ref O,.int c3,.int c4])) [] [] []/\aK H (bA [L,P,O] (upd (upd (upd (upd H L (.lst [])) P (.lst [])) O (.lst [])) S (.lst [.ref L,.ref P,.ref O,.int c3,.int c4])))/\H P=none:=by
 have s1:=aB (o:=.lst []) nL
 have s2:=aB (o:=.lst []) nP
 have s3:=aB (o:=.lst []) nO
 have s4:=aB (o:=.lst [.ref L,.ref P,.ref O,.int c3,.int c4]) nS
 have e1:=s4 _ _ (s3 _ _ (s2 L (.lst []) az))
 have e2:=s4 _ _ (s3 P (.lst []) az)
 have e3:=s4 O (.lst []) az
 have n1:L≠P:=aD (az (H:=H) (o:=.lst [])) nP
 have n2:L≠O:=aD (s2 L (.lst []) az) nO
 have n3:P≠O:=aD (az (H:=upd H L (.lst [])) (o:=.lst [])) nO
 have m1:L≠S:=aD (s3 _ _ (s2 L (.lst []) az)) nS
 have m2:P≠S:=aD (s3 P (.lst []) az) nS
 have m3:O≠S:=aD (az (H:=upd (upd H L (.lst [])) P (.lst [])) (o:=.lst [])) nS
 refine⟨⟨dR az ?_,⟨[],e1,.nil⟩,⟨[],e2,.nil⟩,e3,⟨n1,n2,n3⟩,(fun _ h=>by cases h),(fun _ h=>by cases h),rfl,rfl⟩,fun b o e=>dR (s4 _ _ (s3 _ _ (s2 _ _ (s1 _ _ e)))) ?_,s1.free nP⟩
 ·show S∉[L,P,O]
  simp [m1.symm,m2.symm,m3.symm]
 ·have q1:=aD e nL
  have q2:=aD (s1 _ _ e) nP
  have q3:=aD (s2 _ _ (s1 _ _ e)) nO
  simp [q1,q2,q3]
noncomputable abbrev LET:Str:= "abcdefghijklmnopqrstuvwxyz"
noncomputable abbrev FIG:Str:= "0123456789"
theorem QR:LET.cps.toList=List.range' 97 26:=by decide +kernel
theorem QT:FIG.cps.toList=List.range' 48 10:=by decide +kernel
theorem Rg (c:Nat):(!(Builtin.Str.occurrences LET ⟨#[c]⟩ 0 LET.length 1).isEmpty)=low c:=by
 rw [StrLaws.found_one,QR]
 unfold low
 rw [Bool.eq_iff_iff]
 simp [List.mem_range'_1]
 omega
theorem Xq (c:Nat):(!(Builtin.Str.occurrences FIG ⟨#[c]⟩ 0 FIG.length 1).isEmpty)=MJ c:=by
 rw [StrLaws.found_one,QT]
 unfold MJ
 rw [Bool.eq_iff_iff]
 simp [List.mem_range'_1]
 omega
structure UT (ms:List Str) (want:List (Str×V)) (fs:List (Str×V)):Prop where
 has:∀p∈want,fs.lookup p.1=some p.2
 no:∀m∈ms,fs.lookup m=none
theorem jG {H:Hp} {d:Addr} {kvs:List (Key×V)} {v:HO} (e:H d=some (.dK kvs)) {b:Addr} {u:HO} (h:H b=some u) (hu:∀ks,u≠.dK ks):upd H d v b=some u:=by
 rw [aM]
 ·exact h
 ·rintro rfl
  rw [e] at h
  exact hu _ (Option.some.inj h).symm
theorem fZ {H:Hp} {d a:Addr} {kvs:List (Key×V)} {v:HO} {xs:List V} (e:H d=some (.dK kvs)) (h:fH K H a xs):fH K (upd H d v) a xs:=by
 rcases h with (h | ⟨o,h⟩) | h
 ·exact .inl (.inl (jG e h (by intro _ z;cases z)))
 ·exact .inl (.inr ⟨o,jG e h (by intro _ z;cases z)⟩)
 ·exact .inr h
theorem fK.chill {H:Hp} {d p:Addr} {kvs:List (Key×V)} {v:HO} {i:Nat} {nm:V} {ns is os:List V} (e:H d=some (.dK kvs)) (h:fK K t H p i nm ns is os):fK K t (upd H d v) p i nm ns is os:=by
 obtain⟨dx,tn,ti,to,h1,h2,h3,h4⟩:=h
 exact⟨dx,tn,ti,to,jG e h1 (by intro _ z;cases z),fZ e h2,fZ e h3,fZ e h4⟩
theorem QD {H:Hp} {d D:Addr} {kvs:List (Key×V)} {o:Obj} {u:HO} (e:H d=some (.dK kvs)) (hD:(upd H d (.frz o (.dK kvs))) D=none):upd (upd (upd H d (.frz o (.dK kvs))) D u) d (.dK kvs)=upd H D u:=by
 have n:D≠d:=by rintro rfl;rw [az] at hD;cases hD
 funext b
 by_cases h:b=d
 ·subst h
  rw [az,aM (Ne.symm n)]
  exact e.symm
 ·rw [aM h]
  unfold upd
  rw [if_neg h]
theorem NT {H:Hp} {d D:Addr} {v:HO} (hD:(upd H d v) D=none):H D=none:=by
 by_cases h:D=d
 ·subst h;rw [az] at hD;cases hD
 ·rw [aM h] at hD;exact hD
theorem JN {H:Hp} {a:Addr} {o:HO} (e:H a=some o):upd H a o=H:=by
 funext b
 unfold upd
 split
 ·rename_i h;rw [h];exact e.symm
 ·rfl
theorem ir {κ:Type} [DecidableEq κ] {kvs:List (κ×V)} {k:κ} (h:k∉kvs.map (·.1)):bY kvs k=none:=by
 induction kvs with
 | nil=>rfl
 | cons p r ih=>
  simp only [List.map_cons,List.mem_cons,not_or] at h
  rw [fX (Ne.symm h.1)]
  exact ih h.2
theorem iR {κ:Type} [DecidableEq κ] {kvs:List (κ×V)} {k:κ} {v:V} (nd:(kvs.map (·.1)).Nodup) (h:(k,v)∈kvs):bY kvs k=some v:=by
 induction kvs with
 | nil=>cases h
 | cons p r ih=>
  simp only [List.map_cons,List.nodup_cons] at nd
  rcases List.mem_cons.mp h with h | h
  ·subst h
   exact gH rfl
  ·have:¬p.1=k:=fun z=>nd.1 (List.mem_map.mpr ⟨_,h,z.symm⟩)
   rw [fX this]
   exact ih nd.2 h
noncomputable def cX (f:PD->List Str) (ps:List PD):List (Key×V):=ps.flatMap fun p=>(f p).map fun l=>((Sum.inr l:Key),V.str p.name)
theorem xK (f:PD->List Str) (ps:List PD):(cX f ps).map (·.1)=(ps.flatMap f).map (fun l=>(Sum.inr l:Key)):=by
 induction ps with
 | nil=>rfl
 | cons p r ih=>
  unfold cX at ih ⊢
  simp only [List.flatMap_cons,List.map_append,ih,List.map_map]
  rfl
theorem gK {l:List Str} (h:l.Nodup):(l.map (fun x=>(Sum.inr x:Key))).Nodup:=by
 induction l with
 | nil=>exact List.nodup_nil
 | cons a r ih=>
  simp only [List.map_cons,List.nodup_cons,List.mem_map] at h ⊢
  refine⟨?_,ih h.2⟩
  rintro⟨b,hb,e⟩
  cases e
  exact h.1 hb
theorem gJ {f:PD->List Str} {ps:List PD} (nd:(ps.flatMap f).Nodup) {p:PD} (hp:p∈ps) {l:Str} (hl:l∈f p):bY (cX f ps) (Sum.inr l)=some (.str p.name):=
 iR (by rw [xK];exact gK nd) (List.mem_flatMap.mpr ⟨p,hp,List.mem_map.mpr ⟨l,hl,rfl⟩⟩)
theorem Dq {f:PD->List Str} {ps:List PD} {l:Str} (h:l∉ps.flatMap f):bY (cX f ps) (Sum.inr l)=none:=ir (by
 rw [xK]
 intro z
 obtain⟨b,hb,e⟩:=List.mem_map.mp z
 cases e
 exact h hb)
theorem QS (f:PD->List Str) (ps:List PD):(cX f ps).length=(ps.flatMap f).length:=by
 have:=congrArg List.length (xK f ps)
 simpa using this
theorem Eg (f:PD->List Str) (ps:List PD) (p:PD):cX f (ps ++ [p])=cX f ps ++ (f p).map fun l=>((Sum.inr l:Key),V.str p.name):=by
 unfold cX
 rw [List.flatMap_append]
 simp
theorem Og {α:Type} {f g:α->Bool}:∀{l:List α},(∀a∈l,g a=true->f a=true)->(∃a∈l,f a=true/\g a=false)->(l.filter g).length <(l.filter f).length
 | [],_,h=>by obtain⟨a,ha,_⟩:=h;cases ha
 | x:: r,h,h2=>by
  have le:∀r:List α,(∀a∈r,g a=true->f a=true)->(r.filter g).length<=(r.filter f).length:=fun r=>by
   induction r with
   | nil=>intro _;exact Nat.le_refl _
   | cons y t ih=>
    intro q
    have:=ih fun a ha=>q a (List.mem_cons_of_mem _ ha)
    have q0:=q y List.mem_cons_self
    rw [List.filter_cons,List.filter_cons]
    cases hg:g y
    ·simp only [Bool.false_eq_true,if_false]
     split
     ·rw [List.length_cons];omega
     ·exact this
    ·rw [q0 hg]
     simp only [if_true,List.length_cons]
     omega
  obtain⟨a,ha,hf,hg⟩:=h2
  have hr:=fun a ha=>h a (List.mem_cons_of_mem x ha)
  rw [List.filter_cons,List.filter_cons]
  rcases List.mem_cons.mp ha with rfl | ha
  ·rw [hf,hg]
   have:=le r hr
   simp
   omega
  ·have ih:=Og hr ⟨a,ha,hf,hg⟩
   have q0:=h x List.mem_cons_self
   cases hx:g x
   ·simp only [Bool.false_eq_true,if_false]
    split
    ·rw [List.length_cons];omega
    ·exact ih
   ·rw [q0 hx]
    simp only [if_true,List.length_cons]
    omega
noncomputable def gZ (jk:List (Key×V)) (x:Str):Bool:=(bY jk (Sum.inr x)).isSome
noncomputable def oK (ps:List PD) (jk:List (Key×V)):Nat:=(ps.filter fun p=>!gZ jk p.name).length
theorem KD (jk:List (Key×V)) (x y:Str) (v:V):gZ (putK jk (Sum.inr x) v) y=(decide (y=x) || gZ jk y):=by
 unfold gZ
 rw [RJ]
 by_cases h:y=x
 ·subst h;simp
 ·have:¬(Sum.inr y:Key)=Sum.inr x:=fun z=>h (Sum.inr.inj z)
  rw [if_neg this]
  simp [h]
theorem K7 {ps:List PD} {jk jk':List (Key×V)} (h:∀x,gZ jk x=true->gZ jk' x=true) {p:PD} (hp:p∈ps) (h1:gZ jk p.name=false) (h2:gZ jk' p.name=true):oK ps jk' <oK ps jk:=by
 refine Og (fun a _ q=>?_) ⟨p,hp,by simp [h1],by simp [h2]⟩
 cases hj:gZ jk a.name
 ·rfl
 ·rw [h _ hj] at q;cases q
theorem Ql {ps:List PD} (pm:(ps.flatMap (·.outs)).Perm (ps.flatMap (·.ins))) {l:Str} (h:l∈ps.flatMap (·.outs)):∃a∈ps,∃b∈ps,l∈a.outs/\l∈b.ins:=by
 obtain⟨a,ha,hl⟩:=List.mem_flatMap.mp h
 obtain⟨b,hb,hl2⟩:=List.mem_flatMap.mp (pm.mem_iff.mp h)
 exact⟨a,ha,b,hb,hl,hl2⟩
theorem Xk {ps:List PD} (no:(ps.flatMap (·.outs)).Nodup) (ni:(ps.flatMap (·.ins)).Nodup) (pm:(ps.flatMap (·.outs)).Perm (ps.flatMap (·.ins))) {jk:List (Key×V)} (hang:∃y,∀q∈ps,∃x∈q.ins ++ q.outs,Drawn.jq ps x y)
  (cl:∀a∈ps,∀b∈ps,∀l,l∈a.outs->l∈b.ins->gZ jk a.name=gZ jk b.name) {p0:PD} (hp0:p0∈ps) (h0:gZ jk p0.name=true):∀q∈ps,gZ jk q.name=true:=by
 obtain⟨y,hy⟩:=hang
 refine Drawn.Mx (J:=fun p=>gZ jk p.name=true) (fun l p q hp hq hlp hlq hJ=>?_) hy hp0 h0
 have same:∀{f:PD->List Str},(ps.flatMap f).Nodup->∀{a b:PD},a∈ps->b∈ps->l∈f a->l∈f b->a.name=b.name:=fun {f} nd {a b} ha hb h1 h2=>by
  obtain⟨i,hi,ei⟩:=List.mem_iff_getElem.mp ha
  obtain⟨j,hj,ej⟩:=List.mem_iff_getElem.mp hb
  have:=Drawn.Qy f nd (i:=i) (j:=j) (p:=a) (q:=b) (l:=l) (by rw [List.getElem?_eq_getElem hi,ei]) (by rw [List.getElem?_eq_getElem hj,ej]) h1 h2
  subst this
  rw [<-ei,<-ej]
 have hl:l∈ps.flatMap (·.outs):=by
  rcases List.mem_append.mp hlp with h | h
  ·exact pm.mem_iff.mpr (List.mem_flatMap.mpr ⟨p,hp,h⟩)
  ·exact List.mem_flatMap.mpr ⟨p,hp,h⟩
 obtain⟨a,ha,b,hb,la,lb⟩:=Ql pm hl
 have e:=cl a ha b hb l la lb
 have np:p.name=a.name∨p.name=b.name:=(List.mem_append.mp hlp).elim (fun h=>.inr (same ni hp hb h lb)) fun h=>.inl (same no hp ha h la)
 have nq:q.name=a.name∨q.name=b.name:=(List.mem_append.mp hlq).elim (fun h=>.inr (same ni hq hb h lb)) fun h=>.inl (same no hq ha h la)
 show gZ jk q.name=true
 change gZ jk p.name=true at hJ
 rcases np with np | np <;> rcases nq with nq | nq <;> rw [np] at hJ <;> rw [nq]
 ·exact hJ
 ·rw [<-e];exact hJ
 ·rw [e];exact hJ
 ·exact hJ
theorem GZ {z:Str} (h:nameB z=true):z.length<=100:=by
 unfold nameB at h
 rw [<-n8]
 split at h
 ·simp_all
 ·rename_i e
  rw [e]
  simp only [Bool.and_eq_true,decide_eq_true_eq] at h
  rw [List.length_cons]
  omega
structure Cd (ls:List aH) (ps:List PD):Prop where
 lok:∀l∈ls,1<=l.room/\l.room<=199/\(l.first.length:Int)<=l.room/\∀v∈l.first,0<=v/\v <1000000000
 pok:∀p∈ps,uK p
 lnm:∀l∈ls,nameB l.name=true
 pnm:∀p∈ps,nameB p.name=true
 pnd:(ps.map (·.name)).Nodup
 whole:G4 (ls.map (·.name)) ps
 l1:1<=ls.length
 l24:ls.length<=24
 p1:1<=ps.length
 p16:ps.length<=16
theorem Ip {c:Int} {n:Nat} (hn:n<=26) {x:Str} (h:x∈(List.range n).map (cT c)):∃k,k <n/\x=cT c k:=by
 obtain⟨k,hk,rfl⟩:=List.mem_map.mp h
 exact⟨k,List.mem_range.mp hk,rfl⟩
theorem Rn.fit {c3 c4:Int} {ls:List aH} {ps:List PD} (h:Rn c3 c4 ls ps):Cd ls ps:=by
 have a:=h.l17
 have b:=h.p16
 refine⟨fun l hl=>?_,h.pok,fun l hl=>?_,fun p hp=>?_,?_,h.whole,h.l1,by omega,h.p1,h.p16⟩
 ·obtain⟨x1,x2,x3,x4⟩:=h.lok l hl
  exact⟨x1,by omega,x3,x4⟩
 ·obtain⟨k,hk,e⟩:=Ip (c:=c3) (n:=ls.length) (by omega) (by rw [<-h.ln];exact List.mem_map.mpr ⟨l,hl,rfl⟩)
  rw [e]
  exact Px _ (by omega)
 ·obtain⟨k,hk,e⟩:=Ip (c:=c4) (n:=ps.length) (by omega) (h.pn.mem_iff.mpr (List.mem_map.mpr ⟨p,hp,rfl⟩))
  rw [e]
  exact Px _ (by omega)
 ·exact h.pn.nodup_iff.mp (Ba _ (by omega))
theorem Rn.lane20 {c3 c4:Int} {ls:List aH} {ps:List PD} (h:Rn c3 c4 ls ps):cT c3 20∉ls.map (·.name):=fun z=>by
 have a:=h.l17
 rw [h.ln] at z
 obtain⟨k,hk,e⟩:=Ip (by omega) z
 have:=KC _ (by omega) (by omega) e
 omega
noncomputable def fG (ls:List aH):List (Key×V):=ls.map fun l=>((Sum.inr l.name:Key),V.int l.room)
noncomputable def bL (FL:List (aH×Addr)):List (Key×V):=FL.map fun q=>((Sum.inr q.1.name:Key),V.ref q.2)
noncomputable def eX (PL:List (PD×Addr)):List (Key×V):=PL.map fun q=>((Sum.inr q.1.name:Key),V.ref q.2)
theorem vz (ls:List aH):(fG ls).map (·.1)=(ls.map (·.name)).map (fun x=>(Sum.inr x:Key)):=by unfold fG;rw [List.map_map,List.map_map];rfl
theorem sI (FL:List (aH×Addr)):(bL FL).map (·.1)=((FL.map (·.1)).map (·.name)).map (fun x=>(Sum.inr x:Key)):=by unfold bL;rw [List.map_map,List.map_map,List.map_map];rfl
theorem Bw (PL:List (PD×Addr)):(eX PL).map (·.1)=((PL.map (·.1)).map (·.name)).map (fun x=>(Sum.inr x:Key)):=by unfold eX;rw [List.map_map,List.map_map,List.map_map];rfl
structure wD (K:PySem.W.Frag) (t:jd) (H:Hp) (n:Addr) (ls:List aH) (ps:List PD) (dx:Addr) (fs:List (Str×V)) (R F Pd G Tk:Addr) (FL:List (aH×Addr)) (PL:List (PD×Addr)):Prop where
 obj:H n=some (.ins t.dN dx fs)
 fl:UT ["lane_names", "part_names", "names_of_kind", "gives", "takes", "need_lane_name", "room_of", "first_of", "giver_of", "taker_of", "part_of", "__init__"] [("rooms",.ref R),("firsts",.ref F),("parts",.ref Pd),("givers",.ref G),("takers",.ref Tk)] fs
 rooms:H R=some (.dK (fG ls))
 firsts:H F=some (.dK (bL FL))
 parts:H Pd=some (.dK (eX PL))
 givers:H G=some (.dK (cX (·.outs) ps))
 takers:H Tk=some (.dK (cX (·.ins) ps))
 fls:FL.map (·.1)=ls
 pls:PL.map (·.1)=ps
 tups:∀q∈FL,fH K H q.2 (q.1.first.map V.int)
 pats:∀q∈PL,fK K t H q.2 q.1.kind (.str q.1.name) (q.1.nums.map V.int) (q.1.ins.map V.str) (q.1.outs.map V.str)
 fit:Cd ls ps
 neRF:R≠F
inductive fY (K:PySem.W.Frag) (t:jd) (H:Hp) (n:Addr) (ls:List aH) (ps:List PD):Prop where
 | mk:∀dx fs R F Pd G Tk FL PL,wD K t H n ls ps dx fs R F Pd G Tk FL PL->fY K t H n ls ps
section
variable {H H':Hp} {n dx R F Pd G Tk:Addr} {ls:List aH} {ps:List PD} {fs:List (Str×V)} {FL:List (aH×Addr)} {PL:List (PD×Addr)}
theorem wD.same (N:wD K t H n ls ps dx fs R F Pd G Tk FL PL) (s:aK H H'):wD K t H' n ls ps dx fs R F Pd G Tk FL PL:=
 ⟨s _ _ N.obj,N.fl,s _ _ N.rooms,s _ _ N.firsts,s _ _ N.parts,s _ _ N.givers,s _ _ N.takers,N.fls,N.pls,fun q hq=>s.seqT (N.tups q hq),fun q hq=>(N.pats q hq).same s,N.fit,N.neRF⟩
theorem fY.same (N:fY K t H n ls ps) (s:aK H H'):fY K t H' n ls ps:=by
 obtain⟨dx,fs,R,F,Pd,G,Tk,FL,PL,N⟩:=N
 exact⟨dx,fs,R,F,Pd,G,Tk,FL,PL,N.same s⟩
theorem wD.s (N:wD K t H n ls ps dx fs R F Pd G Tk FL PL):fY K t H n ls ps:=⟨dx,fs,R,F,Pd,G,Tk,FL,PL,N⟩
theorem wD.room (N:wD K t H n ls ps dx fs R F Pd G Tk FL PL) {l:aH} (hl:l∈ls):bY (fG ls) (Sum.inr l.name)=some (.int l.room):=
 iR (by rw [vz];exact gK N.fit.whole.nod) (List.mem_map.mpr ⟨l,hl,rfl⟩)
theorem wD.firstV (N:wD K t H n ls ps dx fs R F Pd G Tk FL PL) {q:aH×Addr} (hq:q∈FL):bY (bL FL) (Sum.inr q.1.name)=some (.ref q.2):=
 iR (by rw [sI,N.fls];exact gK N.fit.whole.nod) (List.mem_map.mpr ⟨q,hq,rfl⟩)
theorem wD.partV (N:wD K t H n ls ps dx fs R F Pd G Tk FL PL) {q:PD×Addr} (hq:q∈PL):bY (eX PL) (Sum.inr q.1.name)=some (.ref q.2):=
 iR (by rw [Bw,N.pls];exact gK N.fit.pnd) (List.mem_map.mpr ⟨q,hq,rfl⟩)
theorem wD.ono (N:wD K t H n ls ps dx fs R F Pd G Tk FL PL):(ps.flatMap (·.outs)).Nodup:=N.fit.whole.outs.nodup_iff.mpr N.fit.whole.nod
theorem wD.ini (N:wD K t H n ls ps dx fs R F Pd G Tk FL PL):(ps.flatMap (·.ins)).Nodup:=N.fit.whole.ins.nodup_iff.mpr N.fit.whole.nod
end
theorem Dz {α:Type} {f:α->Str} {xs:List α} {x:Str}:inV (.str x) (xs.map fun p=>V.str (f p))=decide (x∈xs.map f):=by
 rw [Bool.eq_iff_iff]
 unfold inV
 rw [List.any_eq_true,decide_eq_true_eq]
 constructor
 ·rintro⟨v,hv,e⟩
  obtain⟨p,hp,rfl⟩:=List.mem_map.mp hv
  exact List.mem_map.mpr ⟨p,hp,by simpa [Mf] using e⟩
 ·intro h
  obtain⟨p,hp,rfl⟩:=List.mem_map.mp h
  exact⟨.str (f p),List.mem_map.mpr ⟨p,hp,rfl⟩,by simp [Mf]⟩
noncomputable def dX (ps:List PD) (x:Str):List V:=(ps.filter fun p=>decide (fc p.kind=x)).map fun p=>V.str p.name
theorem QK (ps:List PD) (x:Str) (p:PD):dX (ps ++ [p]) x=if fc p.kind=x then dX ps x ++ [V.str p.name] else dX ps x:=by
 unfold dX
 rw [List.filter_append,List.map_append]
 by_cases h:fc p.kind=x
 ·rw [if_pos h];simp [h]
 ·rw [if_neg h];simp [h]
theorem zE (ps:List PD) (x:Str):(dX ps x).length<=ps.length:=by
 unfold dX
 rw [lM]
 exact List.length_filter_le _ _
noncomputable def aau (p:PD):Bool:=decide (fc p.kind= "choose") || decide (fc p.kind= "split")
noncomputable def oddN (ps:List PD):V:=match ps.find? aau with
 | some p=>.str p.name
 | none=>.non
inductive Lk (K:PySem.W.Frag) (H:Hp) (v:V) (l:aH):Prop where
 | mk:∀q f,v=.ref q->H q=some (.tup [.str l.name,.int l.room,.ref f])->fH K H f (l.first.map V.int)->Lk K H v l
inductive Sy (K:PySem.W.Frag) (H:Hp) (v:V) (p:PD):Prop where
 | mk:∀q a1 a2 a3,v=.ref q->H q=some (.tup [.str (fc p.kind),.str p.name,.ref a1,.ref a2,.ref a3])->fH K H a1 (p.nums.map V.int)->fH K H a2 (p.ins.map V.str)->fH K H a3 (p.outs.map V.str)->Sy K H v p
theorem Lk.same {H H':Hp} {v:V} {l:aH} (h:Lk K H v l) (s:aK H H'):Lk K H' v l:=by
 obtain⟨q,f,e,h1,h2⟩:=h
 exact⟨q,f,e,s _ _ h1,s.seqT h2⟩
theorem Sy.same {H H':Hp} {v:V} {p:PD} (h:Sy K H v p) (s:aK H H'):Sy K H' v p:=by
 obtain⟨q,a1,a2,a3,e,h1,h2,h3,h4⟩:=h
 exact⟨q,a1,a2,a3,e,s _ _ h1,s.seqT h2,s.seqT h3,s.seqT h4⟩
structure MN (K:PySem.W.Frag) (H:Hp) (T a b:Addr) (ls:List aH) (ps:List PD):Prop where
 tup:H T=some (.tup [.ref a,.ref b])
 lanes:∃xs,H a=some (.lst xs)/\jn (Lk K H) xs ls
 parts:∃xs,H b=some (.lst xs)/\jn (Sy K H) xs ps
theorem MN.same {H H':Hp} {T a b:Addr} {ls:List aH} {ps:List PD} (h:MN K H T a b ls ps) (s:aK H H'):MN K H' T a b ls ps:=by
 obtain⟨h1,⟨xs,e1,a1⟩,⟨ys,e2,a2⟩⟩:=h
 exact⟨s _ _ h1,⟨xs,s _ _ e1,a1.imp fun _ _ h=>h.same s⟩,⟨ys,s _ _ e2,a2.imp fun _ _ h=>h.same s⟩⟩
structure Tr (H:Hp) (f:Addr) (L:List (Addr×HO)) (Hk:Hp):Prop where
 but:lH f H Hk
 all:∀p∈L,Hk p.1=some p.2
 fre:∀p∈L,p.1=f∨H p.1=none
 nod:(L.map Prod.fst).Nodup
 obj:∃o,(f,o)∈L
theorem Tr.free {H Hk:Hp} {f x:Addr} {L:List (Addr×HO)} (T:Tr H f L Hk) (nx:Hk x=none):H x=none:=by
 cases e:H x with
 | none=>rfl
 | some o=>
  by_cases h:x=f
  ·obtain⟨u,hu⟩:=T.obj
   have:=T.all _ hu
   rw [h] at nx
   rw [nx] at this
   cases this
  ·rw [T.but x o h e] at nx
   cases nx
theorem Tr.new {H Hk:Hp} {f x:Addr} {L:List (Addr×HO)} {o:HO} (T:Tr H f L Hk) (nx:Hk x=none):Tr H f (L ++ [(x,o)]) (upd Hk x o):=by
 have hne:∀p∈L,p.1≠x:=fun p hp z=>by have:=T.all p hp;rw [z,nx] at this;cases this
 have hx:=T.free nx
 refine⟨fun b u n e=>by rw [aM (aD e hx)];exact T.but b u n e,fun p hp=>?_,fun p hp=>?_,?_,?_⟩
 ·rcases List.mem_append.mp hp with h | h
  ·rw [aM (hne p h)];exact T.all p h
  ·rw [List.mem_singleton] at h;subst h;exact az
 ·rcases List.mem_append.mp hp with h | h
  ·exact T.fre p h
  ·rw [List.mem_singleton] at h;subst h;exact .inr hx
 ·rw [List.map_append,List.nodup_append]
  refine⟨T.nod,by simp,fun a ha b hb=>?_⟩
  obtain⟨p,hp,rfl⟩:=List.mem_map.mp ha
  simp at hb
  subst hb
  exact hne p hp
 ·obtain⟨u,hu⟩:=T.obj
  exact⟨u,List.mem_append.mpr (.inl hu)⟩
theorem Tr.same {H Hk Hk':Hp} {f:Addr} {L:List (Addr×HO)} (T:Tr H f L Hk) (s:aK Hk Hk'):Tr H f L Hk':=
 ⟨fun b u n e=>s _ _ (T.but b u n e),fun p hp=>s _ _ (T.all p hp),T.fre,T.nod,T.obj⟩
theorem Tr.put {H Hk:Hp} {f x:Addr} {o o':HO} {L1 L2:List (Addr×HO)} (T:Tr H f (L1 ++ (x,o):: L2) Hk):Tr H f (L1 ++ (x,o'):: L2) (upd Hk x o'):=by
 have hx:x=f∨H x=none:=T.fre (x,o) (by simp)
 have nd:=T.nod
 rw [List.map_append,List.map_cons,List.nodup_append] at nd
 obtain⟨n1,n2,n3⟩:=nd
 rw [List.nodup_cons] at n2
 refine⟨fun b u n e=>?_,fun p hp=>?_,fun p hp=>?_,?_,?_⟩
 ·have:b≠x:=by
   rcases hx with rfl | hx
   ·exact n
   ·exact aD e hx
  rw [aM this];exact T.but b u n e
 ·rcases List.mem_append.mp hp with h | h
  ·have:p.1≠x:=n3 p.1 (List.mem_map.mpr ⟨p,h,rfl⟩) x (by simp)
   rw [aM this];exact T.all p (by simp [h])
  ·rcases List.mem_cons.mp h with rfl | h
   ·exact az
   ·have:p.1≠x:=fun z=>n2.1 (by rw [<-z];exact List.mem_map.mpr ⟨p,h,rfl⟩)
    rw [aM this];exact T.all p (by simp [h])
 ·rcases List.mem_append.mp hp with h | h
  ·exact T.fre p (by simp [h])
  ·rcases List.mem_cons.mp h with rfl | h
   ·exact hx
   ·exact T.fre p (by simp [h])
 ·have:=T.nod
  rw [List.map_append,List.map_cons] at this ⊢
  exact this
 ·obtain⟨u,hu⟩:=T.obj
  rcases List.mem_append.mp hu with h | h
  ·exact⟨u,by simp [h]⟩
  ·rcases List.mem_cons.mp h with h | h
   ·cases h;exact⟨o',by simp⟩
   ·exact⟨u,by simp [h]⟩
theorem Tr.start {H:Hp} {f:Addr} {o:HO} (e:H f=some o):Tr H f [(f,o)] H:=⟨lH.refl _,fun p hp=>by rw [List.mem_singleton] at hp;subst hp;exact e,fun p hp=>by rw [List.mem_singleton] at hp;subst hp;exact .inl rfl,by simp,o,by simp⟩
inductive Wu (K:PySem.W.Frag) (H:Hp) (v:V) (l:aH):Prop where
 | mk:∀q f,v=.ref q->H q=some (.tup [.str l.name,.int l.room,.ref f])->yj K H f (l.first.map V.int)->Wu K H v l
inductive Zy (K:PySem.W.Frag) (H:Hp) (v:V) (p:PD):Prop where
 | mk:∀q a1 a2 a3,v=.ref q->H q=some (.tup [.str (fc p.kind),.str p.name,.ref a1,.ref a2,.ref a3])->yj K H a1 (p.nums.map V.int)->yj K H a2 (p.ins.map V.str)->yj K H a3 (p.outs.map V.str)->Zy K H v p
structure Hand (K:PySem.W.Frag) (H:Hp) (Ll Lp:Addr) (ls:List aH) (ps:List PD):Prop where
 ll:∃xs,bH K H Ll xs/\jn (Wu K H) xs ls
 lp:∃xs,bH K H Lp xs/\jn (Zy K H) xs ps
theorem lV {α:Type} {f:α->Str} {xs:List α} (nd:(xs.map f).Nodup) {j:Nat} {x:α} (h:xs[j]?=some x):f x∉(xs.take j).map f:=fun hm=>by
 have hj:=(List.getElem?_eq_some_iff.mp h).1
 have e:xs[j]=x:=(List.getElem?_eq_some_iff.mp h).2
 rw [List.map_take] at hm
 obtain⟨i,hi,ei⟩:=List.mem_iff_getElem.mp hm
 rw [List.length_take,lM] at hi
 rw [List.getElem_take] at ei
 have e2:(xs.map f)[j]'(by rw [lM];exact hj)=f x:=by rw [List.getElem_map,e]
 have:=(List.getElem_inj nd).mp (ei.trans e2.symm)
 omega
theorem PP {f:PD->List Str} {ps:List PD} (nd:(ps.flatMap f).Nodup) {j:Nat} {p:PD} (h:ps[j]?=some p):(f p).Nodup/\∀z∈f p,z∉(ps.take j).flatMap f:=by
 have hj:=(List.getElem?_eq_some_iff.mp h).1
 have e:ps[j]=p:=(List.getElem?_eq_some_iff.mp h).2
 have e2:ps=ps.take j ++ p:: ps.drop (j+1):=by rw [<-e,<-List.drop_eq_getElem_cons hj,List.take_append_drop]
 rw [e2,List.flatMap_append,List.flatMap_cons,List.nodup_append] at nd
 obtain⟨n1,n2,n3⟩:=nd
 rw [List.nodup_append] at n2
 exact⟨n2.1,fun z hz hm=>n3 z hm z (List.mem_append.mpr (.inl hz)) rfl⟩
theorem Kz (xs:List V) (g:Nat):xM xs (some (g:Int)) none=xs.drop g:=by
 unfold xM
 rw [HT.yE,HT.vQ,<-List.length_drop,List.take_length]
 rcases Nat.le_total g xs.length with h | h
 ·rw [Nat.min_eq_left h]
 ·rw [Nat.min_eq_right h,List.drop_eq_nil_of_le h,List.drop_eq_nil_of_le (Nat.le_refl _)]
structure oN (K:PySem.W.Frag) (t:jd) (H:Hp) (f n E G Kp D Rw:Addr):Prop where
 ex:∃dx fs,H f=some (.ins t.b7 dx fs)/\UT ["holds", "held_now", "gone_by", "row_left", "head", "heads", "lacking", "row_ended", "deed", "do"] [("net",.ref n),("ever",.ref E),("gone",.ref G),("kept",.ref Kp),("done",.ref D),("rows",.ref Rw)] fs
theorem oN.same {H H':Hp} {f n E G Kp D Rw:Addr} (h:oN K t H f n E G Kp D Rw) (s:aK H H'):oN K t H' f n E G Kp D Rw:=by
 obtain⟨dx,fs,h1,h2⟩:=h
 exact⟨dx,fs,s _ _ h1,h2⟩
noncomputable def dU (i:Nat) (xs:List Str) (hs:List V):V:=match (places i hs).find? (xG hs) with
 | some q=>((xs[q]?).map V.str).getD .non
 | none=>.non
theorem lQ {H:Hp}:∀{rs:List Addr} {vss:List (List V)} {j:Nat} {r:Addr},dz H rs vss->rs[j]?=some r->∃vs,vss[j]?=some vs/\H r=some (.tup vs)
 | _,_,_,_,.nil,e=>by simp at e
 | _,_,0,_,.cons h _,e=>by simp at e;subst e;exact⟨_,rfl,h⟩
 | _,_,j+1,_,.cons _ t,e=>by
  obtain⟨vs,h1,h2⟩:=lQ (j:=j) t (by simpa using e)
  exact⟨vs,by simpa using h1,h2⟩
theorem places_len {i:Nat} {hs:List V} (h:yC i hs):(places i hs).length<=3:=by
 have h3:=Hm i
 have h1:=h.1
 unfold places
 by_cases hi:i=9
 ·rw [if_pos hi]
  split <;> simp
 ·rw [if_neg hi,List.length_range]
  omega
theorem Tr.got {H Hk Hk':Hp} {f x:Addr} {L:List (Addr×HO)} {o:HO} (T:Tr H f L Hk) (s:aK Hk Hk') (nx:Hk x=none) (ex:Hk' x=some o):Tr H f (L ++ [(x,o)]) Hk':=by
 have T':=T.same s
 have hx:=T.free nx
 refine⟨T'.but,fun p hp=>?_,fun p hp=>?_,?_,?_⟩
 ·rcases List.mem_append.mp hp with h | h
  ·exact T'.all p h
  ·rw [List.mem_singleton] at h;subst h;exact ex
 ·rcases List.mem_append.mp hp with h | h
  ·exact T.fre p h
  ·rw [List.mem_singleton] at h;subst h;exact .inr hx
 ·rw [List.map_append,List.nodup_append]
  refine⟨T.nod,by simp,fun a ha b hb z=>?_⟩
  obtain⟨p,hp,rfl⟩:=List.mem_map.mp ha
  simp at hb
  have:=T.all p hp
  rw [z,hb,nx] at this
  cases this
 ·obtain⟨u,hu⟩:=T.obj
  exact⟨u,List.mem_append.mpr (.inl hu)⟩
theorem GQ {α:Type} {a b c d e f g x:α} {M:List α} (h:x∈M):x∈a:: b:: c:: d:: e:: f:: g:: M:=by simp [h]
theorem Tr.perm {H Hk:Hp} {f:Addr} {L L':List (Addr×HO)} (T:Tr H f L Hk) (h:L.Perm L'):Tr H f L' Hk:=
 ⟨T.but,fun p hp=>T.all p (h.mem_iff.mpr hp),fun p hp=>T.fre p (h.mem_iff.mpr hp),(h.map _).nodup_iff.mp T.nod,by obtain⟨o,ho⟩:=T.obj;exact⟨o,h.mem_iff.mp ho⟩⟩
theorem Tr.sub {H Hk:Hp} {f:Addr} {L L':List (Addr×HO)} (T:Tr H f L Hk) (h:L'.Sublist L) (hf:∃o,(f,o)∈L'):Tr H f L' Hk:=
 ⟨T.but,fun p hp=>T.all p (h.subset hp),fun p hp=>T.fre p (h.subset hp),T.nod.sublist (h.map _),hf⟩
noncomputable def jZ (EL:List (aH×Addr)):List (Addr×HO):=EL.map fun q=>(q.2,HO.lst (q.1.first.map V.int))
noncomputable def dj (g:Str->Nat) (ls:List aH):List (Key×V):=ls.map fun l=>((Sum.inr l.name:Key),V.int (g l.name:Nat))
noncomputable def b8 (k:Str->Int) (ps:List PD):List (Key×V):=ps.map fun p=>((Sum.inr p.name:Key),V.int (k p.name))
theorem Et (g:Str->Nat) (ls:List aH):(dj g ls).map (·.1)=(ls.map (·.name)).map (fun x=>(Sum.inr x:Key)):=by unfold dj;rw [List.map_map,List.map_map];rfl
theorem Gb (k:Str->Int) (ps:List PD):(b8 k ps).map (·.1)=(ps.map (·.name)).map (fun x=>(Sum.inr x:Key)):=by unfold b8;rw [List.map_map,List.map_map];rfl
noncomputable def gq (ps:List PD) (x:Str):Int:=((ps.find? fun p=>decide (p.name=x)).map fun p=>if p.kind=5 then p.nums.headD 0 else 0).getD 0
noncomputable def Jp (p:PD):Int:=if p.kind=5 then p.nums.headD 0 else 0
theorem find_name {α:Type} {f:α->Str}:∀{ls:List α} (_:(ls.map f).Nodup) {l:α} (_:l∈ls),ls.find? (fun x=>decide (f x=f l))=some l
 | a:: r,nd,l,hl=>by
  rw [List.map_cons,List.nodup_cons] at nd
  rcases List.mem_cons.mp hl with rfl | h
  ·rw [List.find?_cons_of_pos (by simp)]
  ·have:¬f a=f l:=fun z=>nd.1 (by rw [z];exact List.mem_map.mpr ⟨l,h,rfl⟩)
   rw [List.find?_cons_of_neg (by simp [this])]
   exact find_name nd.2 h
theorem Cd.inL {ls:List aH} {ps:List PD} (F:Cd ls ps) {p:PD} (hp:p∈ps) {x:Str} (hx:x∈p.ins ++ p.outs):∃l∈ls,l.name=x:=by
 rcases List.mem_append.mp hx with h | h
 ·exact List.mem_map.mp (F.whole.ins.mem_iff.mp (List.mem_flatMap.mpr ⟨p,hp,h⟩))
 ·exact List.mem_map.mp (F.whole.outs.mem_iff.mp (List.mem_flatMap.mpr ⟨p,hp,h⟩))
theorem M4 {α β:Type} {f:α->β}:∀{l:List α},(l.map f).Nodup->∀{a b:α},a∈l->b∈l->f a=f b->a=b
 | x:: r,nd,a,b,ha,hb,e=>by
  rw [List.map_cons,List.nodup_cons] at nd
  rcases List.mem_cons.mp ha with h1 | h1
  ·rcases List.mem_cons.mp hb with h2 | h2
   ·rw [h1,h2]
   ·exact absurd (List.mem_map.mpr ⟨b,h2,by rw [<-e,h1]⟩) nd.1
  ·rcases List.mem_cons.mp hb with h2 | h2
   ·exact absurd (List.mem_map.mpr ⟨a,h1,by rw [e,h2]⟩) nd.1
   ·exact M4 nd.2 h1 h2 e
noncomputable def Xc:V->Int
 | .int n=>n
 | _=>0
structure FS where
 ev:Str->List Int
 g:Str->Nat
 k:Str->Int
 d:Str->Nat
 r:Str->List Int
structure mJ where
 (f n E G Kp D Rw:Addr)
 (ea ra:Str->Addr)
noncomputable def jF (ps:List PD):List PD:=ps.filter fun p=>decide (p.kind=0)
noncomputable def Ux (ea:Str->Addr) (ls:List aH):List (Key×V):=ls.map fun l=>((Sum.inr l.name:Key),V.ref (ea l.name))
noncomputable def El (ra:Str->Addr) (ps:List PD):List (Key×V):=(jF ps).map fun p=>((Sum.inr p.name:Key),V.ref (ra p.name))
noncomputable def mJ.cells (A:mJ) (ls:List aH) (ps:List PD):List Addr:=A.E:: A.G:: A.Kp:: A.D:: A.Rw:: (ls.map (fun l=>A.ea l.name) ++ (jF ps).map (fun p=>A.ra p.name))
structure dI (K:PySem.W.Frag) (t:jd) (H:Hp) (A:mJ) (ls:List aH) (ps:List PD) (S:FS):Prop where
 at':oN K t H A.f A.n A.E A.G A.Kp A.D A.Rw
 ever:H A.E=some (.dK (Ux A.ea ls))
 lists:∀l∈ls,H (A.ea l.name)=some (.lst ((S.ev l.name).map V.int))
 gone:H A.G=some (.dK (dj S.g ls))
 kept:H A.Kp=some (.dK (b8 S.k ps))
 done:H A.D=some (.dK (b8 (fun x=>(S.d x:Int)) ps))
 rows:H A.Rw=some (.dK (El A.ra ps))
 rlst:∀p∈ps,p.kind=0->H (A.ra p.name)=some (.lst ((S.r p.name).map V.int))
 nod:(A.cells ls ps).Nodup
theorem dI.same {H H':Hp} {A:mJ} {ls:List aH} {ps:List PD} {S:FS} (h:dI K t H A ls ps S) (s:aK H H'):dI K t H' A ls ps S:=
 ⟨h.at'.same s,s _ _ h.ever,fun l hl=>s _ _ (h.lists l hl),s _ _ h.gone,s _ _ h.kept,s _ _ h.done,s _ _ h.rows,fun p hp h0=>s _ _ (h.rlst p hp h0),h.nod⟩
structure DR (b:Nat) (ls:List aH) (ps:List PD) (S:FS):Prop where
 vb:∀l∈ls,∀v∈S.ev l.name,0<=v/\v <1000000000
 rb:∀p∈ps,p.kind=0->∀v∈S.r p.name,0<=v/\v <1000000000
 dl:∀p∈ps,p.kind=0->S.d p.name<=(S.r p.name).length
 len:∀l∈ls,(S.ev l.name).length<=b
 rl:∀p∈ps,p.kind=0->(S.r p.name).length<=300
theorem Ss (ea:Str->Addr) (ls:List aH):(Ux ea ls).map (·.1)=(ls.map (·.name)).map (fun x=>(Sum.inr x:Key)):=by unfold Ux;rw [List.map_map,List.map_map];rfl
theorem yQ {ea:Str->Addr} {ls:List aH} (nd:(ls.map (·.name)).Nodup) {l:aH} (hl:l∈ls):bY (Ux ea ls) (Sum.inr l.name)=some (.ref (ea l.name)):=
 iR (by rw [Ss];exact gK nd) (List.mem_map.mpr ⟨l,hl,rfl⟩)
theorem rR {g:Str->Nat} {ls:List aH} (nd:(ls.map (·.name)).Nodup) {l:aH} (hl:l∈ls):bY (dj g ls) (Sum.inr l.name)=some (.int (g l.name:Nat)):=
 iR (by rw [Et];exact gK nd) (List.mem_map.mpr ⟨l,hl,rfl⟩)
theorem rH {k:Str->Int} {ps:List PD} (nd:(ps.map (·.name)).Nodup) {p:PD} (hp:p∈ps):bY (b8 k ps) (Sum.inr p.name)=some (.int (k p.name)):=
 iR (by rw [Gb];exact gK nd) (List.mem_map.mpr ⟨p,hp,rfl⟩)
theorem GD (ra:Str->Addr) (ps:List PD):(El ra ps).map (·.1)=((jF ps).map (·.name)).map (fun x=>(Sum.inr x:Key)):=by unfold El;rw [List.map_map,List.map_map];rfl
theorem JR {ps:List PD} (nd:(ps.map (·.name)).Nodup):((jF ps).map (·.name)).Nodup:=nd.sublist (List.filter_sublist.map _)
theorem oX {ra:Str->Addr} {ps:List PD} (nd:(ps.map (·.name)).Nodup) {p:PD} (hp:p∈ps) (h0:p.kind=0):bY (El ra ps) (Sum.inr p.name)=some (.ref (ra p.name)):=
 iR (by rw [GD];exact gK (JR nd)) (List.mem_map.mpr ⟨p,List.mem_filter.mpr ⟨hp,by simp [h0]⟩,rfl⟩)
theorem J3 {ra:Str->Addr} {ps:List PD} (nd:(ps.map (·.name)).Nodup) {p:PD} (hp:p∈ps) (h0:p.kind≠0):bY (El ra ps) (Sum.inr p.name)=none:=by
 refine ir ?_
 rw [GD]
 intro z
 obtain⟨b,hb,e⟩:=List.mem_map.mp z
 cases e
 obtain⟨p',hp',en⟩:=List.mem_map.mp hb
 have hf:=List.mem_filter.mp hp'
 have a1:=find_name nd hf.1
 have a2:=find_name nd hp
 rw [en] at a1
 rw [a1] at a2
 cases a2
 exact h0 (by simpa using hf.2)
noncomputable def qz (S:FS) (x:Str):V:=(((S.ev x)[S.g x]?).map V.int).getD .non
noncomputable def bz (S:FS) (p:PD):List V:=p.ins.map (qz S)
structure mF where
 tk:List Str
 gv:List (Str×Int)
 kv:Int
noncomputable def strAt (xs:List Str) (q:Nat):Str:=(xs[q]?).getD Str.empty
noncomputable def CJ (S:FS) (p:PD):List Int:=if p.kind=0 then((S.r p.name)[S.d p.name]?).toList else(places p.kind (bz S p)).map fun q=>Xc (((bz S p)[q]?).getD .non)
noncomputable def ue (S:FS) (p:PD):Bool:=decide (p.kind=0) && decide (S.d p.name=(S.r p.name).length)
noncomputable def jw (S:FS) (p:PD):Option mF:=if dU p.kind p.ins (bz S p)≠.non then none else if ue S p=true then none else
 some ⟨(places p.kind (bz S p)).map (strAt p.ins),(cY p.kind p.nums (CJ S p) (S.k p.name)).map fun pv=>(strAt p.outs pv.1.toNat,pv.2),gf p.kind (CJ S p) (S.k p.name)⟩
inductive mV (M:List Addr) (H:Hp) (U:Addr) (dd:mF):Prop where
 | mk:∀La Lg rs,H U=some (.tup [.ref La,.ref Lg,.int dd.kv])->H La=some (.lst (dd.tk.map V.str))->H Lg=some (.lst (rs.map V.ref))->(dz H rs (dd.gv.map fun q=>[.str q.1,.int q.2]))->La∉M->Lg∉M->mV M H U dd
theorem mV.same {M:List Addr} {H H':Hp} {U:Addr} {dd:mF} (h:mV M H U dd) (s:aK H H'):mV M H' U dd:=by
 obtain⟨La,Lg,rs,a,b,c,d,e,f⟩:=h
 exact⟨La,Lg,rs,s _ _ a,s _ _ b,s _ _ c,dz.same s d,e,f⟩
theorem uU (S:FS) (p:PD) (h:uK p):yC p.kind (bz S p):=by
 refine⟨by unfold bz;rw [lM];exact h.2.2.1,fun v hv=>?_⟩
 obtain⟨x,_,rfl⟩:=List.mem_map.mp hv
 unfold qz
 cases (S.ev x)[S.g x]? with
 | none=>exact .inl rfl
 | some n=>exact .inr ⟨n,rfl⟩
theorem dI.cell {H:Hp} {A:mJ} {ls:List aH} {ps:List PD} {S:FS} (h:dI K t H A ls ps S) {a:Addr} (ha:H a=none):a∉A.cells ls ps:=by
 intro z
 have no:∀{b:Addr} {u:HO},H b=some u->a=b->False:=fun e q=>by rw [<-q,ha] at e;cases e
 unfold mJ.cells at z
 simp only [List.mem_cons,List.mem_append,List.mem_map] at z
 rcases z with z | z | z | z | z | ⟨l,hl,z⟩ | ⟨p,hp,z⟩
 ·exact no h.ever z
 ·exact no h.gone z
 ·exact no h.kept z
 ·exact no h.done z
 ·exact no h.rows z
 ·exact no (h.lists l hl) z.symm
 ·have hf:=List.mem_filter.mp hp
  exact no (h.rlst p hf.1 (by simpa using hf.2)) z.symm
noncomputable def lC (t:jd) (H:Hp) (r n f:Addr) (k:Nat):Prop:=∃dx fs,(H r=some (.ins t.pL dx fs)/\fs.length<=k+3)/\UT ["step", "need_doors", "next_deed", "full_lane", "can_work", "works", "lane_now", "turn", "rows_left"] [("net",.ref n),("flow",.ref f),("turns",.int (k:Nat))] fs
theorem lC.same {H H':Hp} {r n f:Addr} {k:Nat} (h:lC t H r n f k) (s:aK H H'):lC t H' r n f k:=by
 obtain⟨dx,fs,h1,h2⟩:=h
 exact⟨dx,fs,⟨s _ _ h1.1,h1.2⟩,h2⟩
theorem Dy {f:PD->List Str}:∀{ps:List PD},(ps.flatMap f).Nodup->∀{p q:PD},p∈ps->q∈ps->∀{x:Str},x∈f p->x∈f q->p=q
 | a:: r,nd,p,q,hp,hq,x,h1,h2=>by
  rw [List.flatMap_cons,List.nodup_append] at nd
  rcases List.mem_cons.mp hp with e1 | e1
  ·rcases List.mem_cons.mp hq with e2 | e2
   ·rw [e1,e2]
   ·rw [e1] at h1
    exact absurd rfl (nd.2.2 x h1 x (List.mem_flatMap.mpr ⟨q,e2,h2⟩))
  ·rcases List.mem_cons.mp hq with e2 | e2
   ·rw [e2] at h2
    exact absurd rfl (nd.2.2 x h2 x (List.mem_flatMap.mpr ⟨p,e1,h1⟩))
   ·exact Dy nd.2.1 e1 e2 h1 h2
noncomputable def zm:Option Str->V
 | some y=>.str y
 | none=>.non
inductive Wk (f:Str->Option (Option Str)) (x:Str):List Str->Option Str->Prop
 | start:Wk f x [] (some x)
 | step {seen:List Str} {a:Str} {b:Option Str}:Wk f x seen (some a)->f a=some b->a∉seen->Wk f x (seen ++ [a]) b
noncomputable def Bg (f:Str->Option (Option Str)) (s:List Str×Option Str):List Str×Option Str:=match s.2 with
 | none=>s
 | some a=>match f a with
  | none=>s
  | some b=>if a∈s.1 then s else(s.1 ++ [a],b)
noncomputable def Ec (f:Str->Option (Option Str)):Nat->List Str×Option Str->List Str×Option Str
 | 0,s=>s
 | n+1,s=>Ec f n (Bg f s)
theorem ww (f:Str->Option (Option Str)):∀(n m:Nat) (s:List Str×Option Str),Ec f (n+m) s=Ec f m (Ec f n s)
 | 0,m,s=>by rw [Nat.zero_add];rfl
 | n+1,m,s=>by rw [show n+1+m=(n+m)+1 by omega];exact ww f n m (Bg f s)
theorem zM {f:Str->Option (Option Str)} {s:List Str×Option Str} (h:Bg f s=s):∀n,Ec f n s=s
 | 0=>rfl
 | n+1=>by show Ec f n (Bg f s)=s;rw [h];exact zM h n
theorem Wk.iter {f:Str->Option (Option Str)} {x:Str} {seen:List Str} {a:Option Str} (h:Wk f x seen a):∃n,Ec f n ([],some x)=(seen,a):=by
 induction h with
 | start=>exact⟨0,rfl⟩
 | @step seen a b _ e hn ih=>
  obtain⟨n,ih⟩:=ih
  refine⟨n+1,?_⟩
  rw [ww,ih]
  show Bg f (seen,some a)=_
  unfold Bg
  dsimp only
  rw [e]
  exact if_neg hn
noncomputable def StopW (f:Str->Option (Option Str)) (seen:List Str) (a:Option Str):Prop:=∀y,a=some y->f y=none∨y∈seen
theorem StopW.fix {f:Str->Option (Option Str)} {seen:List Str} {a:Option Str} (h:StopW f seen a):Bg f (seen,a)=(seen,a):=by
 unfold Bg
 cases a with
 | none=>rfl
 | some y=>
  dsimp only
  cases e:f y with
  | none=>rfl
  | some b=>exact if_pos ((h y rfl).resolve_left (by rw [e];intro z;cases z))
theorem Wk.one {f:Str->Option (Option Str)} {x:Str} {s1 s2:List Str} {a1 a2:Option Str} (h1:Wk f x s1 a1) (e1:StopW f s1 a1) (h2:Wk f x s2 a2) (e2:StopW f s2 a2):s1=s2/\a1=a2:=by
 obtain⟨n,i1⟩:=h1.iter
 obtain⟨m,i2⟩:=h2.iter
 have:(s1,a1)=(s2,a2):=by
  rcases Nat.le_total n m with h | h
  ·obtain⟨k,rfl⟩:=Nat.le.dest h
   rw [ww,i1,zM e1.fix] at i2
   exact i2
  ·obtain⟨k,rfl⟩:=Nat.le.dest h
   rw [ww,i2,zM e2.fix] at i1
   exact i1.symm
 exact⟨congrArg Prod.fst this,congrArg Prod.snd this⟩
theorem Wk.nd {f:Str->Option (Option Str)} {x:Str} {s:List Str} {a:Option Str} (h:Wk f x s a):s.Nodup/\∀y∈s,(f y).isSome=true:=by
 induction h with
 | start=>simp
 | @step seen a b _ e hn ih=>
  refine⟨?_,fun y hy=>?_⟩
  ·rw [List.nodup_append]
   exact⟨ih.1,by simp,fun y hy z hz q=>hn (by rw [List.mem_singleton] at hz;rw [<-hz,<-q];exact hy)⟩
  ·rcases List.mem_append.mp hy with h | h
   ·exact ih.2 y h
   ·rw [List.mem_singleton.mp h,e];rfl
noncomputable def DY (s:List Str):Option Str->List Str
 | some a=>if a∈s then s.drop (s.idxOf a) else []
 | none=>[]
inductive lN (f:Str->Option (Option Str)) (x:Str) (r:List Str):Prop where
 | mk:∀s a,Wk f x s a->StopW f s a->r=DY s a->lN f x r
theorem lN.one {f:Str->Option (Option Str)} {x:Str} {r r':List Str} (h:lN f x r) (h':lN f x r'):r=r':=by
 obtain⟨s,a,w,e,rfl⟩:=h
 obtain⟨s',a',w',e',rfl⟩:=h'
 obtain⟨rfl,rfl⟩:=w.one e w' e'
 rfl
theorem Uk {s:List Str} {a:Option Str} (h:s.Nodup):(DY s a).Nodup/\∀y∈DY s a,y∈s:=by
 unfold DY
 split
 ·split
  ·exact⟨h.sublist (List.drop_sublist _ _),fun y hy=>List.mem_of_mem_drop hy⟩
  ·simp
 ·simp
theorem lN.nd {f:Str->Option (Option Str)} {x:Str} {r:List Str} (h:lN f x r):r.Nodup/\∀y∈r,(f y).isSome=true:=by
 obtain⟨s,a,w,e,rfl⟩:=h
 obtain⟨n1,n2⟩:=w.nd
 obtain⟨m1,m2⟩:=Uk (a:=a) n1
 exact⟨m1,fun y hy=>n2 y (m2 y hy)⟩
noncomputable def oH (ps:List PD) (w:Str×Str×Str):Option Str:=if w.2.2= "value" then(ps.find? fun p=>decide (w.2.1∈p.outs)).map (·.name) else if w.2.2= "room" then(ps.find? fun p=>decide (w.2.1∈p.ins)).map (·.name) else none
noncomputable def Cp (ps:List PD) (wts:List (Str×Str×Str)) (x:Str):Option (Option Str):=(wts.find? fun w=>decide (w.1=x)).map (oH ps)
noncomputable def EY (wts:List (Str×Str×Str)) (x:Str):Str×Str×Str:=(wts.find? fun w=>decide (w.1=x)).getD ("", "", "")
noncomputable def yr (r names:List Str):List Str:=match names.find? fun y=>decide (y∈r) with
 | some y=>r.drop (r.idxOf y) ++ r.take (r.idxOf y)
 | none=>[]
noncomputable def FP (f:Str->Option (Option Str)) (names:List Str) (wts ws:List (Str×Str×Str)):Prop:=
 (ws=[]/\∀x∈names,lN f x [])∨∃pre x post r,names=pre ++ x:: post/\(∀y∈pre,lN f y [])/\lN f x r/\r≠[]/\ws=(yr r names).map (EY wts)
theorem FP.one {f:Str->Option (Option Str)} {names:List Str} {wts ws ws':List (Str×Str×Str)} (h:FP f names wts ws) (h':FP f names wts ws'):ws=ws':=by
 rcases h with ⟨rfl,h⟩ | ⟨pre,x,post,r,e,h1,h2,h3,rfl⟩
 ·rcases h' with ⟨rfl,_⟩ | ⟨pre,x,post,r,e,h1,h2,h3,rfl⟩
  ·rfl
  ·exact absurd ((h x (by rw [e];simp)).one h2).symm h3
 ·rcases h' with ⟨rfl,h'⟩ | ⟨pre',x',post',r',e',h1',h2',h3',rfl⟩
  ·exact absurd ((h' x (by rw [e];simp)).one h2).symm h3
  ·have key:pre.length=pre'.length:=by
    rcases Nat.lt_trichotomy pre.length pre'.length with hl | hl | hl
    ·refine absurd ((h1' x ?_).one h2).symm h3
     have:(pre' ++ x':: post')[pre.length]?=some x:=by rw [<-e',e,List.getElem?_append_right (Nat.le_refl _),Nat.sub_self];rfl
     rw [List.getElem?_append_left hl] at this
     exact List.mem_of_getElem? this
    ·exact hl
    ·refine absurd ((h1 x' ?_).one h2').symm h3'
     have:(pre ++ x:: post)[pre'.length]?=some x':=by rw [<-e,e',List.getElem?_append_right (Nat.le_refl _),Nat.sub_self];rfl
     rw [List.getElem?_append_left hl] at this
     exact List.mem_of_getElem? this
   have hx:x=x':=by
    have a1:names[pre.length]?=some x:=by rw [e,List.getElem?_append_right (Nat.le_refl _),Nat.sub_self];rfl
    have a2:names[pre.length]?=some x':=by rw [key,e',List.getElem?_append_right (Nat.le_refl _),Nat.sub_self];rfl
    rw [a1] at a2
    exact Option.some.inj a2
   subst hx
   rw [h2.one h2']
structure Gd (n:Nat) (d:PyData):Prop where
 eq:PyData.eqv d d=true
 lay:PyData.canLay0 d=true
 dep:PyData.depth d<=n
theorem Gd.all {n:Nat}:∀{ds:List PyData},(∀d∈ds,Gd n d)->PyData.eqvAll ds ds=true/\PyData.canLayAll0 ds=true/\PyData.depthAll ds<=n
 | [],_=>⟨by simp [PyData.eqvAll],by simp [PyData.canLayAll0],by simp [PyData.depthAll]⟩
 | d:: r,h=>by
  obtain⟨h1,h2,h3⟩:=Gd.all (ds:=r) fun x hx=>h x (List.mem_cons_of_mem _ hx)
  have g:=h d List.mem_cons_self
  have g3:=g.dep
  refine⟨by simp [PyData.eqvAll,g.eq,h1],by simp [PyData.canLayAll0,g.lay,h2],?_⟩
  simp only [PyData.depthAll]
  omega
theorem Gd.list {n:Nat} {ds:List PyData} (h:∀d∈ds,Gd n d):Gd (n+1) (.list ds):=by
 obtain⟨h1,h2,h3⟩:=Gd.all h
 exact⟨by simp [PyData.eqv,h1],by simp [PyData.canLay0,h2],by simp only [PyData.depth];omega⟩
theorem Gd.tuple {n:Nat} {ds:List PyData} (h:∀d∈ds,Gd n d):Gd (n+1) (.tuple ds):=by
 obtain⟨h1,h2,h3⟩:=Gd.all h
 exact⟨by simp [PyData.eqv,h1],by simp [PyData.canLay0,h2],by simp only [PyData.depth];omega⟩
theorem Gd.int (n:Nat) (i:Int):Gd n (.int i):=⟨by simp [PyData.eqv],by simp [PyData.canLay0],by simp [PyData.depth]⟩
theorem Gd.str (n:Nat) {x:Str} (h:PyData.strOk x=true):Gd n (.str x):=⟨by simp [PyData.eqv],by simp [PyData.canLay0,h],by simp [PyData.depth]⟩
theorem Gd.ints (n:Nat) (ws:List Int):∀d∈ws.map PyData.int,Gd n d:=fun d hd=>by
 obtain⟨i,_,rfl⟩:=List.mem_map.mp hd
 exact .int n i
theorem Gd.strs (n:Nat) {xs:List Str} (h:∀x∈xs,PyData.strOk x=true):∀d∈xs.map PyData.str,Gd n d:=fun d hd=>by
 obtain⟨x,hx,rfl⟩:=List.mem_map.mp hd
 exact .str n (h x hx)
theorem Gd.shaped {n:Nat} {d:PyData} (h:Gd n d) (hn:n<=64):SeqAt.shaped d=true:=by
 have:=h.dep
 unfold SeqAt.shaped
 rw [h.lay,decide_eq_true (show d.depth<=64 by omega)]
 rfl
theorem Cz {z:Str} (h:nameB z=true):PyData.strOk z=true:=by
 have e:∀c∈z.cps.toList,c <0x110000:=fun c hc=>by
  unfold nameB at h
  split at h
  ·cases h
  ·rename_i c0 r e
   rw [e] at hc
   simp only [Bool.and_eq_true,List.all_eq_true,Bool.or_eq_true] at h
   have:=h.2.2 c hc
   unfold low MJ at this
   simp only [Bool.and_eq_true,decide_eq_true_eq] at this
   omega
 unfold PyData.strOk
 rw [Array.all_eq_true']
 intro c hc
 exact decide_eq_true (e c (by simpa using hc))
theorem O3 {H:Hp}:∀ws:List Int,QL K H (ws.map V.int) (ws.map PyData.int)
 | []=>.nil
 | i:: r=>.cons (.int i) (O3 r)
theorem O4 {H:Hp}:∀xs:List Str,QL K H (xs.map V.str) (xs.map PyData.str)
 | []=>.nil
 | x:: r=>.cons (.str x) (O4 r)
theorem Iw {H:Hp} {p:Addr} {ws:List Int} (h:bH K H p (ws.map V.int)):Dt K H (.ref p) (.list (ws.map PyData.int)):=.list h (O3 ws)
theorem vU {H:Hp} {p:Addr} {xs:List Str} (h:bH K H p (xs.map V.str)):Dt K H (.ref p) (.list (xs.map PyData.str)):=.list h (O4 xs)
theorem RV (xs:List V) (a b:Nat):xM xs (some (a:Int)) (some (b:Int))=(xs.drop (min a xs.length)).take (min b xs.length - min a xs.length):=by
 unfold xM
 rw [HT.vQ,HT.vQ]
theorem V3:∀i,i <11->decide (V.str (fc i)=V.str "give")=decide (i=0):=by decide +kernel
inductive Bv (K:PySem.W.Frag) (vs:List V) (H:Hp) (Q:VK) (E:XK):Prop where
 | mk:∀x Tx b,vs=[x]->ZX K H x Tx->Tx∈qI->decide (Tx= "int")=b->Q (.bl b) H->Bv K vs H Q E
theorem Bd (T:Txt w K mg t):FO P w K mg base 1 t.Ds ["thing"] (Bv K):=by
 have sc:=T.rZ.sc ["thing"]
 refine T.rZ.F.ok sc ln (fun _ _ _ _ H vs Q E hr h=>?_)
 obtain⟨x,Tx,b,rfl,ty,hm,rfl,k⟩:=h
 refine⟨_,(aA (aO (zP (bw zB (by rfl) T.mX kZ (aa (pv 0) (aa (Cw (by rfl) T.Y6 XH) ak aj) aj)) (xT (M3 (bw zB (by rfl) T.mX kZ (aa (pv 0) (aa (Cw (by rfl) T.XQ Vn) ak aj) aj))))))),?_⟩
 have hm':Tx= "int" ∨Tx= "bool" ∨(K1 Tx "int" =false/\Tx≠ "int"):=by
  simp only [qI,List.mem_cons,List.not_mem_nil,or_false] at hm
  rcases hm with rfl | rfl | rfl | rfl | rfl | rfl | rfl
  ·exact .inr (.inr (by decide))
  ·exact .inr (.inl rfl)
  ·exact .inl rfl
  ·exact .inr (.inr (by decide))
  ·exact .inr (.inr (by decide))
  ·exact .inr (.inr (by decide))
  ·exact .inr (.inr (by decide))
 rcases hm' with rfl | rfl | ⟨h1,h2⟩
 ·exact⟨_,rfl,x, "int", "int",true,rfl,ty,by decide,by decide,true,rfl,gh ⟨_,rfl,x, "int", "bool",false,rfl,ty,by decide,by decide,_,rfl,k⟩⟩
 ·exact⟨_,rfl,x, "bool", "int",true,rfl,ty,by decide,by decide,true,rfl,gh ⟨_,rfl,x, "bool", "bool",true,rfl,ty,by decide,by decide,_,rfl,k⟩⟩
 ·rw [decide_eq_false h2] at k
  exact⟨_,rfl,x,Tx, "int",false,rfl,ty,by decide,h1,false,rfl,cB k⟩
inductive Av (K:PySem.W.Frag) (vs:List V) (H:Hp) (Q:VK) (E:XK):Prop where
 | mk:∀x,vs=[x]->(((∃i:Int,x=.int i/\Q (.bl (decide (0<=i) && decide (i <1000000000))) H)∨∃Tx,ZX K H x Tx/\Tx∈qI/\Tx≠ "int" /\Q (.bl false) H))->Av K vs H Q E
theorem vo (T:Txt w K mg t):FO P w K mg base 2 t.Fp ["thing"] (Av K):=by
 have sc:=T.pN.sc ["thing"]
 refine T.pN.F.ok sc ln (fun _ _ _ _ H vs Q E hr h=>?_)
 obtain⟨x,rfl,h⟩:=h
 refine⟨_,(aA (aO (zP (dJ (Bd T) T.rZ hr (aa (pv 0) ak aj)) (xT (RC xf yZ aq (pv 0) (ju (by rfl) T.LK)))))),?_⟩
 rcases h with ⟨i,rfl,k⟩ | ⟨Tx,ty,hm,hne,k⟩
 ·refine⟨_,rfl,.int i, "int",true,rfl,rfl,by decide,by decide,true,rfl,gh ⟨_,rfl,_,_,rfl,rfl,_,rfl,iu (fun h=>?_) (fun h=>?_)⟩⟩
  ·have h':0<=i:=of_decide_eq_true h
   rw [decide_eq_true h',Bool.true_and] at k
   exact⟨_,_,rfl,rfl,k⟩
  ·have h':¬0<=i:=fun z=>h (decide_eq_true z)
   rw [decide_eq_false h',Bool.false_and] at k
   exact k
 ·exact⟨_,rfl,x,Tx,false,rfl,ty,hm,decide_eq_false hne,false,rfl,cB k⟩
inductive rQ (K:PySem.W.Frag) (t:jd) (vs:List V) (H:Hp) (Q:VK) (E:XK):Prop where
 | mk:∀(i:Nat) (p dx a1 a2 a3:Addr) (nm:V) (ns is os:List V),vs=[.ref p,nm,.ref a1,.ref a2,.ref a3]->H p=some (.ins (cls t i) dx [])->yj K H a1 ns->yj K H a2 is->yj K H a3 os->(∀H',lH p H H'->fK K t H' p i nm ns is os->Q .non H')->rQ K t vs H Q E
noncomputable abbrev lY:List Str:=["self", "name", "numbers", "ins", "outs"]
theorem bW (T:Txt w K mg t):FO P w K mg base 1 t.bU lY (rQ K t):=by
 have sc:gm lY lY (aV (inClass (top 34) 0)):=O2
 refine T.bh.F.ok sc ln (fun _ _ _ _ H vs Q E hr h=>?_)
 obtain⟨i,p,dx,a1,a2,a3,nm,ns,is,os,rfl,hp,q1,q2,q3,k⟩:=h
 refine⟨_,(ao (iy (pv 0) (pv 1) rfl)
  (ao (iy (pv 0) (fL wA (by rfl) T.Cv zF (aa (pv 2) ak aj)) rfl)
  (ao (iy (pv 0) (fL wA (by rfl) T.Cv zF (aa (pv 3) ak aj)) rfl)
  (aA (iy (pv 0) (fL wA (by rfl) T.Cv zF (aa (pv 4) ak aj)) rfl))))),?_⟩
 refine⟨_,rfl,_,rfl,p,cls t i,dx,[],rfl,hp,iJ T i,CG T i,by show 0 <1000;decide,?_⟩
 have b1:lH p H (upd H p (.ins (cls t i) dx (aJ "name" nm []))):=lH.write
 have e1:(upd H p (.ins (cls t i) dx (aJ "name" nm []))) p=some (.ins (cls t i) dx (aJ "name" nm [])):=az
 generalize upd H p (.ins (cls t i) dx (aJ "name" nm []))=H1 at b1 e1 ⊢
 have r2:=b1.seqA hp q2
 have r3:=b1.seqA hp q3
 refine⟨_,rfl,a1,ns,rfl,b1.seqA hp q1,fun H2 u2 s2 t2=>⟨_,rfl,p,cls t i,dx,_,rfl,s2 _ _ e1,iJ T i,tG T i,Nat.lt_of_le_of_lt (ie (Nat.zero_le 0)) (by decide),?_⟩⟩
 have e2:=s2 _ _ e1
 have b2:lH p H2 (upd H2 p (.ins (cls t i) dx (aJ "numbers" (.ref u2) (aJ "name" nm [])))):=lH.write
 have e3:(upd H2 p (.ins (cls t i) dx (aJ "numbers" (.ref u2) (aJ "name" nm [])))) p=some (.ins (cls t i) dx (aJ "numbers" (.ref u2) (aJ "name" nm []))):=az
 generalize upd H2 p (.ins (cls t i) dx (aJ "numbers" (.ref u2) (aJ "name" nm [])))=H3 at b2 e3 ⊢
 have r2':=b2.seqA e2 (s2.seqA r2)
 have r3':=b2.seqA e2 (s2.seqA r3)
 have t2':=b2.seqT e2 t2
 refine⟨_,rfl,a2,is,rfl,r2',fun H4 u4 s4 t4=>⟨_,rfl,p,cls t i,dx,_,rfl,s4 _ _ e3,iJ T i,zQ T i,Nat.lt_of_le_of_lt (ie (ie (Nat.zero_le 0))) (by decide),?_⟩⟩
 have e4:=s4 _ _ e3
 have b4:lH p H4 (upd H4 p (.ins (cls t i) dx (aJ "ins" (.ref u4) (aJ "numbers" (.ref u2) (aJ "name" nm []))))):=lH.write
 have e5:(upd H4 p (.ins (cls t i) dx (aJ "ins" (.ref u4) (aJ "numbers" (.ref u2) (aJ "name" nm []))))) p=some (.ins (cls t i) dx (aJ "ins" (.ref u4) (aJ "numbers" (.ref u2) (aJ "name" nm [])))):=az
 generalize upd H4 p (.ins (cls t i) dx (aJ "ins" (.ref u4) (aJ "numbers" (.ref u2) (aJ "name" nm []))))=H5 at b4 e5 ⊢
 have r3'':=b4.seqA e4 (s4.seqA r3')
 have t2'':=b4.seqT e4 (s4.seqT t2')
 have t4':=b4.seqT e4 t4
 refine⟨_,rfl,a3,os,rfl,r3'',fun H6 u6 s6 t6=>⟨_,rfl,p,cls t i,dx,_,rfl,s6 _ _ e5,iJ T i,JS T i,Nat.lt_of_le_of_lt (ie (ie (ie (Nat.zero_le 0)))) (by decide),?_⟩⟩
 have e6:=s6 _ _ e5
 refine k _ (b1.trans ((lH.of_same s2).trans (b2.trans ((lH.of_same s4).trans (b4.trans ((lH.of_same s6).trans lH.write)))))) ⟨dx,u2,u4,u6,az,?_,?_,?_⟩
 ·exact lH.write.seqT e6 (s6.seqT t2'')
 ·exact lH.write.seqT e6 (s6.seqT t4')
 ·exact lH.write.seqT e6 t6
theorem J5 (T:Txt w K mg t):FO P w K mg base 1 t.uD ["self"] (jh 0):=by
 have sc:=T.qe.sc ["self"]
 refine T.qe.F.ok sc ln (fun _ _ _ _ H vs Q E hr h=>?_)
 obtain⟨x,rfl,k⟩:=h
 refine⟨_,(aA (aO bK)),?_⟩
 exact k
theorem Io (T:Txt w K mg t):FO P w K mg base 1 t.u9 ["self"] (jh 1):=by
 have sc:=T.qm.sc ["self"]
 refine T.qm.F.ok sc ln (fun _ _ _ _ H vs Q E hr h=>?_)
 obtain⟨x,rfl,k⟩:=h
 refine⟨_,(aA (aO bK)),?_⟩
 exact k
theorem Jc (T:Txt w K mg t):FO P w K mg base 1 t.vH ["self"] (jh 2):=by
 have sc:=T.qd.sc ["self"]
 refine T.qd.F.ok sc ln (fun _ _ _ _ H vs Q E hr h=>?_)
 obtain⟨x,rfl,k⟩:=h
 refine⟨_,(aA (aO bK)),?_⟩
 exact k
theorem JZ (T:Txt w K mg t):FO P w K mg base 1 t.uB ["self"] (jh 3):=by
 have sc:=T.pZ.sc ["self"]
 refine T.pZ.F.ok sc ln (fun _ _ _ _ H vs Q E hr h=>?_)
 obtain⟨x,rfl,k⟩:=h
 refine⟨_,(aA (aO bK)),?_⟩
 exact k
theorem JF (T:Txt w K mg t):FO P w K mg base 1 t.uH ["self"] (jh 4):=by
 have sc:=T.qC.sc ["self"]
 refine T.qC.F.ok sc ln (fun _ _ _ _ H vs Q E hr h=>?_)
 obtain⟨x,rfl,k⟩:=h
 refine⟨_,(aA (aO bK)),?_⟩
 exact k
theorem JW (T:Txt w K mg t):FO P w K mg base 1 t.uP ["self"] (jh 5):=by
 have sc:=T.qy.sc ["self"]
 refine T.qy.F.ok sc ln (fun _ _ _ _ H vs Q E hr h=>?_)
 obtain⟨x,rfl,k⟩:=h
 refine⟨_,(aA (aO bK)),?_⟩
 exact k
theorem Ko (T:Txt w K mg t):FO P w K mg base 1 t.xQ ["self"] (jh 6):=by
 have sc:=T.sr.sc ["self"]
 refine T.sr.F.ok sc ln (fun _ _ _ _ H vs Q E hr h=>?_)
 obtain⟨x,rfl,k⟩:=h
 refine⟨_,(aA (aO bK)),?_⟩
 exact k
theorem Jy (T:Txt w K mg t):FO P w K mg base 1 t.uz ["self"] (jh 7):=by
 have sc:=T.qD.sc ["self"]
 refine T.qD.F.ok sc ln (fun _ _ _ _ H vs Q E hr h=>?_)
 obtain⟨x,rfl,k⟩:=h
 refine⟨_,(aA (aO bK)),?_⟩
 exact k
theorem Gi (T:Txt w K mg t):FO P w K mg base 1 t.rY ["self"] (jh 8):=by
 have sc:=T.nZ.sc ["self"]
 refine T.nZ.F.ok sc ln (fun _ _ _ _ H vs Q E hr h=>?_)
 obtain⟨x,rfl,k⟩:=h
 refine⟨_,(aA (aO bK)),?_⟩
 exact k
theorem DP (T:Txt w K mg t):FO P w K mg base 1 t.qT ["self"] (jh 9):=by
 have sc:=T.kO.sc ["self"]
 refine T.kO.F.ok sc ln (fun _ _ _ _ H vs Q E hr h=>?_)
 obtain⟨x,rfl,k⟩:=h
 refine⟨_,(aA (aO bK)),?_⟩
 exact k
theorem Gj (T:Txt w K mg t):FO P w K mg base 1 t.sV ["self"] (jh 10):=by
 have sc:=T.m9.sc ["self"]
 refine T.m9.F.ok sc ln (fun _ _ _ _ H vs Q E hr h=>?_)
 obtain⟨x,rfl,k⟩:=h
 refine⟨_,(aA (aO bK)),?_⟩
 exact k
inductive Dr (vs:List V) (H:Hp) (Q:VK) (E:XK):Prop where
 | mk:∀z:Str,vs=[.str z]->Q (.bl (rowOf ROWS z).isSome) H->Dr vs H Q E
theorem Fl (T:Txt w K mg t):FO P w K mg base 1 t.Ha ["word"] (Dr):=by
 have sc:=T.vY.sc ["word"]
 refine T.vY.F.ok sc ln (fun _ _ _ _ H vs Q E hr h=>?_)
 obtain⟨z,rfl,k⟩:=h
 refine⟨_,(aA (aO (Eh (X8 (pv 0) (IW (v:=.ref _) (by rfl) T.Ib rfl)) (by with_unfolding_all rfl)))),?_⟩
 exact⟨_,rfl,t.yP,ROWS,z,rfl,T.Kf,rfl,k⟩
inductive Ax (K:PySem.W.Frag) (vs:List V) (H:Hp) (Q:VK) (E:XK):Prop where
 | mk:∀(i:Nat) (nm:V) (a1 a2 a3:Addr) (ns is os:List V),vs=[.str (fc i),nm,.ref a1,.ref a2,.ref a3]->yj K H a1 ns->yj K H a2 is->yj K H a3 os->ns.length=cN i->is.length=cI i->os.length=cO i->((∀v∈ns,Val v))->(∀H',aK H H'->Q .non H')->Ax K vs H Q E
noncomputable abbrev Er:List Str:=["kind", "name", "numbers", "ins", "outs", "counts"]
theorem Lx (T:Txt w K mg t):FO P w K mg base 3 t.Do ["kind", "name", "numbers", "ins", "outs"] (Ax K):=by
 have sc:=T.xY.sc Er
 refine T.xY.F.ok sc ln (fun _ _ _ _ H vs Q E hr h=>?_)
 obtain⟨i,nm,a1,a2,a3,ns,is,os,rfl,h1,h2,h3,l1,l2,l3,hv,k⟩:=h
 refine⟨_,(ao (bO (jD (gB (dJ (Fl T) T.vY hr (aa (pv 0) ak aj))))
   (aA dW)
   bu)
  (ao (sN sc 5 (VF (IW (v:=.ref _) (by rfl) T.Ib rfl) (pv 0) (fun _ _=>rfl)))
  (ao (bO (PW.pt (vp (aZ Gf (bw bR (by rfl) T.eQ cP (aa (pv 2) ak aj)) (aR cj (pv 5) aq (fun _ _=>rfl)) (bF _)) (oJ (jD (gB (bw (yu rfl) (by rfl) T.Ob Jf (aa (eN [] Er (aV (top 47)) rfl (Wq (bT (pv 2)) (JM (pv 2))) (fun _ _ _ _ _=>gM) (fun _ _ _ _ _=>(dJ (vo T) T.pN hr (aa (pv 0) ak aj)))) ak fB)))))))
   (aA dW)
   bu)
  (aA (bO (PW.pt (vp (aZ Gf (bw bR (by rfl) T.eQ cP (aa (pv 3) ak aj)) (aR cj (pv 5) aq (fun _ _=>rfl)) (bF _)) (oJ (aZ Gf (bw bR (by rfl) T.eQ cP (aa (pv 4) ak aj)) (aR cj (pv 5) aq (fun _ _=>rfl)) (bF _)))))
   (aA dW)
   bu))))),?_⟩
 have hl:sizeLine=16777216:=sizeLine_eq
 have hN:=Zv i
 have hI:=Hm i
 have hO:=RZ i
 refine⟨_,rfl,fc i,rfl,true,by rw [row_of];rfl,cB ?_⟩
 refine⟨_,rfl,t.yP,ROWS,fc i,_,rfl,T.Kf,rfl,row_of i,fun ad had=>?_⟩
 refine⟨_,rfl,.ref a1,ns.length,rfl,h1.len,_,rfl,ad,_,0,_,rfl,rfl,had,aN (j:=0) rfl,rfl,_,rfl,?_⟩
 rw [show(!decide (V.int ((ns.length:Nat):Int)=V.int ((cN i:Nat):Int)))=false by rw [l1];simp]
 refine cB ?_
 refine Sv (a:=a1) (xs:=ns) ?_ h1 (fun j ys=>ys=(List.replicate j true).map V.bl) (by omega) rfl (fun j ys e=>by rw [e];simp) (fun j x ys hx e=>?_) (fun ys e D hD=>?_)
 ·exact fun R r=>⟨_,rfl,r⟩
 ·subst e
  obtain⟨n,rfl,n0,n1⟩:=hv x (List.mem_of_getElem? hx)
  refine yes ⟨_,rfl,.int n,rfl,.inl ⟨n,rfl,rfl,?_⟩⟩
  rw [decide_eq_true n0,decide_eq_true n1,List.replicate_succ']
  simp
 ·subst e
  refine⟨D,_,rfl,bH.of az,_,rfl,?_⟩
  rw [show((List.replicate ns.length true).all id)=true by simp]
  refine cB ?_
  have s1:aK H (upd H D (.lst ((List.replicate ns.length true).map V.bl))):=aB hD
  refine⟨_,rfl,.ref a2,is.length,rfl,(s1.seqA h2).len,_,rfl,ad,_,1,_,rfl,rfl,s1.seqT had,aN (j:=1) rfl,rfl,_,rfl,?_⟩
  rw [show(!decide (V.int ((is.length:Nat):Int)=V.int ((cI i:Nat):Int)))=false by rw [l2];simp]
  refine cB ?_
  refine⟨_,rfl,.ref a3,os.length,rfl,(s1.seqA h3).len,_,rfl,ad,_,2,_,rfl,rfl,s1.seqT had,aN (j:=2) rfl,rfl,_,rfl,?_⟩
  rw [show(!decide (V.int ((os.length:Nat):Int)=V.int ((cO i:Nat):Int)))=false by rw [l3];simp]
  exact cB (k _ s1)
inductive En (K:PySem.W.Frag) (t:jd) (vs:List V) (H:Hp) (Q:VK) (E:XK):Prop where
 | mk:∀(i:Nat) (nm:V) (a1 a2 a3:Addr) (ns is os:List V),vs=[.str (fc i),nm,.ref a1,.ref a2,.ref a3]->i<=10->yj K H a1 ns->yj K H a2 is->yj K H a3 os->(∀H' p,aK H H'->H p=none->fK K t H' p i nm ns is os->Q (.ref p) H')->En K t vs H Q E
noncomputable abbrev z8:List Str:=["kind", "name", "numbers", "ins", "outs"]
theorem Mh (T:Txt w K mg t):FO P w K mg base 3 t.Hc z8 (En K t):=by
 have sc:gm z8 z8 (aV (top 48)):=O2
 refine T.HS.F.ok sc ln (fun _ _ _ _ H vs Q E hr h=>?_)
 obtain⟨i,nm,a1,a2,a3,ns,is,os,rfl,hi,h1,h2,h3,k⟩:=h
 refine⟨_,(ao (bO (aZ eY (pv 0) bK (bF _))
   (aA (aO (iB (T.iH.M T.bh) (bW T) (hr.mono (by decide)) (by rfl) T.iH.m T.bh.b .nil ik (aa (pv 1) (aa (pv 2) (aa (pv 3) (aa (pv 4) ak aj) aj) aj) aj))))
   bu)
  (ao (bO (aZ eY (pv 0) bK (bF _))
   (aA (aO (iB (T.iD.M T.bh) (bW T) (hr.mono (by decide)) (by rfl) T.iD.m T.bh.b .nil ik (aa (pv 1) (aa (pv 2) (aa (pv 3) (aa (pv 4) ak aj) aj) aj) aj))))
   bu)
  (ao (bO (aZ eY (pv 0) bK (bF _))
   (aA (aO (iB (T.iG.M T.bh) (bW T) (hr.mono (by decide)) (by rfl) T.iG.m T.bh.b .nil ik (aa (pv 1) (aa (pv 2) (aa (pv 3) (aa (pv 4) ak aj) aj) aj) aj))))
   bu)
  (ao (bO (aZ eY (pv 0) bK (bF _))
   (aA (aO (iB (T.iQ.M T.bh) (bW T) (hr.mono (by decide)) (by rfl) T.iQ.m T.bh.b .nil ik (aa (pv 1) (aa (pv 2) (aa (pv 3) (aa (pv 4) ak aj) aj) aj) aj))))
   bu)
  (ao (bO (aZ eY (pv 0) bK (bF _))
   (aA (aO (iB (T.iI.M T.bh) (bW T) (hr.mono (by decide)) (by rfl) T.iI.m T.bh.b .nil ik (aa (pv 1) (aa (pv 2) (aa (pv 3) (aa (pv 4) ak aj) aj) aj) aj))))
   bu)
  (ao (bO (aZ eY (pv 0) bK (bF _))
   (aA (aO (iB (T.iY.M T.bh) (bW T) (hr.mono (by decide)) (by rfl) T.iY.m T.bh.b .nil ik (aa (pv 1) (aa (pv 2) (aa (pv 3) (aa (pv 4) ak aj) aj) aj) aj))))
   bu)
  (ao (bO (aZ eY (pv 0) bK (bF _))
   (aA (aO (iB (T.lG.M T.bh) (bW T) (hr.mono (by decide)) (by rfl) T.lG.m T.bh.b .nil ik (aa (pv 1) (aa (pv 2) (aa (pv 3) (aa (pv 4) ak aj) aj) aj) aj))))
   bu)
  (ao (bO (aZ eY (pv 0) bK (bF _))
   (aA (aO (iB (T.iW.M T.bh) (bW T) (hr.mono (by decide)) (by rfl) T.iW.m T.bh.b .nil ik (aa (pv 1) (aa (pv 2) (aa (pv 3) (aa (pv 4) ak aj) aj) aj) aj))))
   bu)
  (ao (bO (aZ eY (pv 0) bK (bF _))
   (aA (aO (iB (T.fM.M T.bh) (bW T) (hr.mono (by decide)) (by rfl) T.fM.m T.bh.b .nil ik (aa (pv 1) (aa (pv 2) (aa (pv 3) (aa (pv 4) ak aj) aj) aj) aj))))
   bu)
  (ao (bO (aZ eY (pv 0) bK (bF _))
   (aA (aO (iB (T.eG.M T.bh) (bW T) (hr.mono (by decide)) (by rfl) T.eG.m T.bh.b .nil ik (aa (pv 1) (aa (pv 2) (aa (pv 3) (aa (pv 4) ak aj) aj) aj) aj))))
   bu)
  (aA (aO (iB (T.fP.M T.bh) (bW T) (hr.mono (by decide)) (by rfl) T.fP.m T.bh.b .nil ik (aa (pv 1) (aa (pv 2) (aa (pv 3) (aa (pv 4) ak aj) aj) aj) aj)))))))))))))),?_⟩
 match i,hi with
 | 0,_=>
  refine⟨_,rfl,rfl,_,rfl,xR rfl ?_⟩
  refine⟨_,rfl,_,rfl,_,rfl,_,rfl,fun x dx nx ndx nex=>?_⟩
  have s0:aK H (upd (upd H dx (.own x)) x (.ins t.Nt dx [])):=fun b o e=>by rw [aM (aD e nx),aM (aD e ndx)];exact e
  exact⟨0,x,dx,a1,a2,a3,nm,ns,is,os,rfl,az,s0.seqA h1,s0.seqA h2,s0.seqA h3,fun H' b P=>⟨rfl,k H' x (fun c o e=>b c o (aD e nx) (s0 c o e)) nx P⟩⟩
 | 1,_=>
  refine⟨_,rfl,rfl,_,rfl,dY (by decide +kernel) ?_⟩
  refine⟨_,rfl,rfl,_,rfl,xR rfl ?_⟩
  refine⟨_,rfl,_,rfl,_,rfl,_,rfl,fun x dx nx ndx nex=>?_⟩
  have s0:aK H (upd (upd H dx (.own x)) x (.ins t.Ni dx [])):=fun b o e=>by rw [aM (aD e nx),aM (aD e ndx)];exact e
  exact⟨1,x,dx,a1,a2,a3,nm,ns,is,os,rfl,az,s0.seqA h1,s0.seqA h2,s0.seqA h3,fun H' b P=>⟨rfl,k H' x (fun c o e=>b c o (aD e nx) (s0 c o e)) nx P⟩⟩
 | 2,_=>
  refine⟨_,rfl,rfl,_,rfl,dY (by decide +kernel) ?_⟩
  refine⟨_,rfl,rfl,_,rfl,dY (by decide +kernel) ?_⟩
  refine⟨_,rfl,rfl,_,rfl,xR rfl ?_⟩
  refine⟨_,rfl,_,rfl,_,rfl,_,rfl,fun x dx nx ndx nex=>?_⟩
  have s0:aK H (upd (upd H dx (.own x)) x (.ins t.Mz dx [])):=fun b o e=>by rw [aM (aD e nx),aM (aD e ndx)];exact e
  exact⟨2,x,dx,a1,a2,a3,nm,ns,is,os,rfl,az,s0.seqA h1,s0.seqA h2,s0.seqA h3,fun H' b P=>⟨rfl,k H' x (fun c o e=>b c o (aD e nx) (s0 c o e)) nx P⟩⟩
 | 3,_=>
  refine⟨_,rfl,rfl,_,rfl,dY (by decide +kernel) ?_⟩
  refine⟨_,rfl,rfl,_,rfl,dY (by decide +kernel) ?_⟩
  refine⟨_,rfl,rfl,_,rfl,dY (by decide +kernel) ?_⟩
  refine⟨_,rfl,rfl,_,rfl,xR rfl ?_⟩
  refine⟨_,rfl,_,rfl,_,rfl,_,rfl,fun x dx nx ndx nex=>?_⟩
  have s0:aK H (upd (upd H dx (.own x)) x (.ins t.Nm dx [])):=fun b o e=>by rw [aM (aD e nx),aM (aD e ndx)];exact e
  exact⟨3,x,dx,a1,a2,a3,nm,ns,is,os,rfl,az,s0.seqA h1,s0.seqA h2,s0.seqA h3,fun H' b P=>⟨rfl,k H' x (fun c o e=>b c o (aD e nx) (s0 c o e)) nx P⟩⟩
 | 4,_=>
  refine⟨_,rfl,rfl,_,rfl,dY (by decide +kernel) ?_⟩
  refine⟨_,rfl,rfl,_,rfl,dY (by decide +kernel) ?_⟩
  refine⟨_,rfl,rfl,_,rfl,dY (by decide +kernel) ?_⟩
  refine⟨_,rfl,rfl,_,rfl,dY (by decide +kernel) ?_⟩
  refine⟨_,rfl,rfl,_,rfl,xR rfl ?_⟩
  refine⟨_,rfl,_,rfl,_,rfl,_,rfl,fun x dx nx ndx nex=>?_⟩
  have s0:aK H (upd (upd H dx (.own x)) x (.ins t.N8 dx [])):=fun b o e=>by rw [aM (aD e nx),aM (aD e ndx)];exact e
  exact⟨4,x,dx,a1,a2,a3,nm,ns,is,os,rfl,az,s0.seqA h1,s0.seqA h2,s0.seqA h3,fun H' b P=>⟨rfl,k H' x (fun c o e=>b c o (aD e nx) (s0 c o e)) nx P⟩⟩
 | 5,_=>
  refine⟨_,rfl,rfl,_,rfl,dY (by decide +kernel) ?_⟩
  refine⟨_,rfl,rfl,_,rfl,dY (by decide +kernel) ?_⟩
  refine⟨_,rfl,rfl,_,rfl,dY (by decide +kernel) ?_⟩
  refine⟨_,rfl,rfl,_,rfl,dY (by decide +kernel) ?_⟩
  refine⟨_,rfl,rfl,_,rfl,dY (by decide +kernel) ?_⟩
  refine⟨_,rfl,rfl,_,rfl,xR rfl ?_⟩
  refine⟨_,rfl,_,rfl,_,rfl,_,rfl,fun x dx nx ndx nex=>?_⟩
  have s0:aK H (upd (upd H dx (.own x)) x (.ins t.M5 dx [])):=fun b o e=>by rw [aM (aD e nx),aM (aD e ndx)];exact e
  exact⟨5,x,dx,a1,a2,a3,nm,ns,is,os,rfl,az,s0.seqA h1,s0.seqA h2,s0.seqA h3,fun H' b P=>⟨rfl,k H' x (fun c o e=>b c o (aD e nx) (s0 c o e)) nx P⟩⟩
 | 6,_=>
  refine⟨_,rfl,rfl,_,rfl,dY (by decide +kernel) ?_⟩
  refine⟨_,rfl,rfl,_,rfl,dY (by decide +kernel) ?_⟩
  refine⟨_,rfl,rfl,_,rfl,dY (by decide +kernel) ?_⟩
  refine⟨_,rfl,rfl,_,rfl,dY (by decide +kernel) ?_⟩
  refine⟨_,rfl,rfl,_,rfl,dY (by decide +kernel) ?_⟩
  refine⟨_,rfl,rfl,_,rfl,dY (by decide +kernel) ?_⟩
  refine⟨_,rfl,rfl,_,rfl,xR rfl ?_⟩
  refine⟨_,rfl,_,rfl,_,rfl,_,rfl,fun x dx nx ndx nex=>?_⟩
  have s0:aK H (upd (upd H dx (.own x)) x (.ins t.Tp dx [])):=fun b o e=>by rw [aM (aD e nx),aM (aD e ndx)];exact e
  exact⟨6,x,dx,a1,a2,a3,nm,ns,is,os,rfl,az,s0.seqA h1,s0.seqA h2,s0.seqA h3,fun H' b P=>⟨rfl,k H' x (fun c o e=>b c o (aD e nx) (s0 c o e)) nx P⟩⟩
 | 7,_=>
  refine⟨_,rfl,rfl,_,rfl,dY (by decide +kernel) ?_⟩
  refine⟨_,rfl,rfl,_,rfl,dY (by decide +kernel) ?_⟩
  refine⟨_,rfl,rfl,_,rfl,dY (by decide +kernel) ?_⟩
  refine⟨_,rfl,rfl,_,rfl,dY (by decide +kernel) ?_⟩
  refine⟨_,rfl,rfl,_,rfl,dY (by decide +kernel) ?_⟩
  refine⟨_,rfl,rfl,_,rfl,dY (by decide +kernel) ?_⟩
  refine⟨_,rfl,rfl,_,rfl,dY (by decide +kernel) ?_⟩
  refine⟨_,rfl,rfl,_,rfl,xR rfl ?_⟩
  refine⟨_,rfl,_,rfl,_,rfl,_,rfl,fun x dx nx ndx nex=>?_⟩
  have s0:aK H (upd (upd H dx (.own x)) x (.ins t.Nb dx [])):=fun b o e=>by rw [aM (aD e nx),aM (aD e ndx)];exact e
  exact⟨7,x,dx,a1,a2,a3,nm,ns,is,os,rfl,az,s0.seqA h1,s0.seqA h2,s0.seqA h3,fun H' b P=>⟨rfl,k H' x (fun c o e=>b c o (aD e nx) (s0 c o e)) nx P⟩⟩
 | 8,_=>
  refine⟨_,rfl,rfl,_,rfl,dY (by decide +kernel) ?_⟩
  refine⟨_,rfl,rfl,_,rfl,dY (by decide +kernel) ?_⟩
  refine⟨_,rfl,rfl,_,rfl,dY (by decide +kernel) ?_⟩
  refine⟨_,rfl,rfl,_,rfl,dY (by decide +kernel) ?_⟩
  refine⟨_,rfl,rfl,_,rfl,dY (by decide +kernel) ?_⟩
  refine⟨_,rfl,rfl,_,rfl,dY (by decide +kernel) ?_⟩
  refine⟨_,rfl,rfl,_,rfl,dY (by decide +kernel) ?_⟩
  refine⟨_,rfl,rfl,_,rfl,dY (by decide +kernel) ?_⟩
  refine⟨_,rfl,rfl,_,rfl,xR rfl ?_⟩
  refine⟨_,rfl,_,rfl,_,rfl,_,rfl,fun x dx nx ndx nex=>?_⟩
  have s0:aK H (upd (upd H dx (.own x)) x (.ins t.JP dx [])):=fun b o e=>by rw [aM (aD e nx),aM (aD e ndx)];exact e
  exact⟨8,x,dx,a1,a2,a3,nm,ns,is,os,rfl,az,s0.seqA h1,s0.seqA h2,s0.seqA h3,fun H' b P=>⟨rfl,k H' x (fun c o e=>b c o (aD e nx) (s0 c o e)) nx P⟩⟩
 | 9,_=>
  refine⟨_,rfl,rfl,_,rfl,dY (by decide +kernel) ?_⟩
  refine⟨_,rfl,rfl,_,rfl,dY (by decide +kernel) ?_⟩
  refine⟨_,rfl,rfl,_,rfl,dY (by decide +kernel) ?_⟩
  refine⟨_,rfl,rfl,_,rfl,dY (by decide +kernel) ?_⟩
  refine⟨_,rfl,rfl,_,rfl,dY (by decide +kernel) ?_⟩
  refine⟨_,rfl,rfl,_,rfl,dY (by decide +kernel) ?_⟩
  refine⟨_,rfl,rfl,_,rfl,dY (by decide +kernel) ?_⟩
  refine⟨_,rfl,rfl,_,rfl,dY (by decide +kernel) ?_⟩
  refine⟨_,rfl,rfl,_,rfl,dY (by decide +kernel) ?_⟩
  refine⟨_,rfl,rfl,_,rfl,xR rfl ?_⟩
  refine⟨_,rfl,_,rfl,_,rfl,_,rfl,fun x dx nx ndx nex=>?_⟩
  have s0:aK H (upd (upd H dx (.own x)) x (.ins t.DN dx [])):=fun b o e=>by rw [aM (aD e nx),aM (aD e ndx)];exact e
  exact⟨9,x,dx,a1,a2,a3,nm,ns,is,os,rfl,az,s0.seqA h1,s0.seqA h2,s0.seqA h3,fun H' b P=>⟨rfl,k H' x (fun c o e=>b c o (aD e nx) (s0 c o e)) nx P⟩⟩
 | 10,_=>
  refine⟨_,rfl,rfl,_,rfl,dY (by decide +kernel) ?_⟩
  refine⟨_,rfl,rfl,_,rfl,dY (by decide +kernel) ?_⟩
  refine⟨_,rfl,rfl,_,rfl,dY (by decide +kernel) ?_⟩
  refine⟨_,rfl,rfl,_,rfl,dY (by decide +kernel) ?_⟩
  refine⟨_,rfl,rfl,_,rfl,dY (by decide +kernel) ?_⟩
  refine⟨_,rfl,rfl,_,rfl,dY (by decide +kernel) ?_⟩
  refine⟨_,rfl,rfl,_,rfl,dY (by decide +kernel) ?_⟩
  refine⟨_,rfl,rfl,_,rfl,dY (by decide +kernel) ?_⟩
  refine⟨_,rfl,rfl,_,rfl,dY (by decide +kernel) ?_⟩
  refine⟨_,rfl,rfl,_,rfl,dY (by decide +kernel) ?_⟩
  refine⟨_,rfl,_,rfl,_,rfl,_,rfl,fun x dx nx ndx nex=>?_⟩
  have s0:aK H (upd (upd H dx (.own x)) x (.ins t.Jm dx [])):=fun b o e=>by rw [aM (aD e nx),aM (aD e ndx)];exact e
  exact⟨10,x,dx,a1,a2,a3,nm,ns,is,os,rfl,az,s0.seqA h1,s0.seqA h2,s0.seqA h3,fun H' b P=>⟨rfl,k H' x (fun c o e=>b c o (aD e nx) (s0 c o e)) nx P⟩⟩
 | (n+11),h=>exact absurd h (by omega)
inductive zG (K:PySem.W.Frag) (t:jd) (vs:List V) (H:Hp) (Q:VK) (E:XK):Prop where
 | mk:∀(i:Nat) (nm:V) (a1 a2 a3:Addr) (ns is os:List V),vs=[.str (fc i),nm,.ref a1,.ref a2,.ref a3]->i<=10->yj K H a1 ns->yj K H a2 is->yj K H a3 os->ns.length=cN i->is.length=cI i->os.length=cO i->((∀v∈ns,Val v))->(∀H' p,aK H H'->H p=none->fK K t H' p i nm ns is os->Q (.ref p) H')->zG K t vs H Q E
noncomputable abbrev uF:List Str:=["kind", "name", "numbers", "ins", "outs"]
theorem JT (T:Txt w K mg t):FO P w K mg base 4 t.Aj uF (zG K t):=by
 have sc:gm uF uF (aV (top 49)):=O2
 refine T.Aq.F.ok sc ln (fun _ _ _ _ H vs Q E hr h=>?_)
 obtain⟨i,nm,a1,a2,a3,ns,is,os,rfl,hi,h1,h2,h3,l1,l2,l3,hv,k⟩:=h
 refine⟨_,(ao (bI (dJ (Lx T) T.xY hr (aa (pv 0) (aa (pv 1) (aa (pv 2) (aa (pv 3) (aa (pv 4) ak aj) aj) aj) aj) aj)))
  (aA (aO (dJ (Mh T) T.HS hr (aa (pv 0) (aa (pv 1) (aa (pv 2) (aa (pv 3) (aa (pv 4) ak aj) aj) aj) aj) aj))))),?_⟩
 refine⟨_,rfl,_,rfl,_,rfl,_,rfl,_,rfl,i,nm,a1,a2,a3,ns,is,os,rfl,h1,h2,h3,l1,l2,l3,hv,fun H1 s1=>?_⟩
 exact⟨_,rfl,_,rfl,_,rfl,_,rfl,_,rfl,i,nm,a1,a2,a3,ns,is,os,rfl,hi,s1.seqA h1,s1.seqA h2,s1.seqA h3,fun H2 p s2 np P=>k H2 p (s1.trans s2) (s1.free np) P⟩
inductive Pk (vs:List V) (H:Hp) (Q:VK) (E:XK):Prop where
 | mk:∀a:Int,vs=[.int a]->Q (.int (a % 1000000000)) H->Pk vs H Q E
theorem JC (T:Txt w K mg t):FO P w K mg base 1 t.Tu ["number"] (Pk):=by
 have sc:=T.Fq.sc ["number"]
 refine T.Fq.F.ok sc ln (fun _ _ _ _ H vs Q E hr h=>?_)
 obtain⟨a,rfl,k⟩:=h
 refine⟨_,(aA (aO (bc cz (pv 0) (ju (by rfl) T.LK)))),?_⟩
 exact⟨_,rfl,_,_,rfl,rfl,by show(0:Int) <1000000000;decide,k⟩
inductive uy (K:PySem.W.Frag) (t:jd) (vs:List V) (H:Hp) (Q:VK) (E:XK):Prop where
 | mk:∀i,i≠9->oG K t i vs H Q E->uy K t vs H Q E
theorem cZ (T:Txt w K mg t):FO P w K mg base 1 t.cG ["self", "heads"] (uy K t):=by
 have sc:=T.bC.sc ["self", "heads"]
 refine T.bC.F.ok sc ln (fun _ _ _ _ H vs Q E hr h=>?_)
 obtain⟨i,hi,p,a,nm,ns,is,os,hs,rfl,hP,hI,hS,hH,k⟩:=h
 refine⟨_,(aA (aO (fL (Gz rfl) (by rfl) T.xZ sy (aa (fL Km (by rfl) T.iC RQ (aa (bw bR (by rfl) T.eQ cP (aa (aY (pv 0) rfl) ak bD)) ak bf)) ak bf)))),?_⟩
 obtain⟨dx,tn,ti,to,hp,h2,h3,h4⟩:=id hP.ex
 have h3':=Hm i
 refine⟨_,rfl,p,cls t i,dx,_,.ref ti,rfl,hp,iJ T i,zQ T i,vD _ _ _ _,.ref ti,is.length,rfl,.inr ⟨is,h3,rfl⟩,_,rfl,fun r hr=>⟨r,is.length,rfl,az,by omega,fun l hl=>?_⟩⟩
 have e:(places i hs).map nV=Uz is.length:=by
  unfold places Uz
  rw [if_neg hi,hH.1,hI]
  rfl
 refine k _ l ((aB hr).trans (aB hl)) ((aB hr).free hl) ?_
 rw [e]
 exact az
theorem zO (T:Txt w K mg t):FO P w K mg base 1 t.mG ["self", "heads"] (oG K t 9):=by
 have sc:=T.jz.sc ["self", "heads"]
 refine T.jz.F.ok sc ln (fun _ _ _ _ H vs Q E hr h=>?_)
 obtain⟨p,a,nm,ns,is,os,hs,rfl,hP,hI,hS,hH,k⟩:=h
 refine⟨_,(ao (bO (gY (zR (aR aW (pv 1) aq (fun _ _=>rfl))))
   (aA (aO (bB (aa aq ak au))))
   bu)
  (aA (aO (bB (aa aq (aa (bc dm aq (bc cz (aR aW (pv 1) aq (fun _ _=>rfl)) aq)) ak bM) au))))),?_⟩
 have hl:sizeLine=16777216:=sizeLine_eq
 have hlen:hs.length=3:=hH.1
 match hs,hlen,hH with
 | h0:: r,hlen,hH=>
  have ea:Gk (h0:: r) 0=some h0:=aN (xs:=h0:: r) (j:=0) rfl
  rcases hH.2 h0 List.mem_cons_self with e | ⟨n,e⟩
  ·subst e
   refine⟨_,rfl,a,_,0,_,rfl,rfl,hS,ea,_,rfl,xR rfl ?_⟩
   exact⟨iZ,fun L hL=>k _ L (aB hL) hL az⟩
  ·subst e
   refine⟨_,rfl,a,_,0,_,rfl,rfl,hS,ea,_,rfl,dY (by intro z;cases z) ?_⟩
   refine⟨_,rfl,a,_,0,_,rfl,rfl,hS,ea,_,_,rfl,rfl,by show(0:Int) <2;decide,_,_,rfl,rfl,iZ,fun L hL=>k _ L (aB hL) hL ?_⟩
   have h0:=Int.emod_nonneg n (show(2:Int)≠0 by decide)
   have e1:(1:Int)+n % 2=((1+(n % 2).toNat:Nat):Int):=by omega
   rw [az]
   show some (HO.lst [.int 0,.int (1+n % 2)])=some (HO.lst [.int ((0:Nat):Int),.int ((1+(n % 2).toNat:Nat):Int)])
   rw [e1]
   rfl
theorem Hs (T:Txt w K mg t) (i:Nat):MethAt P w K mg base Fw 1 (cls t i) "taking" (oG K t i):=match i with
 | 0=>⟨_,_,_,T.iH.c,(T.bC.me T.iH.me.2.2.1),T.bC.b,(cZ T).imp fun _ _ _ _ h=>⟨_,by omega,h⟩⟩
 | 1=>⟨_,_,_,T.iD.c,(T.bC.me T.iD.me.2.2.1),T.bC.b,(cZ T).imp fun _ _ _ _ h=>⟨_,by omega,h⟩⟩
 | 2=>⟨_,_,_,T.iG.c,(T.bC.me T.iG.me.2.2.1),T.bC.b,(cZ T).imp fun _ _ _ _ h=>⟨_,by omega,h⟩⟩
 | 3=>⟨_,_,_,T.iQ.c,(T.bC.me T.iQ.me.2.2.1),T.bC.b,(cZ T).imp fun _ _ _ _ h=>⟨_,by omega,h⟩⟩
 | 4=>⟨_,_,_,T.iI.c,(T.bC.me T.iI.me.2.2.1),T.bC.b,(cZ T).imp fun _ _ _ _ h=>⟨_,by omega,h⟩⟩
 | 5=>⟨_,_,_,T.iY.c,(T.bC.me T.iY.me.2.2.1),T.bC.b,(cZ T).imp fun _ _ _ _ h=>⟨_,by omega,h⟩⟩
 | 6=>⟨_,_,_,T.lG.c,(T.bC.me T.lG.me.2.2.1),T.bC.b,(cZ T).imp fun _ _ _ _ h=>⟨_,by omega,h⟩⟩
 | 7=>⟨_,_,_,T.iW.c,(T.bC.me T.iW.me.2.2.1),T.bC.b,(cZ T).imp fun _ _ _ _ h=>⟨_,by omega,h⟩⟩
 | 8=>⟨_,_,_,T.fM.c,(T.bC.me T.fM.me.2.2.1),T.bC.b,(cZ T).imp fun _ _ _ _ h=>⟨_,by omega,h⟩⟩
 | 9=>⟨_,_,_,T.eG.c,(T.jz.me T.eG.me.2.2.1),T.jz.b,zO T⟩
 | n+10=>⟨_,_,_,T.fP.c,(T.bC.me T.fP.me.2.2.1),T.bC.b,(cZ T).imp fun _ _ _ _ h=>⟨_,by omega,h⟩⟩
inductive xq (K:PySem.W.Frag) (t:jd) (vs:List V) (H:Hp) (Q:VK) (E:XK):Prop where
 | mk:∀i,ym K t i vs H Q E->xq K t vs H Q E
theorem dg (T:Txt w K mg t):FO P w K mg base 2 t.cL ["self", "heads"] (xq K t):=by
 have sc:=T.bG.sc ["self", "heads", "place"]
 refine T.bG.F.ok sc ln (fun _ _ _ _ H vs Q E hr h=>?_)
 obtain⟨i,p,a,nm,ns,is,os,hs,rfl,hP,hI,hS,hH,k⟩:=h
 refine⟨_,(ao (dq PassesOwn.never rfl (bT (yR (CX:=Fw) (k:=1) (E:=E0) (pv 0) (hr.mono (by decide)) ik (aa (pv 1) ak aj))) (gN sc 2)
   (aA (bO (gY (zR (aR aW (pv 1) (pv 2) (fun _ _=>rfl))))
    (aA (aO (pv 2)))
    bu)))
  (aA (aO uf))),?_⟩
 obtain⟨dx,tn,ti,to,hp,h2,h3,h4⟩:=id hP.ex
 refine⟨_,rfl,p,cls t i,dx,_,oG K t i,rfl,hp,wj _ _ _ _ (by decide +kernel) (by decide +kernel) (by decide +kernel) (by decide +kernel),Hs T i,_,rfl,p,a,nm,ns,is,os,hs,rfl,hP,hI,hS,hH,fun H1 L s1 nL eL=>⟨L,rfl,⟨_,bH.of eL⟩,?_⟩⟩
 refine dD (K:=K) (a:=L) (xs:=(places i hs).map nV) (fun j σ H2=>H2=H1/\∃v,σ=[some (.ref p),some (.ref a),v]/\∀q∈(places i hs).take j,xG hs q=false)
  ⟨rfl,none,rfl,by simp⟩ (fun j σ H2 _ ⟨e,_⟩=>by rw [e];exact bH.of eL) ?_ ?_
 ·rintro j x σ H2 hx ⟨rfl,v,rfl,hno⟩
  rw [List.getElem?_map] at hx
  obtain⟨q,hq,rfl⟩:=Option.map_eq_some_iff.mp hx
  have hlt:=j5 hH q (List.mem_of_getElem? hq)
  obtain⟨hv,ev⟩:∃hv,hs[q]?=some hv:=⟨hs[q],List.getElem?_eq_getElem hlt⟩
  refine⟨_,rfl,_,rfl,a,hs,_,hv,rfl,rfl,s1.seq hS,aN ev,_,rfl,iu (fun hn=>?_) (fun hn=>?_)⟩
  ·have hn':hv=.non:=of_decide_eq_true hn
   refine⟨_,rfl,?_⟩
   have:=k H2 s1
   unfold O8 at this
   rw [Pz hq hno (by unfold xG;rw [ev,hn'];simp)] at this
   exact this
  ·have hn':¬hv=.non:=fun z=>hn (decide_eq_true z)
   refine⟨rfl,_,rfl,fun y hy=>?_⟩
   rw [List.take_add_one,hq] at hy
   rcases List.mem_append.mp hy with hy | hy
   ·exact hno y hy
   ·have e:y=q:=by simpa using hy
    subst e
    unfold xG
    rw [ev]
    simpa using hn'
 ·rintro σ H2 ⟨rfl,v,rfl,hno⟩
  have:=k H2 s1
  unfold O8 at this
  rw [lM,List.take_of_length_le (Nat.le_refl _)] at hno
  rw [V7 hno] at this
  exact this
inductive wU (K:PySem.W.Frag) (t:jd) (vs:List V) (H:Hp) (Q:VK) (E:XK):Prop where
 | mk:∀i,i≠5->ug K t i vs H Q E->wU K t vs H Q E
theorem dC (T:Txt w K mg t):FO P w K mg base 1 t.dh ["self"] (wU K t):=by
 have sc:=T.bJ.sc ["self"]
 refine T.bJ.F.ok sc ln (fun _ _ _ _ H vs Q E hr h=>?_)
 obtain⟨i,hi,p,nm,ns,is,os,rfl,hP,hn,k⟩:=h
 refine⟨_,(aA (aO aq)),?_⟩
 unfold J7 at k
 rw [if_neg hi] at k
 exact k
theorem GC (T:Txt w K mg t):FO P w K mg base 1 t.sW ["self"] (ug K t 5):=by
 have sc:=T.nC.sc ["self"]
 refine T.nC.F.ok sc ln (fun _ _ _ _ H vs Q E hr h=>?_)
 obtain⟨p,nm,ns,is,os,rfl,hP,hn,k⟩:=h
 refine⟨_,(aA (aO (aR Mi (aY (pv 0) rfl) aq (fun _ _=>rfl)))),?_⟩
 obtain⟨dx,tn,ti,to,hp,h2,h3,h4⟩:=id hP.ex
 match ns,hn with
 | v:: r,hn=>
  exact⟨_,rfl,p,cls t 5,dx,_,.ref tn,rfl,hp,iJ T 5,tG T 5,sJ _ _ _ _,.inr (.inl ⟨tn,_,0,v,rfl,rfl,h2,aN (xs:=v:: r) (j:=0) rfl,k⟩)⟩
theorem FZ (T:Txt w K mg t):FO P w K mg base 1 t.qX ["self", "values", "kept"] (eU K t 2):=by
 have sc:=T.km.sc ["self", "values", "kept"]
 refine T.km.F.ok sc ln (fun _ _ _ _ H vs Q E hr h=>?_)
 obtain⟨p,a,nm,ns,is,os,ws,kp,rfl,hP,ln,hS,lw,hB,k⟩:=h
 refine⟨_,(aA (aO (cM (aa (bB (aa (cM (aa aq (aa (aR aW (pv 1) aq (fun _ _=>rfl)) ak aF) au)) ak cW)) (aa (pv 2) ak aj) aX)))),?_⟩
 obtain⟨dx,tn,ti,to,hp,h2,h3,h4⟩:=id hP.ex
 match ws,lw with
 | [v],_=>
  have fin:∀H' L rs,aK H H'->H L=none->H' L=some (.lst (rs.map V.ref))->dz H' rs (J9 (cY 2 ns [v] kp))->∀U,H' U=none->Q (.ref U) (upd H' U (.tup [.ref L,.int (gf 2 [v] kp)])):=Fo k
  exact⟨_,rfl,a,_,0,_,rfl,rfl,hS,rfl,d9,fun t0 n0=>⟨one_le,fun L nL=>⟨_,rfl,d9,fun U nU=>zH (Q:=fun x H'=>∀U,H' U=none->Q (.ref U) (upd H' U (.tup [x,.int (gf 2 [v] kp)]))) rfl rfl fin n0 nL U nU⟩⟩⟩
theorem Dk (T:Txt w K mg t):FO P w K mg base 1 t.qN ["self", "values", "kept"] (eU K t 3):=by
 have sc:=T.kJ.sc ["self", "values", "kept"]
 refine T.kJ.F.ok sc ln (fun _ _ _ _ H vs Q E hr h=>?_)
 obtain⟨p,a,nm,ns,is,os,ws,kp,rfl,hP,ln,hS,lw,hB,k⟩:=h
 refine⟨_,(aA (aO (cM (aa (bB (aa (cM (aa aq (aa (aR aW (pv 1) aq (fun _ _=>rfl)) ak aF) au)) (aa (cM (aa aq (aa (aR aW (pv 1) aq (fun _ _=>rfl)) ak aF) au)) ak cW) cW)) (aa (pv 2) ak aj) aX)))),?_⟩
 obtain⟨dx,tn,ti,to,hp,h2,h3,h4⟩:=id hP.ex
 match ws,lw with
 | [v],_=>
  have fin:∀H' L rs,aK H H'->H L=none->H' L=some (.lst (rs.map V.ref))->dz H' rs (J9 (cY 3 ns [v] kp))->∀U,H' U=none->Q (.ref U) (upd H' U (.tup [.ref L,.int (gf 3 [v] kp)])):=Fo k
  exact⟨_,rfl,a,_,0,_,rfl,rfl,hS,rfl,d9,fun t0 n0=>⟨_,rfl,a,_,0,_,rfl,rfl,((aB n0).seq hS),rfl,d9,fun t1 n1=>⟨d9,fun L nL=>⟨_,rfl,d9,fun U nU=>WT (Q:=fun x H'=>∀U,H' U=none->Q (.ref U) (upd H' U (.tup [x,.int (gf 3 [v] kp)]))) rfl rfl rfl rfl fin n0 n1 nL U nU⟩⟩⟩⟩
theorem FJ (T:Txt w K mg t):FO P w K mg base 2 t.qW ["self", "values", "kept"] (eU K t 4):=by
 have sc:=T.lz.sc ["self", "values", "kept"]
 refine T.lz.F.ok sc ln (fun _ _ _ _ H vs Q E hr h=>?_)
 obtain⟨p,a,nm,ns,is,os,ws,kp,rfl,hP,ln,hS,lw,hB,k⟩:=h
 refine⟨_,(aA (aO (cM (aa (bB (aa (cM (aa aq (aa (dJ (JC T) T.Fq hr (aa (bc dm (bc jA (aR Mi (aY (pv 0) rfl) aq (fun _ _=>rfl)) (aR aW (pv 1) aq (fun _ _=>rfl))) (aR Mi (aY (pv 0) rfl) aq (fun _ _=>rfl))) ak bM)) ak bf) au)) ak cW)) (aa (pv 2) ak aj) aX)))),?_⟩
 obtain⟨dx,tn,ti,to,hp,h2,h3,h4⟩:=id hP.ex
 match ws,lw,ns,ln with
 | [v],_,[m,m1],_=>
  have fin:∀H' L rs,aK H H'->H L=none->H' L=some (.lst (rs.map V.ref))->dz H' rs (J9 (cY 4 [m,m1] [v] kp))->∀U,H' U=none->Q (.ref U) (upd H' U (.tup [.ref L,.int (gf 4 [v] kp)])):=Fo k
  exact⟨_,rfl,p,cls t 4,dx,_,.ref tn,rfl,hp,iJ T 4,tG T 4,sJ _ _ _ _,.inr (.inl ⟨tn,_,0,_,rfl,rfl,h2,rfl,_,rfl,a,_,0,_,rfl,rfl,hS,rfl,_,_,rfl,rfl,aat hB (by simp),_,rfl,p,cls t 4,dx,_,.ref tn,rfl,hp,iJ T 4,tG T 4,sJ _ _ _ _,.inr (.inl ⟨tn,_,1,_,rfl,rfl,h2,rfl,_,_,rfl,rfl,_,rfl,d9,fun t0 n0=>⟨one_le,fun L nL=>⟨_,rfl,d9,fun U nU=>zH (Q:=fun x H'=>∀U,H' U=none->Q (.ref U) (upd H' U (.tup [x,.int (gf 4 [v] kp)]))) rfl rfl fin n0 nL U nU⟩⟩⟩)⟩)⟩
theorem Fj (T:Txt w K mg t):FO P w K mg base 2 t.qO ["self", "values", "kept"] (eU K t 5):=by
 have sc:=T.lg.sc ["self", "values", "kept", "together"]
 refine T.lg.F.ok sc ln (fun _ _ _ _ H vs Q E hr h=>?_)
 obtain⟨p,a,nm,ns,is,os,ws,kp,rfl,hP,ln,hS,lw,hB,k⟩:=h
 refine⟨_,(ao (sN sc 3 (dJ (JC T) T.Fq hr (aa (bc dm (pv 2) (aR aW (pv 1) aq (fun _ _=>rfl))) ak bM)))
  (aA (aO (cM (aa (bB (aa (cM (aa aq (aa (pv 3) ak aj) au)) ak cW)) (aa (pv 3) ak aj) aX))))),?_⟩
 obtain⟨dx,tn,ti,to,hp,h2,h3,h4⟩:=id hP.ex
 match ws,lw with
 | [v],_=>
  have fin:∀H' L rs,aK H H'->H L=none->H' L=some (.lst (rs.map V.ref))->dz H' rs (J9 (cY 5 ns [v] kp))->∀U,H' U=none->Q (.ref U) (upd H' U (.tup [.ref L,.int (gf 5 [v] kp)])):=Fo k
  exact⟨_,rfl,_,rfl,a,_,0,_,rfl,rfl,hS,rfl,_,_,rfl,rfl,_,rfl,_,rfl,d9,fun t0 n0=>⟨one_le,fun L nL=>⟨_,rfl,d9,fun U nU=>zH (Q:=fun x H'=>∀U,H' U=none->Q (.ref U) (upd H' U (.tup [x,.int (gf 5 [v] kp)]))) rfl rfl fin n0 nL U nU⟩⟩⟩
theorem Gp (T:Txt w K mg t):FO P w K mg base 2 t.sG ["self", "values", "kept"] (eU K t 6):=by
 have sc:=T.nH.sc ["self", "values", "kept"]
 refine T.nH.F.ok sc ln (fun _ _ _ _ H vs Q E hr h=>?_)
 obtain⟨p,a,nm,ns,is,os,ws,kp,rfl,hP,ln,hS,lw,hB,k⟩:=h
 refine⟨_,(aA (aO (cM (aa (bB (aa (cM (aa aq (aa (dJ (JC T) T.Fq hr (aa (bc dm (aR aW (pv 1) aq (fun _ _=>rfl)) (aR aW (pv 1) aq (fun _ _=>rfl))) ak bM)) ak bf) au)) ak cW)) (aa (pv 2) ak aj) aX)))),?_⟩
 obtain⟨dx,tn,ti,to,hp,h2,h3,h4⟩:=id hP.ex
 match ws,lw with
 | [v,v1],_=>
  have fin:∀H' L rs,aK H H'->H L=none->H' L=some (.lst (rs.map V.ref))->dz H' rs (J9 (cY 6 ns [v,v1] kp))->∀U,H' U=none->Q (.ref U) (upd H' U (.tup [.ref L,.int (gf 6 [v,v1] kp)])):=Fo k
  exact⟨_,rfl,a,_,0,_,rfl,rfl,hS,rfl,_,rfl,a,_,1,_,rfl,rfl,hS,rfl,_,_,rfl,rfl,_,rfl,d9,fun t0 n0=>⟨one_le,fun L nL=>⟨_,rfl,d9,fun U nU=>zH (Q:=fun x H'=>∀U,H' U=none->Q (.ref U) (upd H' U (.tup [x,.int (gf 6 [v,v1] kp)]))) rfl rfl fin n0 nL U nU⟩⟩⟩
theorem Ga (T:Txt w K mg t):FO P w K mg base 1 t.qM ["self", "values", "kept"] (eU K t 7):=by
 have sc:=T.lu.sc ["self", "values", "kept"]
 refine T.lu.F.ok sc ln (fun _ _ _ _ H vs Q E hr h=>?_)
 obtain⟨p,a,nm,ns,is,os,ws,kp,rfl,hP,ln,hS,lw,hB,k⟩:=h
 refine⟨_,(aA (aO (cM (aa (bB (aa (cM (aa aq (aa (pC (aZ yZ (aR aW (pv 1) aq (fun _ _=>rfl)) (aR aW (pv 1) aq (fun _ _=>rfl)) (bF _)) aq aq) ak Nr) au)) ak cW)) (aa (pv 2) ak aj) aX)))),?_⟩
 obtain⟨dx,tn,ti,to,hp,h2,h3,h4⟩:=id hP.ex
 match ws,lw with
 | [v,v1],_=>
  have fin:∀H' L rs,aK H H'->H L=none->H' L=some (.lst (rs.map V.ref))->dz H' rs (J9 (cY 7 ns [v,v1] kp))->∀U,H' U=none->Q (.ref U) (upd H' U (.tup [.ref L,.int (gf 7 [v,v1] kp)])):=Fo k
  refine⟨_,rfl,a,_,0,_,rfl,rfl,hS,rfl,_,rfl,a,_,1,_,rfl,rfl,hS,rfl,_,_,rfl,rfl,_,rfl,iu (fun h=>?_) (fun h=>?_)⟩
  ·have h':v <v1:=of_decide_eq_true h
   exact⟨d9,fun t0 n0=>⟨one_le,fun L nL=>⟨_,rfl,d9,fun U nU=>zH (Q:=fun x H'=>∀U,H' U=none->Q (.ref U) (upd H' U (.tup [x,.int (gf 7 [v,v1] kp)]))) rfl (by show(1:Int)=if v <v1 then 1 else 0;rw [if_pos h']) fin n0 nL U nU⟩⟩⟩
  ·have h':¬v <v1:=fun z=>h (decide_eq_true z)
   exact⟨d9,fun t0 n0=>⟨one_le,fun L nL=>⟨_,rfl,d9,fun U nU=>zH (Q:=fun x H'=>∀U,H' U=none->Q (.ref U) (upd H' U (.tup [x,.int (gf 7 [v,v1] kp)]))) rfl (by show(0:Int)=if v <v1 then 1 else 0;rw [if_neg h']) fin n0 nL U nU⟩⟩⟩
theorem Ck (T:Txt w K mg t):FO P w K mg base 1 t.oV ["self", "values", "kept"] (eU K t 8):=by
 have sc:=T.jN.sc ["self", "values", "kept"]
 refine T.jN.F.ok sc ln (fun _ _ _ _ H vs Q E hr h=>?_)
 obtain⟨p,a,nm,ns,is,os,ws,kp,rfl,hP,ln,hS,lw,hB,k⟩:=h
 refine⟨_,(aA (aO (cM (aa (bB (aa (cM (aa aq (aa (bw (QZ rfl) (by rfl) T.Y7 Xw (aa (pv 1) ak aj)) ak bf) au)) (aa (cM (aa aq (aa (bw (Qk rfl) (by rfl) T.RT Ms (aa (pv 1) ak aj)) ak bf) au)) ak cW) cW)) (aa (pv 2) ak aj) aX)))),?_⟩
 obtain⟨dx,tn,ti,to,hp,h2,h3,h4⟩:=id hP.ex
 match ws,lw with
 | [v,v1],_=>
  have fin:∀H' L rs,aK H H'->H L=none->H' L=some (.lst (rs.map V.ref))->dz H' rs (J9 (cY 8 ns [v,v1] kp))->∀U,H' U=none->Q (.ref U) (upd H' U (.tup [.ref L,.int (gf 8 [v,v1] kp)])):=Fo k
  exact⟨_,rfl,a,v,v1,rfl,hS,d9,fun t0 n0=>⟨_,rfl,a,v,v1,rfl,(aB n0).seq hS,d9,fun t1 n1=>⟨d9,fun L nL=>⟨_,rfl,d9,fun U nU=>WT (Q:=fun x H'=>∀U,H' U=none->Q (.ref U) (upd H' U (.tup [x,.int (gf 8 [v,v1] kp)]))) rfl rfl rfl rfl fin n0 n1 nL U nU⟩⟩⟩⟩
theorem zK (T:Txt w K mg t):FO P w K mg base 1 t.my ["self", "values", "kept"] (eU K t 9):=by
 have sc:=T.jB.sc ["self", "values", "kept"]
 refine T.jB.F.ok sc ln (fun _ _ _ _ H vs Q E hr h=>?_)
 obtain⟨p,a,nm,ns,is,os,ws,kp,rfl,hP,ln,hS,lw,hB,k⟩:=h
 refine⟨_,(aA (aO (cM (aa (bB (aa (cM (aa aq (aa (aR aW (pv 1) aq (fun _ _=>rfl)) ak aF) au)) ak cW)) (aa (pv 2) ak aj) aX)))),?_⟩
 obtain⟨dx,tn,ti,to,hp,h2,h3,h4⟩:=id hP.ex
 match ws,lw with
 | [v,v1],_=>
  have fin:∀H' L rs,aK H H'->H L=none->H' L=some (.lst (rs.map V.ref))->dz H' rs (J9 (cY 9 ns [v,v1] kp))->∀U,H' U=none->Q (.ref U) (upd H' U (.tup [.ref L,.int (gf 9 [v,v1] kp)])):=Fo k
  exact⟨_,rfl,a,_,1,_,rfl,rfl,hS,rfl,d9,fun t0 n0=>⟨one_le,fun L nL=>⟨_,rfl,d9,fun U nU=>zH (Q:=fun x H'=>∀U,H' U=none->Q (.ref U) (upd H' U (.tup [x,.int (gf 9 [v,v1] kp)]))) rfl rfl fin n0 nL U nU⟩⟩⟩
theorem Cq (T:Txt w K mg t):FO P w K mg base 1 t.o8 ["self", "values", "kept"] (eU K t 10):=by
 have sc:=T.jQ.sc ["self", "values", "kept"]
 refine T.jQ.F.ok sc ln (fun _ _ _ _ H vs Q E hr h=>?_)
 obtain⟨p,a,nm,ns,is,os,ws,kp,rfl,hP,ln,hS,lw,hB,k⟩:=h
 refine⟨_,(aA (aO (cM (aa (bB (aa (cM (aa (bc cz (aR aW (pv 1) aq (fun _ _=>rfl)) aq) (aa (aR aW (pv 1) aq (fun _ _=>rfl)) ak aF) bM)) ak cW)) (aa (pv 2) ak aj) aX)))),?_⟩
 obtain⟨dx,tn,ti,to,hp,h2,h3,h4⟩:=id hP.ex
 match ws,lw with
 | [v,v1],_=>
  have fin:∀H' L rs,aK H H'->H L=none->H' L=some (.lst (rs.map V.ref))->dz H' rs (J9 (cY 10 ns [v,v1] kp))->∀U,H' U=none->Q (.ref U) (upd H' U (.tup [.ref L,.int (gf 10 [v,v1] kp)])):=Fo k
  exact⟨_,rfl,a,_,0,_,rfl,rfl,hS,rfl,_,_,rfl,rfl,by show(0:Int) <2;decide,_,rfl,a,_,1,_,rfl,rfl,hS,rfl,d9,fun t0 n0=>⟨one_le,fun L nL=>⟨_,rfl,d9,fun U nU=>zH (Q:=fun x H'=>∀U,H' U=none->Q (.ref U) (upd H' U (.tup [x,.int (gf 10 [v,v1] kp)]))) rfl rfl fin n0 nL U nU⟩⟩⟩
theorem Dj (T:Txt w K mg t):FO P w K mg base 1 t.qJ ["self", "values", "kept"] (eU K t 0):=by
 have sc:=T.kI.sc ["self", "values", "kept"]
 refine T.kI.F.ok sc ln (fun _ _ _ _ H vs Q E hr h=>?_)
 obtain⟨p,a,nm,ns,is,os,ws,kp,rfl,hP,ln,hS,lw,hB,k⟩:=h
 refine⟨_,(aA (aO (cM (aa (bB (aa (cM (aa aq (aa (aR aW (pv 1) aq (fun _ _=>rfl)) ak aF) au)) ak cW)) (aa (pv 2) ak aj) aX)))),?_⟩
 obtain⟨dx,tn,ti,to,hp,h2,h3,h4⟩:=id hP.ex
 match ws,lw with
 | [v],_=>
  have fin:∀H' L rs,aK H H'->H L=none->H' L=some (.lst (rs.map V.ref))->dz H' rs (J9 (cY 0 ns [v] kp))->∀U,H' U=none->Q (.ref U) (upd H' U (.tup [.ref L,.int (gf 0 [v] kp)])):=Fo k
  exact⟨_,rfl,a,_,0,_,rfl,rfl,hS,rfl,d9,fun t0 n0=>⟨one_le,fun L nL=>⟨_,rfl,d9,fun U nU=>zH (Q:=fun x H'=>∀U,H' U=none->Q (.ref U) (upd H' U (.tup [x,.int (gf 0 [v] kp)]))) rfl rfl fin n0 nL U nU⟩⟩⟩
theorem DX (T:Txt w K mg t):FO P w K mg base 1 t.rA ["self", "values", "kept"] (eU K t 1):=by
 have sc:=T.lB.sc ["self", "values", "kept"]
 refine T.lB.F.ok sc ln (fun _ _ _ _ H vs Q E hr h=>?_)
 obtain⟨p,a,nm,ns,is,os,ws,kp,rfl,hP,ln,hS,lw,hB,k⟩:=h
 refine⟨_,(aA (aO (cM (aa (bB ak) (aa (pv 2) ak aj) aX)))),?_⟩
 obtain⟨dx,tn,ti,to,hp,h2,h3,h4⟩:=id hP.ex
 match ws,lw with
 | [v],_=>
  have fin:∀H' L rs,aK H H'->H L=none->H' L=some (.lst (rs.map V.ref))->dz H' rs (J9 (cY 1 ns [v] kp))->∀U,H' U=none->Q (.ref U) (upd H' U (.tup [.ref L,.int (gf 1 [v] kp)])):=Fo k
  exact⟨by show 0<=sizeLine;decide,fun L nL=>⟨_,rfl,d9,fun U nU=>fin _ L [] (aB nL) nL az .nil U nU⟩⟩
inductive Aw (vs:List V) (H:Hp) (Q:VK) (E:XK):Prop where
 | mk:∀a b:Int,vs=[.int a,.int b]->Q (.int (cg a b)) H->Aw vs H Q E
theorem bj (T:Txt w K mg t):FO P w K mg base 1 t.Ft ["_law_cell_here", "_law_k"] (Aw):=by
 have sc:=T.bx.sc ["_law_cell_here", "_law_k", "_law_number"]
 refine T.bx.F.ok sc ln (fun _ _ _ _ H vs Q E hr h=>?_)
 obtain⟨a,b,rfl,k⟩:=h
 refine⟨_,(ao (sN sc 2 (bc cz (bc dm (bc dm (bc jA (bc cz (pv 0) aq) aq) (bc jA aq (pv 1))) aq) aq))
  (ao (sN sc 2 (bc cz (bc jA (pv 2) (pv 2)) aq))
  (aA (aO (bc cz (bc jA (bc dm (pv 2) (bc jA aq (pv 1))) (pv 2)) aq))))),?_⟩
 refine⟨_,rfl,_,_,rfl,rfl,by show(0:Int) <2147483647;decide,_,_,rfl,rfl,Ja,_,rfl,_,_,rfl,rfl,gP,_,_,rfl,rfl,_,_,rfl,rfl,_,_,rfl,rfl,by show(0:Int) <2147483647;decide,?_⟩
 unfold cg at k
 have y0:0<=(a % 2147483647 * 48271+7919 * b+11) % 2147483647:=Int.emod_nonneg _ (by decide)
 have y1:(a % 2147483647 * 48271+7919 * b+11) % 2147483647 <2147483647:=Int.emod_lt_of_pos _ (by decide)
 refine⟨_,rfl,_,rfl,_,_,rfl,rfl,.of_right (intBits_le_64 (Int.lt_of_lt_of_le (show -(2 ^ 64) <(0:Int) by decide) y0) (Int.lt_trans y1 (by decide))),_,_,rfl,rfl,by show(0:Int) <2147483629;decide,?_⟩
 have z0:0<=((a % 2147483647 * 48271+7919 * b+11) % 2147483647) * ((a % 2147483647 * 48271+7919 * b+11) % 2147483647) % 2147483629:=Int.emod_nonneg _ (by decide)
 have z1:((a % 2147483647 * 48271+7919 * b+11) % 2147483647) * ((a % 2147483647 * 48271+7919 * b+11) % 2147483647) % 2147483629 <2147483629:=Int.emod_lt_of_pos _ (by decide)
 exact⟨_,rfl,_,rfl,_,_,rfl,rfl,gP,_,_,rfl,rfl,_,rfl,_,_,rfl,rfl,.of_right (intBits_le_64 (Int.lt_of_lt_of_le (show -(2 ^ 64) <(0:Int) by decide) z0) (Int.lt_trans z1 (by decide))),_,_,rfl,rfl,by show(0:Int) <2147483587;decide,k⟩
inductive yx (K:PySem.W.Frag) (vs:List V) (H:Hp) (Q:VK) (E:XK):Prop where
 | mk:∀(a:Addr) (ns:List Int) (j:Nat),vs=[.ref a,.int (j:Nat)]->bH K H a (ns.map V.int)->Q (.int (jP ns j)) H->yx K vs H Q E
theorem jc (T:Txt w K mg t):FO P w K mg base 1 t.BL ["_law_script", "_law_k"] (yx K):=by
 have sc:=T.gU.sc ["_law_script", "_law_k"]
 refine T.gU.F.ok sc ln (fun _ _ _ _ H vs Q E hr h=>?_)
 obtain⟨a,ns,j,rfl,hS,k⟩:=h
 refine⟨_,(ao (bO (aZ yZ (pv 1) (bw bR (by rfl) T.eQ cP (aa (pv 0) ak aj)) (bF _))
   (aA (aO (aR aW (pv 0) (pv 1) (fun _ _=>rfl))))
   bu)
  (aA (aO (bc dm (bc jA aq (pv 1)) aq)))),?_⟩
 unfold jP at k
 refine⟨_,rfl,_,rfl,.ref a,ns.length,rfl,.inl ⟨_,hS,by simp⟩,_,_,rfl,rfl,_,rfl,iu (fun h=>?_) (fun h=>?_)⟩
 ·have h':j <ns.length:=by have:=of_decide_eq_true h;omega
  rw [List.getElem?_eq_getElem h'] at k
  exact⟨_,rfl,_,rfl,a,_,j,_,rfl,rfl,hS,aN (by rw [List.getElem?_map,List.getElem?_eq_getElem h'];rfl),k⟩
 ·have h':¬j <ns.length:=fun z=>h (decide_eq_true (by omega))
  rw [List.getElem?_eq_none (by omega)] at k
  exact⟨_,rfl,_,_,rfl,rfl,gP,_,_,rfl,rfl,k⟩
inductive xJ (vs:List V) (H:Hp) (Q:VK) (E:XK):Prop where
 | mk:∀a b:Int,vs=[.int a,.int b]->Q (.int (qZ a b)) H->xJ vs H Q E
theorem iw (T:Txt w K mg t):FO P w K mg base 2 t.zz ["_law_cell_here", "_law_k"] (xJ):=by
 have sc:=T.fO.sc ["_law_cell_here", "_law_k", "_law_number", "_law_way"]
 refine T.fO.F.ok sc ln (fun _ _ _ _ H vs Q E hr h=>?_)
 obtain⟨a,b,rfl,k⟩:=h
 refine⟨_,(ao (sN sc 2 (dJ (bj T) T.bx hr (aa (pv 0) (aa (pv 1) ak aj) aj)))
  (ao (sN sc 3 (bc cz (bc Te (pv 2) aq) aq))
  (ao (bO (aZ eY (pv 3) aq (bF _))
   (aA (aO (bc cz (pv 2) aq)))
   bu)
  (ao (bO (aZ eY (pv 3) aq (bF _))
   (aA (aO (bc cz (pv 2) (bc M6 aq aq))))
   bu)
  (aA (aO (bc Nu (bc Nu (bc M6 aq aq) aq) (bc cz (pv 2) aq)))))))),?_⟩
 refine⟨_,rfl,_,rfl,a,b,rfl,?_⟩
 unfold qZ at k
 have n0:=Bf a b
 generalize cg a b=n at n0 k ⊢
 refine⟨_,rfl,_,_,rfl,rfl,Zn (by decide) (by decide),_,_,rfl,rfl,by show(0:Int) <3;decide,?_⟩
 refine⟨_,rfl,rfl,_,rfl,iu (fun h=>?_) (fun h=>?_)⟩
 ·have h':n / 7 % 3=0:=by simpa using of_decide_eq_true h
  rw [if_pos h'] at k
  exact⟨_,rfl,_,_,rfl,rfl,by show(0:Int) <5;decide,k⟩
 have h':¬n / 7 % 3=0:=fun z=>h (decide_eq_true (by show V.int (n / 7 % 3)=V.int 0;rw [z]))
 rw [if_neg h'] at k
 refine⟨_,rfl,rfl,_,rfl,iu (fun h2=>?_) (fun h2=>?_)⟩
 ·have h2':n / 7 % 3=1:=by simpa using of_decide_eq_true h2
  rw [if_pos h2'] at k
  exact⟨_,rfl,_,_,rfl,rfl,⟨by decide,by decide,by decide⟩,_,_,rfl,rfl,by show(0:Int) <10 ^ 9;decide,k⟩
 have h2':¬n / 7 % 3=1:=fun z=>h2 (decide_eq_true (by show V.int (n / 7 % 3)=V.int 1;rw [z]))
 rw [if_neg h2'] at k
 exact⟨_,_,rfl,rfl,⟨by decide,by decide,by decide⟩,_,_,rfl,rfl,_,rfl,_,_,rfl,rfl,by show(0:Int) <3;decide,_,_,rfl,rfl,k⟩
theorem Pb {x y:Str} (h:x.cps.toList=y.cps.toList):x=y:=PyProof.Rows.ext_toList h
theorem Qj {n:Int} (h0:0<=n) (h1:n <2000):n.natAbs.log2 <1920:=by
 by_cases z:n.natAbs=0
 ·rw [z]
  decide
 ·have:n.natAbs.log2 <11:=(Nat.log2_lt z).mpr (by omega)
  omega
theorem join_ones (cs:List Nat):(Txt.join Str.empty (cs.map fun c=>(⟨#[c]⟩:Str))).cps.toList=cs:=by
 unfold Txt.join
 rw [StrLaws.glued_eq_join,Ea]
 induction cs with
 | nil=>rfl
 | cons c r ih=>simpa using ih
theorem Ye {x:Str} {n:Nat} (h:n<=x.length):(Txt.slice x none (some (n:Int))).cps.toList=x.cps.toList.take n:=by
 have e:=beq_iff_eq.mp (PyProof.Rows.slice_closes_toL (x:=x) (j:=(n:Int)) (by omega) (by omega))
 rw [e]
 simp
theorem SN {x:Str} {n:Nat} (h:n<=x.length):(Txt.slice x (some (n:Int)) none).cps.toList=x.cps.toList.drop n:=by
 have e:=PyProof.Rows.slice_from_eq (x:=x) (i:=(n:Int)) (b:=(x.length:Int)) (by omega) (by omega) rfl
 rw [e]
 show List.take ((x.length:Int) - n).toNat (List.drop ((n:Int)).toNat x.cps.toList)=_
 rw [Int.toNat_natCast,List.take_of_length_le (by rw [List.length_drop,n8];omega)]
inductive yw (vs:List V) (H:Hp) (Q:VK) (E:XK):Prop where
 | mk:∀(a:Int) (b:Nat),vs=[.int a,.int (b:Nat)]->b<=25->(∀H':Hp,aK H H'->Q (.str (cT a b)) H')->yw vs H Q E
noncomputable abbrev BR:List Str:=["_law_cell_here", "_law_k", "_law_letters", "_law_many", "_law_base", "_law_at"]
theorem nY (T:Txt w K mg t):FO P w K mg base 2 t.Al ["_law_cell_here", "_law_k"] (yw):=by
 have sc:=T.jH.sc BR
 refine T.jH.F.ok sc ln (fun _ _ _ _ H vs Q E hr h=>?_)
 obtain⟨a,b,rfl,b1,k⟩:=h
 refine⟨_,(ao (sN sc 2 bK)
  (ao (bO (aZ eY (bc cz (dJ (bj T) T.bx hr (aa (pv 0) (aa aq ak au) aj)) aq) aq (bF _))
   (aA (aO (bc xO (aR Em (pv 2) (bc cz (dJ (bj T) T.bx hr (aa (pv 0) (aa aq ak au) aj)) aq) (fun _ _=>rfl)) (fL Ik (by rfl) T.W0 Rm (aa (bc dm (bc cz (dJ (bj T) T.bx hr (aa (pv 0) (aa aq ak au) aj)) aq) (bc jA aq (pv 1))) ak bM)))))
   bu)
  (ao (sN sc 3 (bc cz (dJ (bj T) T.bx hr (aa (pv 0) (aa aq ak au) aj)) aq))
  (ao (sN sc 4 (yG PySem.F.plainAttrs_str PySem.F.slot_str_join PySem.F.type_str_join VL bK (aa (eN [0,2] BR (aV (top 75)) rfl (fC rfl T.iC (aa (pv 3) ak aj)) (fun _ _ _ _ _=>gM) (fun _ _ _ _ _=>(aR Em (pv 2) (bc cz (dJ (bj T) T.bx hr (aa (pv 1) (aa (bc dm aq (pv 0)) ak bM) aj)) aq) (fun _ _=>rfl)))) ak fB)))
  (ao (sN sc 5 (bc cz (dJ (bj T) T.bx hr (aa (pv 0) (aa aq ak au) aj)) (bc dm (pv 3) aq)))
  (aA (aO (bc xO (bc xO (jl Uu (pv 4) m8 (jU (pv 5))) (aR Em (pv 2) (bc cz (bc dm (dJ (bj T) T.bx hr (aa (pv 0) (aa aq ak au) aj)) (pv 1)) aq) (fun _ _=>rfl))) (jl Uu (pv 4) (jU (pv 5)) m8))))))))),?_⟩
 have hl:sizeLine=16777216:=sizeLine_eq
 have hF:(cT a b).cps.toList=Bu a b:=Eu a b
 unfold Bu at hF
 refine⟨_,rfl,_,_,rfl,⟨_,_,rfl,rfl,by show(0:Int) <3;decide,rfl,_,rfl,iu (fun hw=>?_) (fun hw=>?_)⟩⟩
 ·have hw':cg a 52 % 3=0:=by simpa using of_decide_eq_true hw
  rw [if_pos hw'] at hF
  refine⟨_,rfl,_,rfl,_,_,rfl,?_⟩
  refine⟨_,_,rfl,rfl,by show(0:Int) <26;decide,LT,_,_,rfl,rfl,by rw [NQ];omega,Ug _,?_⟩
  refine⟨_,rfl,_,_,rfl,⟨_,_,rfl,rfl,by show(0:Int) <1000;decide,_,rfl,_,_,rfl,rfl,gP,_,_,rfl,rfl,?_⟩⟩
  have q0:=Int.emod_nonneg (cg a 54) (show(1000:Int)≠0 by decide)
  have q1:=Int.emod_lt_of_pos (cg a 54) (show(0:Int) <1000 by decide)
  obtain⟨m,hm⟩:∃m:Nat,cg a 54 % 1000+37 * (b:Int)=(m:Int):=⟨(cg a 54 % 1000+37 * (b:Int)).toNat,by omega⟩
  obtain⟨_,g2,_⟩:=wg (n:=m) (by omega)
  have g3:(toString (m:Int):Str).length<=4:=by rw [<-n8];exact g2
  have e:(⟨#[K9 (cg a 53)]⟩:Str) ++ (toString (m:Int):Str)=cT a b:=Pb (by
   rw [hF,Str.cps_append,hm,Int.toNat_natCast]
   simp only [Array.toList_append]
   rfl)
  have k':=k H (aK.refl _)
  rw [<-e] at k'
  dsimp only
  rw [hm]
  exact⟨_,rfl,Qj (by omega) (by omega),_,_,rfl,rfl,by show 1+_<=sizeLine;omega,k'⟩
 have hw':¬cg a 52 % 3=0:=fun z=>hw (decide_eq_true (by show V.int (cg a 52 % 3)=V.int 0;rw [z]))
 rw [if_neg hw'] at hF
 refine⟨_,rfl,_,_,rfl,⟨_,_,rfl,rfl,by show(0:Int) <7;decide,?_⟩⟩
 have z0:=Int.emod_nonneg (cg a 50) (show(7:Int)≠0 by decide)
 have z1:=Int.emod_lt_of_pos (cg a 50) (show(0:Int) <7 by decide)
 refine⟨rfl,_,rfl,cg a 50 % 7,rfl,by omega,by omega,?_⟩
 refine jE (fun i ys H'=>H'=H/\ys=((List.range i).map fun j=>K9 (cg a (60+(j:Nat)))).map fun c=>V.str ⟨#[c]⟩) (by omega) ⟨rfl,rfl⟩ (fun i ys H' ⟨_,e⟩=>by rw [e,lM,lM,List.length_range];omega) ?_ ?_
 ·rintro i ys H' hi ⟨rfl,rfl⟩
  refine yes ?_
  refine⟨_,rfl,_,rfl,_,rfl,_,_,rfl,rfl,_,_,rfl,?_⟩
  refine⟨_,_,rfl,rfl,by show(0:Int) <26;decide,LT,_,_,rfl,rfl,by rw [NQ];omega,Ug _,rfl,?_⟩
  rw [List.range_succ,List.map_append,List.map_append]
  simp
 rintro ys H' ⟨rfl,rfl⟩ D hD
 have eb:((List.range (cg a 50 % 7).toNat).map fun j=>K9 (cg a (60+(j:Nat))))=gQ a:=rfl
 rw [eb]
 have s1:aK H' (upd H' D (.lst ((gQ a).map fun c=>V.str ⟨#[c]⟩))):=aB hD
 have bl:=(FN a).1
 have es:((gQ a).map fun c=>V.str ⟨#[c]⟩)=((gQ a).map fun c=>(⟨#[c]⟩:Str)).map V.str:=by rw [List.map_map];rfl
 refine⟨Str.empty,D,(gQ a).map fun c=>(⟨#[c]⟩:Str),rfl,rfl,bH.of (by rw [<-es];exact az),?_,?_⟩
 ·have:=Tj (n:=1) ((gQ a).map fun c=>(⟨#[c]⟩:Str)) fun w h=>by
   obtain⟨c,_,rfl⟩:=List.mem_map.mp h
   exact Nat.le_refl 1
  have he:Str.empty.length=0:=rfl
  rw [he]
  rw [lM] at this
  omega
 have ej:=join_ones (gQ a)
 generalize upd H' D (.lst ((gQ a).map fun c=>V.str ⟨#[c]⟩))=H1 at s1 ⊢
 generalize Txt.join Str.empty ((gQ a).map fun c=>(⟨#[c]⟩:Str))=x0 at ej ⊢
 have hx0:x0.length=(gQ a).length:=by rw [<-n8,ej]
 refine⟨_,rfl,_,_,rfl,⟨_,rfl,_,_,rfl,rfl,_,_,rfl,rfl,by show(0:Int) <cg a 50 % 7+1;omega,?_⟩⟩
 have hsp:=Oa a
 obtain⟨n,hn,hn2⟩:∃n:Nat,cg a 51 % (cg a 50 % 7+1)=(n:Int)/\n=qp a:=⟨qp a,(Int.toNat_of_nonneg (Int.emod_nonneg _ (by omega))).symm,rfl⟩
 rw [<-hn2] at hsp hF
 dsimp only
 rw [hn]
 have s0:=Txt.slice_le x0 none (some (n:Int))
 have s2:=Txt.slice_le x0 (some (n:Int)) none
 refine⟨_,rfl,_,rfl,_,rfl,x0,rfl,by omega,_,rfl,_,rfl,_,_,rfl,⟨_,rfl,_,_,rfl,rfl,?_⟩⟩
 have h1:(⟨#[K9 (cg a 55+(b:Int))]⟩:Str).length=1:=rfl
 refine⟨_,_,rfl,rfl,by show(0:Int) <26;decide,LT,_,_,rfl,rfl,by rw [NQ];omega,Ug _,_,_,rfl,rfl,by rw [h1];omega,?_⟩
 refine⟨_,rfl,_,rfl,_,rfl,x0,rfl,by omega,_,_,rfl,rfl,by rw [Str.length_append,h1];omega,?_⟩
 have e:Txt.slice x0 none (some (n:Int)) ++ (⟨#[K9 (cg a 55+(b:Int))]⟩:Str) ++ Txt.slice x0 (some (n:Int)) none=cT a b:=Pb (by
  rw [hF,Str.cps_append,Str.cps_append]
  simp only [Array.toList_append]
  rw [Ye (by omega),SN (by omega),ej]
  simp)
 rw [e]
 exact k H1 s1
theorem ZQ (m:Int):∃c:Nat,Gk [V.int 0,.int 0,.int 0,.int 1,.int 2] (m % 5)=some (.int (c:Nat))/\c<=2:=by
 have key:∀j,j <5->Gk [V.int 0,.int 0,.int 0,.int 1,.int 2] ((j:Nat):Int)=some (.int (([0,0,0,1,2]:List Nat).getD j 0:Nat))/\([0,0,0,1,2]:List Nat).getD j 0<=2:=by decide +kernel
 obtain⟨j,e,hj⟩:=N7 m (n:=5) (k:=5) (by decide) rfl
 rw [e]
 exact⟨_,key j hj⟩
theorem YS (m:Int):∃c:Nat,Gk [V.int 0,.int 0,.int 1,.int 1,.int 2,.int 7] (m % 6)=some (.int (c:Nat))/\c<=7:=by
 have key:∀j,j <6->Gk [V.int 0,.int 0,.int 1,.int 1,.int 2,.int 7] ((j:Nat):Int)=some (.int (([0,0,1,1,2,7]:List Nat).getD j 0:Nat))/\([0,0,1,1,2,7]:List Nat).getD j 0<=7:=by decide +kernel
 obtain⟨j,e,hj⟩:=N7 m (n:=6) (k:=6) (by decide) rfl
 rw [e]
 exact⟨_,key j hj⟩
inductive yq (vs:List V) (H:Hp) (Q:VK) (E:XK):Prop where
 | mk:∀(d:Dw) (ls:List aH) (ps:List PD) (os:List Str) (c:Int) (b:Bool),vs=[.ref d.S,.int c,.bl b]->mZ d H ls ps os->ls.length<=24->(∀(l:aH) (H':Hp),l.name=cT d.c3 ls.length->aK (bA d.E H) (bA d.E H')->mZ d H' (ls ++ [l]) ps os->Q (.str l.name) H')->yq vs H Q E
noncomputable abbrev Bm:List Str:=["_law_state", "_law_cell_here", "_law_back", "_law_many", "_law_first", "_law_room", "_law_name"]
theorem jR (T:Txt w K mg t):FO P w K mg base 3 t.Bc ["_law_state", "_law_cell_here", "_law_back"] (yq):=by
 have sc:=T.iM.sc Bm
 refine T.iM.F.ok sc ln (fun _ _ _ _ H vs Q E hr h=>?_)
 obtain⟨d,ls,ps,os,c,b,rfl,D,hn,k⟩:=h
 refine⟨_,(ao (sN sc 3 (aR aW (bB (aa aq (aa aq (aa aq (aa aq (aa aq ak au) au) au) au) au)) (bc cz (dJ (bj T) T.bx hr (aa (pv 1) (aa aq ak au) aj)) aq) (fun _ _=>rfl)))
  (ao (fQ (bO (gB (pv 2))
   (aA (sN sc 3 (bc cz (dJ (bj T) T.bx hr (aa (pv 1) (aa aq ak au) aj)) aq)))
   bu))
  (ao (jX (i:=4) [1] Bm (aV (top 76)) rfl sc.nd rfl (fC rfl T.iC (aa (pv 3) ak aj)) (fun _ _ _ _ _=>gM) (fun _ _ _ _ _=>(dJ (iw T) T.fO hr (aa (pv 1) (aa (bc dm aq (pv 0)) ak bM) aj))))
  (ao (sN sc 5 (bc dm (bw (G5 rfl) (by rfl) T.RT Ms (aa aq (aa (pv 3) ak aj) au)) (aR aW (bB (aa aq (aa aq (aa aq (aa aq (aa aq (aa aq ak au) au) au) au) au) au)) (bc cz (dJ (bj T) T.bx hr (aa (pv 1) (aa aq ak au) aj)) aq) (fun _ _=>rfl))))
  (ao (sN sc 6 (dJ (nY T) T.jH hr (aa (aR aW (pv 0) aq (fun _ _=>rfl)) (aa (bw bR (by rfl) T.eQ cP (aa (aR aW (pv 0) aq (fun _ _=>rfl)) ak aF)) ak bf) aF)))
  (ao (bI (JL (aR aW (pv 0) aq (fun _ _=>rfl)) (aa (cM (aa (pv 6) (aa (pv 5) (aa (pv 4) ak aj) aj) aj)) ak cW)))
  (aA (aO (pv 6))))))))),?_⟩
 have hl:sizeLine=16777216:=sizeLine_eq
 refine⟨iZ,fun l0 n0=>?_⟩
 have s0:=aB (o:=.lst [.int 0,.int 0,.int 0,.int 1,.int 2]) n0
 obtain⟨c0,e0,h0⟩:=ZQ (cg c 1)
 refine⟨_,rfl,_,_,rfl,_,_,rfl,rfl,by show(0:Int) <5;decide,l0,_,_,_,rfl,rfl,bH.of az,e0,?_⟩
 generalize upd H l0 (.lst [.int 0,.int 0,.int 0,.int 1,.int 2])=H0 at s0 ⊢
 refine⟨fun σ H1=>∃m:Nat,m<=3/\H1=H0/\σ=[some (.ref d.S),some (.int c),some (.bl b),some (.int (m:Nat)),none,none,none],?_,?_⟩
 ·cases b
  ·exact⟨_,rfl,false,rfl,cB ⟨c0,by omega,rfl,rfl⟩⟩
  ·refine⟨_,rfl,true,rfl,gh ⟨_,rfl,_,_,rfl,_,_,rfl,rfl,by show(0:Int) <4;decide,?_⟩⟩
   have h1:=Int.emod_nonneg (cg c 1) (show(4:Int)≠0 by decide)
   have h2:=Int.emod_lt_of_pos (cg c 1) (show(0:Int) <4 by decide)
   refine⟨(cg c 1 % 4).toNat,by omega,rfl,?_⟩
   rw [Int.toNat_of_nonneg h1]
   rfl
 rintro σ H1 ⟨m,hm,rfl,rfl⟩
 refine⟨_,rfl,(m:Int),rfl,by omega,by omega,?_⟩
 rw [Int.toNat_natCast]
 refine jE (fun i ys H'=>H'=H1/\∃ws:List Int,ys=ws.map V.int/\ws.length=i/\∀v∈ws,0<=v/\v <1000000000) (by omega) ⟨rfl,[],rfl,rfl,by simp⟩ (fun i ys H' ⟨_,ws,e,e2,_⟩=>by rw [e,lM];omega) ?_ ?_
 ·rintro i ys H' hi ⟨rfl,ws,rfl,hw,hB⟩
  refine yes ⟨_,rfl,_,rfl,_,_,rfl,rfl,c,10+(0+(i:Int)),rfl,rfl,ws ++ [qZ c (10+(0+(i:Int)))],by simp,by simp [hw],fun v hv=>?_⟩
  rcases List.mem_append.mp hv with hv | hv
  ·exact hB v hv
  ·rw [List.mem_singleton] at hv
   subst hv
   exact ou _ _
 rintro ys H' ⟨rfl,ws,rfl,hw,hB⟩ F nF
 have t1:=aB (o:=.lst (ws.map V.int)) nF
 have sF:=s0.trans t1
 have eF:upd H' F (.lst (ws.map V.int)) F=some (.lst (ws.map V.int)):=az
 have oF:F∉d.E:=D.out (s0.free nF)
 generalize upd H' F (.lst (ws.map V.int))=H2 at t1 sF eF ⊢
 refine⟨_,rfl,_,_,rfl,iZ,fun l1 n1=>?_⟩
 have t2:=aB (o:=.lst [.int 0,.int 0,.int 1,.int 1,.int 2,.int 7]) n1
 obtain⟨c1,e1,h1⟩:=YS (cg c 2)
 refine⟨_,rfl,_,_,rfl,_,_,rfl,rfl,by show(0:Int) <6;decide,l1,_,_,_,rfl,rfl,bH.of az,e1,_,_,rfl,rfl,?_⟩
 have s2:=sF.trans t2
 have eF2:=t2 _ _ eF
 generalize upd H2 l1 (.lst [.int 0,.int 0,.int 1,.int 1,.int 2,.int 7])=H3 at t2 s2 eF2 ⊢
 have D3:=D.keep s2
 obtain⟨xs,eL,aL⟩:=D3.lanes
 have xl:=aL.length
 refine⟨_,rfl,d.S,_,3,_,rfl,rfl,D3.seqS,aN (j:=3) rfl,?_⟩
 refine⟨_,rfl,d.S,_,0,_,rfl,rfl,D3.seqS,aN (j:=0) rfl,.ref d.L,ls.length,rfl,.inl ⟨_,bH.of eL,xl.symm⟩,?_⟩
 refine⟨d.c3,ls.length,rfl,by omega,fun H4 s4=>?_⟩
 have D4:=D3.keep s4
 have eL4:=s4 _ _ eL
 have eF4:=s4 _ _ eF2
 have s04:=s2.trans s4
 refine⟨_,rfl,d.S,_,0,_,rfl,rfl,D4.seqS,aN (j:=0) rfl,?_⟩
 refine⟨.inl ⟨rfl,_,bH.of eL4⟩,_,rfl,_,rfl,_,rfl,iZ,fun q nq=>?_⟩
 have t5:=aB (o:=.tup [.str (cT d.c3 ls.length),.int ((if (m:Int) >1 then(m:Int) else 1)+(c1:Int)),.ref F]) nq
 have s5:=s04.trans t5
 have D5:=D4.keep t5
 have oq:q∉d.E:=D4.out nq
 have eq:upd H4 q (.tup [.str (cT d.c3 ls.length),.int ((if (m:Int) >1 then(m:Int) else 1)+(c1:Int)),.ref F]) q=some (.tup [.str (cT d.c3 ls.length),.int ((if (m:Int) >1 then(m:Int) else 1)+(c1:Int)),.ref F]):=az
 have eL5:=t5 _ _ eL4
 have eF5:=t5 _ _ eF4
 refine⟨d.L,xs,_,rfl,rfl,eL5,by omega,_,rfl,?_⟩
 refine k ⟨cT d.c3 ls.length,(if (m:Int) >1 then(m:Int) else 1)+(c1:Int),ws⟩ _ rfl ?_ (D5.lane ⟨q,F,rfl,dR eq oq,dR eF5 oF⟩ ⟨by dsimp only;split <;> omega,by dsimp only;split <;> omega,by dsimp only;split <;> omega,hB⟩ rfl eL5)
 rw [dF (by simp)]
 exact D.cut s5
theorem pop_at:∀{os:List Str} {j:Nat} (h:j <os.length),os.Perm (os[j]:: os.eraseIdx j)
 | [],_,h=>absurd h (by simp)
 | a:: l,0,_=>.refl _
 | a:: l,j+1,h=>by
  have h':j <l.length:=by simpa using h
  show(a:: l).Perm (l[j]:: a:: l.eraseIdx j)
  exact((pop_at (os:=l) (j:=j) (by simpa using h)).cons a).trans (.swap _ _ _)
theorem GF {α β:Type} {f:α->β}:∀(l:List α) (j:Nat),(l.map f).eraseIdx j=(l.eraseIdx j).map f
 | [],_=>rfl
 | a:: l,0=>rfl
 | a:: l,j+1=>by
  show f a:: (l.map f).eraseIdx j=f a:: (l.eraseIdx j).map f
  rw [GF l j]
theorem NP {j n:Nat} (h:j <n):seqIndex? (j:Int) n=some j:=by
 unfold seqIndex?
 have z:¬(j:Int) <0:=by omega
 simp [h,z]
inductive yo (vs:List V) (H:Hp) (Q:VK) (E:XK):Prop where
 | mk:∀(d:Dw) (ls:List aH) (ps:List PD) (os:List Str) (n:Int),vs=[.ref d.S,.int n]->mZ d H ls ps os->os≠[]->os.length<=100->(∀(x:Str) (os':List Str) (H':Hp),os.Perm (x:: os')->aK (bA d.E H) (bA d.E H')->mZ d H' ls ps os'->Q (.str x) H')->yo vs H Q E
theorem sE (T:Txt w K mg t):FO P w K mg base 1 t.BK ["_law_state", "_law_number"] (yo):=by
 have sc:=T.lJ.sc ["_law_state", "_law_number"]
 refine T.lJ.F.ok sc ln (fun _ _ _ _ H vs Q E hr h=>?_)
 obtain⟨d,ls,ps,os,n,rfl,D,hne,hs,k⟩:=h
 refine⟨_,(aA (aO (yG PySem.F.plainAttrs_list PySem.F.slot_list_pop PySem.F.type_list_pop Ge (aR aW (pv 0) aq (fun _ _=>rfl)) (aa (bc cz (pv 1) (bw bR (by rfl) T.eQ cP (aa (aR aW (pv 0) aq (fun _ _=>rfl)) ak aF))) ak bM)))),?_⟩
 have hpos:0 <os.length:=List.length_pos_iff.mpr hne
 refine⟨_,rfl,d.S,_,2,_,rfl,rfl,D.seqS,aN (j:=2) rfl,.inl ⟨rfl,_,bH.of D.opens⟩,?_⟩
 refine⟨_,rfl,_,rfl,d.S,_,2,_,rfl,rfl,D.seqS,aN (j:=2) rfl,.ref d.O,os.length,rfl,.inl ⟨_,bH.of D.opens,by simp⟩,n,(os.length:Int),rfl,rfl,by omega,?_⟩
 have h0:=Int.emod_nonneg n (show(os.length:Int)≠0 by omega)
 have h1:=Int.emod_lt_of_pos n (show(0:Int) <(os.length:Int) by omega)
 obtain⟨j,hj⟩:∃j:Nat,n % (os.length:Int)=(j:Int):=⟨(n % (os.length:Int)).toNat,by omega⟩
 have hj':j <os.length:=by omega
 refine⟨d.O,_,(j:Int),j,.str os[j],rfl,by show [V.int (n % (os.length:Int))]=_;rw [hj],D.opens,by omega,by omega,by rw [lM];exact NP hj',by rw [List.getElem?_map,List.getElem?_eq_getElem hj'];rfl,?_⟩
 rw [GF]
 exact k os[j] (os.eraseIdx j) _ (pop_at hj') (by rw [dF (by simp)];exact aK.refl _) D.open
inductive yp (vs:List V) (H:Hp) (Q:VK) (E:XK):Prop where
 | mk:∀(d:Dw) (ls:List aH) (ps:List PD) (os:List Str) (c:Int) (i:Nat) (a1 a2:Addr) (nums:List Int) (ins:List Str) (many:Nat),vs=[.ref d.S,.int c,.str (fc i),.ref a1,.ref a2,.int (many:Nat)]->mZ d H ls ps os->bA d.E H a1=some (.lst (nums.map V.int))->bA d.E H a2=some (.lst (ins.map V.str))->i <11->nums.length=cN i->((∀v∈nums,0<=v/\v <1000000000))->ins.length=cI i->many=cO i->ls.length<=22->ps.length<=25->os.length<=100->(∀(newl:List aH) (H':Hp),newl.length=many->aK (bA d.E H) (bA d.E H')->mZ d H' (ls ++ newl) (ps ++ [⟨i,cT d.c4 ps.length,nums,ins,newl.map (·.name)⟩]) (os ++ newl.map (·.name))->Q .non H')->yp vs H Q E
noncomputable abbrev Bx:List Str:=["_law_state", "_law_cell_here", "_law_kind", "_law_numbers", "_law_ins", "_law_many", "_law_outs"]
theorem cQ (T:Txt w K mg t):FO P w K mg base 4 t.Br ["_law_state", "_law_cell_here", "_law_kind", "_law_numbers", "_law_ins", "_law_many"] (yp):=by
 have sc:=T.cC.sc Bx
 refine T.cC.F.ok sc ln (fun _ _ _ _ H vs Q E hr h=>?_)
 obtain⟨d,ls,ps,os,c,i,a1,a2,nums,ins,many,rfl,D,e1,e2,hi,hN,hB,hI,hO,hls,hps,hos,k⟩:=h
 refine⟨_,(ao (jX (i:=6) [0,1] Bx (aV (top 77)) rfl sc.nd rfl (fC rfl T.iC (aa (pv 5) ak aj)) (fun _ _ _ _ _=>gM) (fun _ _ _ _ _=>(dJ (jR T) T.iM hr (aa (pv 1) (aa (dJ (bj T) T.bx hr (aa (pv 2) (aa (bc dm aq (pv 0)) ak bM) aj)) (aa iT ak au) bf) aj))))
  (ao (bI (JL (aR aW (pv 0) aq (fun _ _=>rfl)) (aa (cM (aa (pv 2) (aa (dJ (nY T) T.jH hr (aa (aR aW (pv 0) aq (fun _ _=>rfl)) (aa (bw bR (by rfl) T.eQ cP (aa (aR aW (pv 0) aq (fun _ _=>rfl)) ak aF)) ak bf) aF)) (aa (pv 3) (aa (pv 4) (aa (pv 6) ak aj) aj) aj) bf) aj)) ak cW)))
  (aA (bI (yG PySem.F.plainAttrs_list PySem.F.slot_list_extend PySem.F.type_list_extend Ij (aR aW (pv 0) aq (fun _ _=>rfl)) (aa (pv 6) ak aj)))))),?_⟩
 have hl:sizeLine=16777216:=sizeLine_eq
 have hm2:many<=2:=by rw [hO];exact RZ i
 refine⟨_,rfl,(many:Int),rfl,by omega,by omega,?_⟩
 rw [Int.toNat_natCast]
 refine jE (fun i ys H'=>∃newl:List aH,newl.length=i/\ys=newl.map (fun l=>V.str l.name)/\aK (bA d.E H) (bA d.E H')/\mZ d H' (ls ++ newl) ps os) (by omega) ⟨[],rfl,rfl,aK.refl _,by rw [List.append_nil];exact D⟩ (fun i ys H' ⟨newl,e,e2,_⟩=>by rw [e2,lM];omega) ?_ ?_
 ·rintro j ys H' hj ⟨newl,hn,rfl,s,D'⟩
  refine yes ⟨_,rfl,_,rfl,_,rfl,_,_,rfl,rfl,c,20+(0+(j:Int)),rfl,?_⟩
  refine⟨d,ls ++ newl,ps,os,_,false,rfl,D',by rw [lP];omega,fun l H1 _ s1 D1=>?_⟩
  exact⟨newl ++ [l],by simp [hn],by simp,s.trans s1,by rw [<-List.append_assoc];exact D1⟩
 rintro ys H1 ⟨newl,hn,rfl,s1,D1⟩ F nF
 have t1:=aB (o:=.lst (newl.map fun l=>V.str l.name)) nF
 have eF:upd H1 F (.lst (newl.map fun l=>V.str l.name)) F=some (.lst ((newl.map (·.name)).map V.str)):=by rw [List.map_map];exact az
 have oF:=D1.out nF
 have D2:=D1.keep t1
 have s2:=s1.trans (D1.cut t1)
 generalize upd H1 F (.lst (newl.map fun l=>V.str l.name))=H2 at t1 eF D2 s2 ⊢
 obtain⟨xs,eP,aP⟩:=D2.parts
 have xl:=aP.length
 refine⟨_,rfl,d.S,_,1,_,rfl,rfl,D2.seqS,aN (j:=1) rfl,.inl ⟨rfl,_,bH.of eP⟩,?_⟩
 refine⟨_,rfl,_,rfl,d.S,_,4,_,rfl,rfl,D2.seqS,aN (j:=4) rfl,?_⟩
 refine⟨_,rfl,d.S,_,1,_,rfl,rfl,D2.seqS,aN (j:=1) rfl,.ref d.P,ps.length,rfl,.inl ⟨_,bH.of eP,xl.symm⟩,?_⟩
 refine⟨d.c4,ps.length,rfl,by omega,fun H3 s3=>?_⟩
 have D3:=D2.keep s3
 have t3:=s2.trans (D2.cut s3)
 have eP3:=s3 _ _ eP
 have eF3:=s3 _ _ eF
 refine⟨_,rfl,_,rfl,_,rfl,iZ,fun q nq=>?_⟩
 have s4:=aB (o:=.tup [.str (fc i),.str (cT d.c4 ps.length),.ref a1,.ref a2,.ref F]) nq
 have D4:=D3.keep s4
 have t4:=t3.trans (D3.cut s4)
 have eP4:=s4 _ _ eP3
 have eF4:=s4 _ _ eF3
 have oq:=D3.out nq
 have eq:upd H3 q (.tup [.str (fc i),.str (cT d.c4 ps.length),.ref a1,.ref a2,.ref F]) q=some (.tup [.str (fc i),.str (cT d.c4 ps.length),.ref a1,.ref a2,.ref F]):=az
 refine⟨d.P,xs,_,rfl,rfl,eP4,by omega,?_⟩
 generalize upd H3 q (.tup [.str (fc i),.str (cT d.c4 ps.length),.ref a1,.ref a2,.ref F])=H4 at s4 D4 t4 eP4 eF4 eq ⊢
 have D5:=D4.part (p:=⟨i,cT d.c4 ps.length,nums,ins,newl.map (·.name)⟩) ⟨q,a1,a2,F,rfl,dR eq oq,t4 _ _ e1,t4 _ _ e2,dR eF4 oF⟩ ⟨hi,hN,hI,by show(newl.map _).length=_;rw [lM,hn];exact hO,hB⟩ rfl eP4
 have hcu:bA d.E (upd H4 d.P (.lst (xs ++ [.ref q])))=bA d.E H4:=dF (by simp)
 have eF5:upd H4 d.P (.lst (xs ++ [.ref q])) F=some (.lst ((newl.map (·.name)).map V.str)):=by rw [aM (fun z=>oF (by rw [z];simp))];exact eF4
 generalize upd H4 d.P (.lst (xs ++ [.ref q]))=H5 at D5 hcu eF5 ⊢
 refine⟨_,rfl,d.S,_,2,_,rfl,rfl,D5.seqS,aN (j:=2) rfl,.inl ⟨rfl,_,bH.of D5.opens⟩,?_⟩
 refine⟨_,rfl,d.O,F,_,_,rfl,rfl,D5.opens,eF5,by rw [lM,lM,lM];omega,?_⟩
 rw [<-List.map_append]
 exact k newl _ hn (by rw [dF (by simp),hcu];exact t4) D5.open
theorem WQ (m:Int):∃i:Nat,Gk [V.str "add",V.str "less"] (m % 2)=some (.str (fc i))/\(i=6∨i=7):=by
 have h0:=Int.emod_nonneg m (show(2:Int)≠0 by decide)
 have h1:=Int.emod_lt_of_pos m (show(0:Int) <2 by decide)
 have:m % 2=0∨m % 2=1:=by omega
 rcases this with e | e <;> rw [e]
 ·exact⟨6,rfl,.inl rfl⟩
 ·exact⟨7,rfl,.inr rfl⟩
theorem Le {one other:Str} {os os1:List Str} (h:os.Perm (other:: os1)):(one:: os).Perm ([one,other] ++ os1):=h.cons one
theorem ZL {one other third:Str} {os os1 os2:List Str} (h:os.Perm (other:: os1)) (h2:os1.Perm (third:: os2)):(one:: os).Perm ([one,other,third] ++ os2):=(h.trans (h2.cons other)).cons one
inductive Bo (vs:List V) (H:Hp) (Q:VK) (E:XK):Prop where
 | mk:∀(d:Dw) (ls:List aH) (ps:List PD) (os:List Str) (c:Int) (one:Str) (back:List Str) (odd:Bool),vs=[.ref d.S,.int c,.str one,.bl odd]->mZ d H ls ps os->Drawn.WF (uw ls ps (one:: os) back)->os≠[]->os.length<=3->ls.length<=20->ps.length<=22->(∀ls' ps' os' H',Nxt d H H' ls ps back ls' ps' os'->Q .non H')->Bo vs H Q E
theorem Kw (T:Txt w K mg t):FO P w K mg base 5 t.Eo ["_law_state", "_law_cell_here", "_law_one", "_law_odd"] (Bo):=by
 have sc:=T.xP.sc ["_law_state", "_law_cell_here", "_law_one", "_law_odd", "_law_other", "_law_way", "_law_third"]
 refine T.xP.F.ok sc ln (fun _ _ _ _ H vs Q E hr h=>?_)
 obtain⟨d,ls,ps,os,c,one,back,odd,rfl,D,w,hne,ho,hls,hps,k⟩:=h
 refine⟨_,(ao (sN sc 4 (dJ (sE T) T.lJ hr (aa (pv 0) (aa (dJ (bj T) T.bx hr (aa (pv 1) (aa aq ak au) aj)) ak bf) aj)))
  (ao (sN sc 5 (bc cz (dJ (bj T) T.bx hr (aa (pv 1) (aa aq ak au) aj)) aq))
  (aA (fQ (bO (PW.pt (qK (gB (pv 3)) (qK (aZ yZ (pv 5) aq (bF _)) (nj (aZ Hv (bw bR (by rfl) T.eQ cP (aa (aR aW (pv 0) aq (fun _ _=>rfl)) ak aF)) aq (bF _))))))
   (ao (sN sc 6 (dJ (sE T) T.lJ hr (aa (pv 0) (aa (dJ (bj T) T.bx hr (aa (pv 1) (aa aq ak au) aj)) ak bf) aj)))
   (aA (bI (dJ (cQ T) T.cC hr (aa (pv 0) (aa (pv 1) (aa bK (aa (bB ak) (aa (bB (aa (pv 2) (aa (pv 4) (aa (pv 6) ak aj) aj) aj)) (aa aq ak au) aX) aX) au) aj) aj)))))
   (aA (fQ (bO (PW.pt (qK (gB (pv 3)) (nj (aZ yZ (pv 5) aq (bF _)))))
    (aA (bI (dJ (cQ T) T.cC hr (aa (pv 0) (aa (pv 1) (aa bK (aa (bB ak) (aa (bB (aa (pv 2) (aa (pv 4) ak aj) aj)) (aa aq ak au) aX) aX) au) aj) aj))))
    (aA (fQ (bO (aZ eY (bc cz (pv 5) aq) aq (bF _))
     (aA (bI (dJ (cQ T) T.cC hr (aa (pv 0) (aa (pv 1) (aa bK (aa (bB ak) (aa (bB (aa (pv 2) (aa (pv 4) ak aj) aj)) (aa aq ak au) aX) aX) au) aj) aj))))
     (aA (bI (dJ (cQ T) T.cC hr (aa (pv 0) (aa (pv 1) (aa (aR aW (bB (aa bK (aa bK ak au) au)) (bc cz (pv 5) aq) (fun _ _=>rfl)) (aa (bB ak) (aa (bB (aa (pv 2) (aa (pv 4) ak aj) aj)) (aa aq ak au) aX) aX) aF) aj) aj))))))))))))))),?_⟩
 have hl:sizeLine=16777216:=sizeLine_eq
 refine⟨_,rfl,_,rfl,_,_,rfl,d,ls,ps,os,_,rfl,D,hne,by omega,fun other os1 H1 p1 s1 D1=>?_⟩
 have l1:=p1.length_eq
 rw [List.length_cons] at l1
 refine⟨_,rfl,_,_,rfl,_,_,rfl,rfl,by show(0:Int) <6;decide,?_⟩
 refine⟨fun _ H'=>Q .non H',?_,fun _ _ h=>h⟩
 have fin:∀{i:Nat} {nm:Str} {newl:List aH} {ins os2:List Str} {H':Hp},aK (bA d.E H) (bA d.E H')->mZ d H' (ls ++ newl) (ps ++ [⟨i,nm,[],ins,newl.map (·.name)⟩]) (os2 ++ newl.map (·.name))->(one:: os).Perm (ins ++ os2)->newl.length≠0->newl.length<=2->os2.length+newl.length<=4->Q .non H':=fun s DD hp h1 h2 h4=>
  k _ _ _ _ ⟨s,DD,rG w rfl DD hp h1 (by rw [lP];omega),by rw [lP,lM];omega,by rw [lP,lM];omega,by rw [lP];omega,by rw [lP,List.length_singleton];omega,fun c=>c.app⟩
 cases odd
 ·refine⟨_,rfl,false,rfl,cB (cB ?_)⟩
  refine⟨fun _ H'=>Q .non H',?_,fun _ _ h=>h⟩
  refine⟨_,rfl,false,rfl,cB (cB ?_)⟩
  refine⟨fun _ H'=>Q .non H',?_,fun _ _ h=>h⟩
  refine⟨_,rfl,_,_,rfl,rfl,by show(0:Int) <3;decide,rfl,_,rfl,iu (fun _=>?_) (fun _=>?_)⟩
  ·refine⟨_,rfl,_,rfl,iZ,fun a1 n1=>⟨_,rfl,_,rfl,iZ,fun a2 n2=>?_⟩⟩
   obtain⟨D9,z1,z2,z3⟩:=D1.two n1 n2 (y:=.lst [.str one,.str other])
   refine⟨d,_,_,os1,_,8,a1,a2,[],[one,other],2,rfl,D9,z1,z2,by omega,rfl,by simp,rfl,rfl,by omega,by omega,by omega,fun newl H8 hn s8 D8=>?_⟩
   exact fin (s1.trans (z3.trans s8)) D8 (Le p1) (by omega) (by omega) (by omega)
  ·refine⟨_,rfl,_,rfl,iZ,fun a0 n0=>?_⟩
   have s0:=aB (o:=.lst [.str "add",.str "less"]) n0
   have D0:=D1.keep s0
   have c0:=D1.cut s0
   refine⟨_,rfl,_,_,rfl,rfl,by show(0:Int) <2;decide,?_⟩
   obtain⟨i,ei,hi⟩:=WQ (cg c 6 % 6)
   refine⟨a0,_,_,_,rfl,rfl,bH.of az,ei,?_⟩
   generalize upd H1 a0 (.lst [.str "add",.str "less"])=H0 at s0 D0 c0 ⊢
   have hN:([]:List Int).length=cN i:=by rcases hi with rfl | rfl <;> rfl
   have hI:[one,other].length=cI i:=by rcases hi with rfl | rfl <;> rfl
   have hO:1=cO i:=by rcases hi with rfl | rfl <;> rfl
   refine⟨iZ,fun a1 n1=>⟨_,rfl,_,rfl,iZ,fun a2 n2=>?_⟩⟩
   obtain⟨D9,z1,z2,z3⟩:=D0.two n1 n2 (y:=.lst [.str one,.str other])
   refine⟨d,_,_,os1,_,i,a1,a2,[],[one,other],1,rfl,D9,z1,z2,by omega,hN,by simp,hI,hO,by omega,by omega,by omega,fun newl H8 hn s8 D8=>?_⟩
   exact fin (s1.trans (c0.trans (z3.trans s8))) D8 (Le p1) (by omega) (by omega) (by omega)
 ·refine⟨_,rfl,true,rfl,gh ⟨_,rfl,_,_,rfl,rfl,_,rfl,Dp ?_ (fun h2 b=>?_) (fun b=>b)⟩⟩
  ·refine⟨fun _ H'=>Q .non H',?_,fun _ _ h=>h⟩
   refine⟨_,rfl,true,rfl,gh ?_⟩
   refine⟨_,rfl,_,_,rfl,rfl,_,rfl,iu (fun h5=>?_) (fun h5=>?_)⟩
   ·refine⟨_,rfl,_,rfl,iZ,fun a1 n1=>⟨_,rfl,_,rfl,iZ,fun a2 n2=>?_⟩⟩
    obtain⟨D9,z1,z2,z3⟩:=D1.two n1 n2 (y:=.lst [.str one,.str other])
    refine⟨d,_,_,os1,_,10,a1,a2,[],[one,other],2,rfl,D9,z1,z2,by omega,rfl,by simp,rfl,rfl,by omega,by omega,by omega,fun newl H8 hn s8 D8=>?_⟩
    exact fin (s1.trans (z3.trans s8)) D8 (Le p1) (by omega) (by omega) (by omega)
   ·refine⟨fun _ H'=>Q .non H',?_,fun _ _ h=>h⟩
    refine⟨_,rfl,_,_,rfl,rfl,by show(0:Int) <3;decide,rfl,_,rfl,iu (fun _=>?_) (fun _=>?_)⟩
    ·refine⟨_,rfl,_,rfl,iZ,fun a1 n1=>⟨_,rfl,_,rfl,iZ,fun a2 n2=>?_⟩⟩
     obtain⟨D9,z1,z2,z3⟩:=D1.two n1 n2 (y:=.lst [.str one,.str other])
     refine⟨d,_,_,os1,_,8,a1,a2,[],[one,other],2,rfl,D9,z1,z2,by omega,rfl,by simp,rfl,rfl,by omega,by omega,by omega,fun newl H8 hn s8 D8=>?_⟩
     exact fin (s1.trans (z3.trans s8)) D8 (Le p1) (by omega) (by omega) (by omega)
    ·refine⟨_,rfl,_,rfl,iZ,fun a0 n0=>?_⟩
     have s0:=aB (o:=.lst [.str "add",.str "less"]) n0
     have D0:=D1.keep s0
     have c0:=D1.cut s0
     refine⟨_,rfl,_,_,rfl,rfl,by show(0:Int) <2;decide,?_⟩
     obtain⟨i,ei,hi⟩:=WQ (cg c 6 % 6)
     refine⟨a0,_,_,_,rfl,rfl,bH.of az,ei,?_⟩
     generalize upd H1 a0 (.lst [.str "add",.str "less"])=H0 at s0 D0 c0 ⊢
     have hN:([]:List Int).length=cN i:=by rcases hi with rfl | rfl <;> rfl
     have hI:[one,other].length=cI i:=by rcases hi with rfl | rfl <;> rfl
     have hO:1=cO i:=by rcases hi with rfl | rfl <;> rfl
     refine⟨iZ,fun a1 n1=>⟨_,rfl,_,rfl,iZ,fun a2 n2=>?_⟩⟩
     obtain⟨D9,z1,z2,z3⟩:=D0.two n1 n2 (y:=.lst [.str one,.str other])
     refine⟨d,_,_,os1,_,i,a1,a2,[],[one,other],1,rfl,D9,z1,z2,by omega,hN,by simp,hI,hO,by omega,by omega,by omega,fun newl H8 hn s8 D8=>?_⟩
     exact fin (s1.trans (c0.trans (z3.trans s8))) D8 (Le p1) (by omega) (by omega) (by omega)
  ·refine⟨_,rfl,d.S,_,2,_,rfl,rfl,D1.seqS,aN (j:=2) rfl,.ref d.O,os1.length,rfl,.inl ⟨_,bH.of D1.opens,by simp⟩,_,_,rfl,rfl,_,rfl,iu (fun h3=>?_) (fun _=>b)⟩
   have hne1:os1≠[]:=fun z=>by rw [z] at h3;exact absurd (of_decide_eq_true h3) (by decide)
   refine⟨_,rfl,_,rfl,_,_,rfl,d,ls,ps,os1,_,rfl,D1,hne1,by omega,fun third os2 H2 p2 s2 D2=>?_⟩
   have l2:=p2.length_eq
   rw [List.length_cons] at l2
   refine⟨_,rfl,_,rfl,iZ,fun a1 n1=>⟨_,rfl,_,rfl,_,rfl,iZ,fun a2 n2=>?_⟩⟩
   obtain⟨D9,z1,z2,z3⟩:=D2.two n1 n2 (y:=.lst [.str one,.str other,.str third])
   refine⟨d,_,_,os2,_,9,a1,a2,[],[one,other,third],1,rfl,D9,z1,z2,by omega,rfl,by simp,rfl,rfl,by omega,by omega,by omega,fun newl H8 hn s8 D8=>?_⟩
   exact fin (s1.trans (s2.trans (z3.trans s8))) D8 (ZL p1 p2) (by omega) (by omega) (by omega)
inductive zx (vs:List V) (H:Hp) (Q:VK) (E:XK):Prop where
 | mk:∀(d:Dw) (ls:List aH) (ps:List PD) (os:List Str) (c:Int) (one:Str) (back:List Str),vs=[.ref d.S,.int c,.str one]->mZ d H ls ps os->Drawn.WF (uw ls ps (one:: os) back)->os.length<=3->ls.length<=20->ps.length<=22->(∀ls' ps' os' H',Nxt d H H' ls ps back ls' ps' os'->Q .non H')->zx vs H Q E
theorem Im (T:Txt w K mg t):FO P w K mg base 4 t.Bj ["_law_state", "_law_cell_here", "_law_one"] (zx):=by
 have sc:=T.uA.sc ["_law_state", "_law_cell_here", "_law_one", "_law_own", "_law_fresh"]
 refine T.uA.F.ok sc ln (fun _ _ _ _ H vs Q E hr h=>?_)
 obtain⟨d,ls,ps,os,c,one,back,rfl,D,w,ho,hls,hps,k⟩:=h
 refine⟨_,(ao (sN sc 3 (dJ (jR T) T.iM hr (aa (pv 0) (aa (dJ (bj T) T.bx hr (aa (pv 1) (aa aq ak au) aj)) (aa iT ak au) bf) aj)))
  (ao (sN sc 4 (dJ (jR T) T.iM hr (aa (pv 0) (aa (dJ (bj T) T.bx hr (aa (pv 1) (aa aq ak au) aj)) (aa iT ak au) bf) aj)))
  (ao (bI (JL (aR aW (pv 0) aq (fun _ _=>rfl)) (aa (cM (aa bK (aa (dJ (nY T) T.jH hr (aa (aR aW (pv 0) aq (fun _ _=>rfl)) (aa (bw bR (by rfl) T.eQ cP (aa (aR aW (pv 0) aq (fun _ _=>rfl)) ak aF)) ak bf) aF)) (aa (bB ak) (aa (bB (aa (pv 2) (aa (pv 3) ak aj) aj)) (aa (bB (aa (pv 3) (aa (pv 4) ak aj) aj)) ak aX) aX) aX) bf) au)) ak cW)))
  (aA (bI (JL (aR aW (pv 0) aq (fun _ _=>rfl)) (aa (pv 4) ak aj))))))),?_⟩
 have hl:sizeLine=16777216:=sizeLine_eq
 refine⟨_,rfl,_,rfl,_,_,rfl,d,ls,ps,os,_,true,rfl,D,by omega,fun l1 H1 e1 s1 D1=>?_⟩
 refine⟨_,rfl,_,rfl,_,_,rfl,d,ls ++ [l1],ps,os,_,false,rfl,D1,by rw [lP,List.length_singleton];omega,fun l2 H2 e2 s2 D2=>?_⟩
 have s12:=s1.trans s2
 obtain⟨xs,eP,aP⟩:=D2.parts
 have xl:=aP.length
 refine⟨_,rfl,d.S,_,1,_,rfl,rfl,D2.seqS,aN (j:=1) rfl,.inl ⟨rfl,_,bH.of eP⟩,?_⟩
 refine⟨_,rfl,d.S,_,4,_,rfl,rfl,D2.seqS,aN (j:=4) rfl,?_⟩
 refine⟨_,rfl,d.S,_,1,_,rfl,rfl,D2.seqS,aN (j:=1) rfl,.ref d.P,ps.length,rfl,.inl ⟨_,bH.of eP,xl.symm⟩,?_⟩
 refine⟨d.c4,ps.length,rfl,by omega,fun H3 s3=>?_⟩
 have D3:=D2.keep s3
 have c3:=s12.trans (D2.cut s3)
 have eP3:=s3 _ _ eP
 refine⟨iZ,fun a1 n1=>⟨_,rfl,_,rfl,iZ,fun a2 n2=>⟨_,rfl,_,rfl,iZ,fun a3 n3=>⟨iZ,fun q nq=>?_⟩⟩⟩⟩
 obtain⟨D4,z1,z2,z3⟩:=D3.two n1 n2 (y:=.lst [.str one,.str l1.name])
 have t4:aK H3 (upd (upd H3 a1 (.lst [])) a2 (.lst [.str one,.str l1.name])):=(aB n1).trans (aB n2)
 have eP4:=t4 _ _ eP3
 generalize upd (upd H3 a1 (.lst [])) a2 (.lst [.str one,.str l1.name])=H4 at D4 z1 z2 z3 t4 eP4 n3 nq ⊢
 obtain⟨D5,y1,y2,y3⟩:=D4.two n3 nq (y:=.tup [.str "order",.str (cT d.c4 ps.length),.ref a1,.ref a2,.ref a3])
 have t5:aK H4 (upd (upd H4 a3 (.lst [.str l1.name,.str l2.name])) q (.tup [.str "order",.str (cT d.c4 ps.length),.ref a1,.ref a2,.ref a3])):=(aB n3).trans (aB nq)
 have eP5:=t5 _ _ eP4
 generalize upd (upd H4 a3 (.lst [.str l1.name,.str l2.name])) q (.tup [.str "order",.str (cT d.c4 ps.length),.ref a1,.ref a2,.ref a3])=H5 at D5 y1 y2 y3 t5 eP5 ⊢
 have c5:=c3.trans (z3.trans y3)
 refine⟨d.P,xs,_,rfl,rfl,eP5,by omega,?_⟩
 have D6:=D5.part (p:=⟨8,cT d.c4 ps.length,[],[one,l1.name],[l1.name,l2.name]⟩) ⟨q,a1,a2,a3,rfl,y2,y3 _ _ z1,y3 _ _ z2,y1⟩ ⟨by show 8 <11;omega,rfl,rfl,rfl,by simp⟩ rfl eP5
 have c6:bA d.E (upd H5 d.P (.lst (xs ++ [.ref q])))=bA d.E H5:=dF (by simp)
 generalize upd H5 d.P (.lst (xs ++ [.ref q]))=H6 at D6 c6 ⊢
 refine⟨_,rfl,d.S,_,2,_,rfl,rfl,D6.seqS,aN (j:=2) rfl,.inl ⟨rfl,_,bH.of D6.opens⟩,_,rfl,d.O,_,_,rfl,rfl,D6.opens,by rw [lM];omega,?_⟩
 have D7:=D6.open (os':=os ++ [l2.name])
 rw [List.map_append] at D7
 have nd:=D7.nod (by rw [lP,lP,List.length_singleton,List.length_singleton];omega)
 have wl:=w.loop (p:=⟨8,cT d.c4 ps.length,[],[one,l1.name],[l1.name,l2.name]⟩) (rest:=os) (one:=one) (own:=l1.name) (fresh:=l2.name) rfl rfl (.refl _) (by simpa using nd)
 refine k _ _ _ _ ⟨by rw [dF (by simp),c6];exact c5,D7,by simpa [uw] using wl,by rw [lP,List.length_singleton];omega,by rw [lP,List.length_singleton];omega,by simp,by simp,fun c=>c.app⟩
inductive yz (vs:List V) (H:Hp) (Q:VK) (E:XK):Prop where
 | mk:∀(d:Dw) (ls:List aH) (ps:List PD) (os:List Str) (c:Int) (back:List Str) (odd:Bool),vs=[.ref d.S,.int c,.bl odd]->mZ d H ls ps os->Drawn.WF (uw ls ps os back)->os≠[]->os.length<=4->ls.length<=20->ps.length<=22->(∀ls' ps' os' H',Nxt d H H' ls ps back ls' ps' os'->Q .non H')->yz vs H Q E
theorem J2 (T:Txt w K mg t):FO P w K mg base 6 t.Bh ["_law_state", "_law_cell_here", "_law_odd"] (yz):=by
 have sc:=T.uO.sc ["_law_state", "_law_cell_here", "_law_odd", "_law_way", "_law_one"]
 refine T.uO.F.ok sc ln (fun _ _ _ _ H vs Q E hr h=>?_)
 obtain⟨d,ls,ps,os,c,back,odd,rfl,D,w,hne,ho,hls,hps,k⟩:=h
 refine⟨_,(ao (sN sc 3 (bc cz (dJ (bj T) T.bx hr (aa (pv 1) (aa aq ak au) aj)) aq))
  (ao (sN sc 4 (dJ (sE T) T.lJ hr (aa (pv 0) (aa (dJ (bj T) T.bx hr (aa (pv 1) (aa aq ak au) aj)) ak bf) aj)))
  (aA (fQ (bO (PW.pt (qK (aZ yZ (pv 3) aq (bF _)) (nj (aZ yZ (bw bR (by rfl) T.eQ cP (aa (aR aW (pv 0) aq (fun _ _=>rfl)) ak aF)) aq (bF _)))))
   (aA (bI (dJ (cQ T) T.cC hr (aa (pv 0) (aa (pv 1) (aa bK (aa (bB ak) (aa (bB (aa (pv 4) ak aj)) (aa aq ak au) aX) aX) au) aj) aj))))
   (aA (fQ (bO (aZ eY (pv 3) aq (bF _))
    (ao (bI (dJ (cQ T) T.cC hr (aa (pv 0) (aa (pv 1) (aa bK (aa (bB ak) (aa (bB (aa (pv 4) ak aj)) (aa aq ak au) aX) aX) au) aj) aj)))
    (aA (bI (dJ (cQ T) T.cC hr (aa (pv 0) (aa (pv 1) (aa bK (aa (bB ak) (aa (bB (aa (Mr PySem.F.plainAttrs_list PySem.F.slot_list_pop PySem.F.type_list_pop MK (aR aW (pv 0) aq (fun _ _=>rfl))) ak bf)) (aa aq ak au) aX) aX) au) aj) aj)))))
    (aA (fQ (bO (PW.pt (qK (aZ yZ (pv 3) aq (bF _)) (nj (aZ Hv (bw bR (by rfl) T.eQ cP (aa (aR aW (pv 0) aq (fun _ _=>rfl)) ak aF)) aq (bF _)))))
     (aA (bI (dJ (Kw T) T.xP hr (aa (pv 0) (aa (pv 1) (aa (pv 4) (aa (pv 2) ak aj) aj) aj) aj))))
     (aA (fQ (bO (aZ yZ (pv 3) aq (bF _))
      (aA (bI (dJ (cQ T) T.cC hr (aa (pv 0) (aa (pv 1) (aa bK (aa (bB (aa (dJ (iw T) T.fO hr (aa (pv 1) (aa aq ak au) aj)) (aa (dJ (iw T) T.fO hr (aa (pv 1) (aa aq ak au) aj)) ak bf) bf)) (aa (bB (aa (pv 4) ak aj)) (aa aq ak au) aX) aX) au) aj) aj))))
      (aA (fQ (bO (aZ eY (pv 3) aq (bF _))
       (aA (bI (dJ (cQ T) T.cC hr (aa (pv 0) (aa (pv 1) (aa bK (aa (bB (aa (dJ (iw T) T.fO hr (aa (pv 1) (aa aq ak au) aj)) ak bf)) (aa (bB (aa (pv 4) ak aj)) (aa aq ak au) aX) aX) au) aj) aj))))
       (aA (fQ (bO (aZ eY (bc cz (dJ (bj T) T.bx hr (aa (pv 1) (aa aq ak au) aj)) aq) aq (bF _))
        (aA (bI (dJ (Im T) T.uA hr (aa (pv 0) (aa (pv 1) (aa (pv 4) ak aj) aj) aj))))
        (aA (bI (dJ (cQ T) T.cC hr (aa (pv 0) (aa (pv 1) (aa bK (aa (bB ak) (aa (bB (aa (pv 4) ak aj)) (aa aq ak au) aX) aX) au) aj) aj)))))))))))))))))))))))),?_⟩
 have hl:sizeLine=16777216:=sizeLine_eq
 refine⟨_,rfl,_,_,rfl,_,_,rfl,rfl,by show(0:Int) <9;decide,?_⟩
 refine⟨_,rfl,_,rfl,_,_,rfl,d,ls,ps,os,_,rfl,D,hne,by omega,fun one os1 H1 p1 s1 D1=>?_⟩
 have w1:Drawn.WF (uw ls ps (one:: os1) back):=Xl w p1
 have lo:=p1.length_eq
 rw [List.length_cons] at lo
 have fin:∀{i:Nat} {nm:Str} {nums:List Int} {newl:List aH} {ins os2:List Str} {H':Hp},aK (bA d.E H) (bA d.E H')->mZ d H' (ls ++ newl) (ps ++ [⟨i,nm,nums,ins,newl.map (·.name)⟩]) (os2 ++ newl.map (·.name))->(one:: os1).Perm (ins ++ os2)->newl.length≠0->newl.length<=2->os2.length+newl.length<=4->Q .non H':=fun s DD hp h1 h2 h4=>
  k _ _ _ _ ⟨s,DD,rG w1 rfl DD hp h1 (by rw [lP];omega),by rw [lP,lM];omega,by rw [lP,lM];omega,by rw [lP];omega,by rw [lP,List.length_singleton];omega,fun c=>c.app⟩
 refine⟨fun _ H'=>Q .non H',?_,fun _ _ h=>h⟩
 refine⟨_,rfl,_,_,rfl,rfl,_,rfl,Dp ?_ (fun h2 b=>?_) (fun b=>b)⟩
 ·refine⟨fun _ H'=>Q .non H',?_,fun _ _ h=>h⟩
  refine⟨_,rfl,rfl,_,rfl,iu (fun _=>?_) (fun _=>?_)⟩
  ·refine⟨_,rfl,_,rfl,iZ,fun a1 n1=>⟨_,rfl,iZ,fun a2 n2=>?_⟩⟩
   obtain⟨D9,z1,z2,z3⟩:=D1.two n1 n2 (y:=.lst [.str one])
   refine⟨d,_,_,os1,_,3,a1,a2,[],[one],2,rfl,D9,z1,z2,by omega,rfl,by simp,rfl,rfl,by omega,by omega,by omega,fun newl H8 hn s8 D8=>?_⟩
   obtain⟨l1,l2,rfl⟩:∃l1 l2,newl=[l1,l2]:=by
    match newl,hn with
    | [x,y],_=>exact⟨x,y,rfl⟩
   have w8:=rG w1 rfl D8 (.refl _) (by simp) (by simp;omega)
   have s18:=s1.trans (z3.trans s8)
   clear D9 z1 z2 z3 n1 n2 s8
   refine⟨_,rfl,_,rfl,iZ,fun a3 n3=>?_⟩
   have s3:=aB (o:=.lst []) n3
   have D3:=D8.keep s3
   have c3:=s18.trans (D8.cut s3)
   have o3:=D8.out n3
   have e3:upd H8 a3 (.lst []) a3=some (.lst ([]:List V)):=az
   generalize upd H8 a3 (.lst [])=H3 at s3 D3 c3 e3 ⊢
   have eo:((os1 ++ [l1,l2].map (·.name)).map V.str)=((os1 ++ [l1.name]).map V.str) ++ [.str l2.name]:=by simp
   have hop:=D3.opens
   rw [eo] at hop
   refine⟨_,rfl,d.S,_,2,_,rfl,rfl,D3.seqS,aN (j:=2) rfl,.inl ⟨rfl,_,bH.of D3.opens⟩,d.O,_,.str l2.name,rfl,rfl,hop,by rw [lP,List.length_singleton,Nat.add_sub_cancel];exact List.getElem?_concat_length,?_⟩
   rw [List.dropLast_concat]
   have D4:=D3.open (os':=os1 ++ [l1.name])
   have c4:bA d.E (upd H3 d.O (.lst ((os1 ++ [l1.name]).map V.str)))=bA d.E H3:=dF (by simp)
   have e4:=dR e3 o3
   generalize upd H3 d.O (.lst ((os1 ++ [l1.name]).map V.str))=H4 at D4 c4 ⊢
   refine⟨iZ,fun a4 n4=>?_⟩
   have s5:=aB (o:=.lst [.str l2.name]) n4
   have D5:=D4.keep s5
   have c5:=D4.cut s5
   rw [c4] at c5
   have e5:=dR (E:=d.E) (H:=upd H4 a4 (.lst [.str l2.name])) az (D4.out n4)
   refine⟨d,ls ++ [l1,l2],_,os1 ++ [l1.name],_,1,a3,a4,[],[l2.name],0,rfl,D5,c5 _ _ e4,e5,by omega,rfl,by simp,rfl,rfl,by simp;omega,by simp;omega,by simp;omega,fun newl2 H9 hn2 s9 D9=>?_⟩
   have hz:newl2=[]:=List.length_eq_zero_iff.mp hn2
   subst hz
   have wt:=w8.take (p:=⟨1,cT d.c4 (ps ++ [(⟨3,cT d.c4 ps.length,[],[one],[l1,l2].map (·.name)⟩:PD)]).length,[],[l2.name],[]⟩) (rest:=os1 ++ [l1.name]) (y:=l2.name) (x:=l1.name) rfl rfl (by
     show(os1 ++ [l1.name,l2.name]).Perm (l2.name:: (os1 ++ [l1.name]))
     rw [show os1 ++ [l1.name,l2.name]=(os1 ++ [l1.name]) ++ [l2.name] by simp]
     exact List.perm_append_comm) (by simp) (Drawn.jq.part (p:=⟨3,cT d.c4 ps.length,[],[one],[l1,l2].map (·.name)⟩) (by simp) (by simp) (by simp))
   rw [List.map_nil,List.append_nil,List.append_nil] at D9
   exact k _ _ _ _ ⟨c3.trans (c5.trans s9),D9,wt,by simp,by simp;omega,by simp,by simp,fun c=>c.app.app⟩
  ·refine⟨fun _ H'=>Q .non H',?_,fun _ _ h=>h⟩
   refine⟨_,rfl,_,_,rfl,rfl,_,rfl,Dp ?_ (fun h2 b=>?_) (fun b=>b)⟩
   ·refine⟨fun _ H'=>Q .non H',?_,fun _ _ h=>h⟩
    refine⟨_,rfl,_,_,rfl,rfl,_,rfl,iu (fun _=>?_) (fun _=>?_)⟩
    ·refine⟨_,rfl,_,rfl,_,rfl,c,8,rfl,_,rfl,c,9,rfl,iZ,fun a1 n1=>⟨_,rfl,iZ,fun a2 n2=>?_⟩⟩
     obtain⟨D9,z1,z2,z3⟩:=D1.two n1 n2 (y:=.lst [.str one])
     refine⟨d,_,_,os1,_,4,a1,a2,[qZ c 8,qZ c 9],[one],1,rfl,D9,z1,z2,by omega,rfl,?_,rfl,rfl,by omega,by omega,by omega,fun newl H8 hn s8 D8=>?_⟩
     ·intro v hv
      rcases List.mem_cons.mp hv with rfl | hv
      ·exact ou _ _
      ·rw [List.mem_singleton] at hv
       subst hv
       exact ou _ _
     exact fin (s1.trans (z3.trans s8)) D8 (.refl _) (by omega) (by omega) (by omega)
    ·refine⟨fun _ H'=>Q .non H',?_,fun _ _ h=>h⟩
     refine⟨_,rfl,rfl,_,rfl,iu (fun _=>?_) (fun _=>?_)⟩
     ·refine⟨_,rfl,_,rfl,_,rfl,c,8,rfl,iZ,fun a1 n1=>⟨_,rfl,iZ,fun a2 n2=>?_⟩⟩
      obtain⟨D9,z1,z2,z3⟩:=D1.two n1 n2 (y:=.lst [.str one])
      refine⟨d,_,_,os1,_,5,a1,a2,[qZ c 8],[one],1,rfl,D9,z1,z2,by omega,rfl,?_,rfl,rfl,by omega,by omega,by omega,fun newl H8 hn s8 D8=>?_⟩
      ·intro v hv
       rw [List.mem_singleton] at hv
       subst hv
       exact ou _ _
      exact fin (s1.trans (z3.trans s8)) D8 (.refl _) (by omega) (by omega) (by omega)
     ·refine⟨fun _ H'=>Q .non H',?_,fun _ _ h=>h⟩
      refine⟨_,rfl,_,_,rfl,_,_,rfl,rfl,by show(0:Int) <2;decide,rfl,_,rfl,iu (fun _=>?_) (fun _=>?_)⟩
      ·exact⟨_,rfl,_,rfl,_,rfl,d,ls,ps,os1,c,one,back,rfl,D1,w1,by omega,hls,hps,fun ls' ps' os' H' X=>k ls' ps' os' H' ⟨s1.trans X.cut,X.at',X.wf,X.o1,X.o4,X.l2,X.p2,X.gv⟩⟩
      ·refine⟨_,rfl,_,rfl,iZ,fun a1 n1=>⟨_,rfl,iZ,fun a2 n2=>?_⟩⟩
       obtain⟨D9,z1,z2,z3⟩:=D1.two n1 n2 (y:=.lst [.str one])
       refine⟨d,_,_,os1,_,2,a1,a2,[],[one],1,rfl,D9,z1,z2,by omega,rfl,by simp,rfl,rfl,by omega,by omega,by omega,fun newl H8 hn s8 D8=>?_⟩
       exact fin (s1.trans (z3.trans s8)) D8 (.refl _) (by omega) (by omega) (by omega)
   ·refine⟨_,rfl,d.S,_,2,_,rfl,rfl,D1.seqS,aN (j:=2) rfl,.ref d.O,os1.length,rfl,.inl ⟨_,bH.of D1.opens,by simp⟩,_,_,rfl,rfl,_,rfl,iu (fun h3=>?_) (fun _=>b)⟩
    have hne1:os1≠[]:=fun z=>by rw [z] at h3;exact absurd (of_decide_eq_true h3) (by decide)
    exact⟨_,rfl,_,rfl,_,rfl,_,rfl,d,ls,ps,os1,c,one,back,odd,rfl,D1,w1,hne1,by omega,hls,hps,fun ls' ps' os' H' X=>k ls' ps' os' H' ⟨s1.trans X.cut,X.at',X.wf,X.o1,X.o4,X.l2,X.p2,X.gv⟩⟩
 ·refine⟨_,rfl,d.S,_,2,_,rfl,rfl,D1.seqS,aN (j:=2) rfl,.ref d.O,os1.length,rfl,.inl ⟨_,bH.of D1.opens,by simp⟩,_,_,rfl,rfl,_,rfl,iu (fun h3=>?_) (fun _=>b)⟩
  have h3:os1.length <3:=by have:=of_decide_eq_true h3;omega
  refine⟨_,rfl,_,rfl,iZ,fun a1 n1=>⟨_,rfl,iZ,fun a2 n2=>?_⟩⟩
  obtain⟨D9,z1,z2,z3⟩:=D1.two n1 n2 (y:=.lst [.str one])
  refine⟨d,_,_,os1,_,3,a1,a2,[],[one],2,rfl,D9,z1,z2,by omega,rfl,by simp,rfl,rfl,by omega,by omega,by omega,fun newl H8 hn s8 D8=>?_⟩
  exact fin (s1.trans (z3.trans s8)) D8 (.refl _) (by omega) (by omega) (by omega)
inductive uT (vs:List V) (H:Hp) (Q:VK) (E:XK):Prop where
 | mk:∀(d:Dw) (ls:List aH) (ps:List PD) (os:List Str) (c:Int) (B:Addr) (back:List Str),vs=[.ref d.S,.int c,.ref B]->mZ d H ls ps os->Drawn.WF (uw ls ps os back)->bA d.E H B=some (.lst (back.map V.str))->os≠[]->os.length<=4->back.length<=2->ls.length<=12->ps.length<=10->Mg ps->(∀ls' ps' H',aK (bA d.E H) (bA d.E H')->mZ d H' ls' ps' []->G4 (ls'.map (·.name)) ps'->ls'.length<=17->ls.length<=ls'.length->ps'.length<=16->1<=ps'.length->Mg ps'->Q .non H')->uT vs H Q E
theorem Fv (T:Txt w K mg t):FO P w K mg base 5 t.wW ["_law_state", "_law_cell_here", "_law_back"] (uT):=by
 have sc:=T.qY.sc ["_law_state", "_law_cell_here", "_law_back", "_law_one", "_law_other", "_law_kind", "_law_lane_here", "_law_fresh"]
 refine T.qY.F.ok sc ln (fun _ _ _ _ H vs Q E hr h=>?_)
 obtain⟨d,ls,ps,os,c,B,back,rfl,D,w,eB,hne,ho,hb,hls,hps,hC,k⟩:=h
 refine⟨_,(ao (Ef PassesOwn.never (aZ Hv (bw bR (by rfl) T.eQ cP (aa (aR aW (pv 0) aq (fun _ _=>rfl)) ak aF)) aq (bF _))
   (ao (sN sc 3 (yG PySem.F.plainAttrs_list PySem.F.slot_list_pop PySem.F.type_list_pop Ge (aR aW (pv 0) aq (fun _ _=>rfl)) (aa aq ak au)))
   (ao (sN sc 4 (yG PySem.F.plainAttrs_list PySem.F.slot_list_pop PySem.F.type_list_pop Ge (aR aW (pv 0) aq (fun _ _=>rfl)) (aa aq ak au)))
   (ao (sN sc 5 (aR aW (bB (aa bK (aa bK (aa bK ak au) au) au)) (bc cz (dJ (bj T) T.bx hr (aa (pv 1) (aa (bw bR (by rfl) T.eQ cP (aa (aR aW (pv 0) aq (fun _ _=>rfl)) ak aF)) ak bf) aj)) aq) (fun _ _=>rfl)))
   (aA (bI (dJ (cQ T) T.cC hr (aa (pv 0) (aa (dJ (bj T) T.bx hr (aa (pv 1) (aa (bc dm aq (bw bR (by rfl) T.eQ cP (aa (aR aW (pv 0) aq (fun _ _=>rfl)) ak aF))) ak bM) aj)) (aa (pv 5) (aa (bB ak) (aa (bB (aa (pv 3) (aa (pv 4) ak aj) aj)) (aa aq ak au) aX) aX) aj) bf) aj))))))))
  (ao (dq PassesOwn.never rfl (bT (pv 2)) (gN sc 6)
   (ao (sN sc 3 (Mr PySem.F.plainAttrs_list PySem.F.slot_list_pop PySem.F.type_list_pop MK (aR aW (pv 0) aq (fun _ _=>rfl))))
   (ao (sN sc 7 (dJ (jR T) T.iM hr (aa (pv 0) (aa (dJ (bj T) T.bx hr (aa (pv 1) (aa (bc dm aq (bw bR (by rfl) T.eQ cP (aa (aR aW (pv 0) aq (fun _ _=>rfl)) ak aF))) ak bM) aj)) (aa iT ak au) bf) aj)))
   (ao (bI (JL (aR aW (pv 0) aq (fun _ _=>rfl)) (aa (cM (aa bK (aa (dJ (nY T) T.jH hr (aa (aR aW (pv 0) aq (fun _ _=>rfl)) (aa (bw bR (by rfl) T.eQ cP (aa (aR aW (pv 0) aq (fun _ _=>rfl)) ak aF)) ak bf) aF)) (aa (bB ak) (aa (bB (aa (pv 3) ak aj)) (aa (bB (aa (pv 6) (aa (pv 7) ak aj) aj)) ak aX) aX) aX) bf) au)) ak cW)))
   (aA (bI (JL (aR aW (pv 0) aq (fun _ _=>rfl)) (aa (pv 7) ak aj))))))))
  (aA (bI (dJ (cQ T) T.cC hr (aa (pv 0) (aa (pv 1) (aa bK (aa (bB ak) (aa (bB (aa (Mr PySem.F.plainAttrs_list PySem.F.slot_list_pop PySem.F.type_list_pop MK (aR aW (pv 0) aq (fun _ _=>rfl))) ak bf)) (aa aq ak au) aX) aX) au) aj) aj)))))),?_⟩
 have hl:sizeLine=16777216:=sizeLine_eq
 have hpos:0 <os.length:=List.length_pos_iff.mpr hne
 refine hide fun u hu=>?_
 refine DW (fun σ H1=>∃(ls1:List aH) (ps1:List PD) (os1:List Str) (v3 v4 v5:Option V),σ=[some (.ref d.S),some (.int c),some (.ref B),v3,v4,v5,none,none]/\aK (bA d.E H) (bA d.E H1)/\mZ d H1 ls1 ps1 os1/\Drawn.WF (uw ls1 ps1 os1 back)/\1<=os1.length/\os1.length<=4/\ls.length<=ls1.length/\ls1.length+os1.length<=16/\ps1.length+os1.length<=14/\Mg ps1)
  (fun _ H1=>Hu H1 d.O) ⟨ls,ps,os,none,none,none,rfl,aK.refl _,D,w,by omega,ho,Nat.le_refl _,by omega,by omega,hC⟩ ?_ ?_
 ·rintro σ H1 ⟨ls1,ps1,os1,v3,v4,v5,rfl,s1,D1,w1,o1,o4,hl1,hl2,hp2,hC1⟩
  refine⟨_,rfl,d.S,_,2,_,rfl,rfl,D1.seqS,aN (j:=2) rfl,.ref d.O,os1.length,rfl,.inl ⟨_,bH.of D1.opens,by simp⟩,_,_,rfl,rfl,_,rfl,iu (fun h3=>?_) (fun h3=>?_)⟩
  ·have h3:1 <os1.length:=by have:=of_decide_eq_true h3;omega
   obtain⟨one,other,os2,rfl⟩:∃one other os2,os1=one:: other:: os2:=by
    match os1,h3 with
    | x:: y:: r,_=>exact⟨x,y,r,rfl⟩
   rw [List.length_cons,List.length_cons] at h3 o1 o4 hl2 hp2
   have lm:=yD D1.opens
   refine YT fun De hD u hu=>?_
   refine⟨_,rfl,d.S,_,2,_,rfl,rfl,D1.seqS,aN (j:=2) rfl,.inl ⟨rfl,_,bH.of D1.opens⟩,d.O,_,0,0,.str one,rfl,rfl,D1.opens,by decide,by decide,NP (by simp),rfl,?_⟩
   have D2:=D1.open (os':=other:: os2)
   have c2:bA d.E (upd H1 d.O (.lst ((other:: os2).map V.str)))=bA d.E H1:=dF (by simp)
   refine du (v:=u) hu fun u hu=>?_
   change yN _ _ _ _ (upd H1 d.O (.lst ((other:: os2).map V.str)))
   generalize upd H1 d.O (.lst ((other:: os2).map V.str))=H2 at D2 c2 ⊢
   refine⟨_,rfl,d.S,_,2,_,rfl,rfl,D2.seqS,aN (j:=2) rfl,.inl ⟨rfl,_,bH.of D2.opens⟩,d.O,_,0,0,.str other,rfl,rfl,D2.opens,by decide,by decide,NP (by simp),rfl,?_⟩
   have D3:=D2.open (os':=os2)
   have c3:bA d.E (upd H2 d.O (.lst (os2.map V.str)))=bA d.E H2:=dF (by simp)
   refine du (v:=u) hu fun u hu=>?_
   change yN _ _ _ _ (upd H2 d.O (.lst (os2.map V.str)))
   generalize upd H2 d.O (.lst (os2.map V.str))=H3 at D3 c3 ⊢
   have s3:aK (bA d.E H) (bA d.E H3):=by rw [c3,c2];exact s1
   refine⟨iZ,fun a0 n0=>?_⟩
   have s0:=aB (o:=.lst [.str "add",.str "less",.str "add"]) n0
   have D0:=D3.keep s0
   have c0:=s3.trans (D3.cut s0)
   refine⟨_,rfl,_,rfl,d.S,_,2,_,rfl,rfl,D0.seqS,aN (j:=2) rfl,.ref d.O,os2.length,rfl,.inl ⟨_,bH.of D0.opens,by simp⟩,c,(os2.length:Int),rfl,_,_,rfl,rfl,by show(0:Int) <3;decide,?_⟩
   obtain⟨i,ei,hi⟩:=YW (cg c (os2.length:Int))
   refine⟨a0,_,_,_,rfl,rfl,bH.of az,ei,?_⟩
   generalize upd H3 a0 (.lst [.str "add",.str "less",.str "add"])=H0 at s0 D0 c0 ⊢
   obtain⟨xs,eP,aP⟩:=D0.parts
   have xl:=aP.length
   have hN:([]:List Int).length=cN i:=by rcases hi with rfl | rfl <;> rfl
   have hI:[one,other].length=cI i:=by rcases hi with rfl | rfl <;> rfl
   have hO:1=cO i:=by rcases hi with rfl | rfl <;> rfl
   subst hu
   refine⟨_,rfl,_,rfl,_,rfl,d.S,_,1,_,rfl,rfl,D0.seqS,aN (j:=1) rfl,.ref d.P,ps1.length,rfl,.inl ⟨_,bH.of eP,xl.symm⟩,_,_,rfl,rfl,_,_,rfl,?_⟩
   refine⟨_,rfl,iZ,fun a1 n1=>⟨_,rfl,_,rfl,iZ,fun a2 n2=>?_⟩⟩
   obtain⟨D9,z1,z2,z3⟩:=D0.two n1 n2 (y:=.lst [.str one,.str other])
   refine⟨d,_,_,os2,_,i,a1,a2,[],[one,other],1,rfl,D9,z1,z2,by omega,hN,by simp,hI,hO,by omega,by omega,by omega,fun newl H8 hn s8 D8=>?_⟩
   have w8:=rG w1 rfl D8 (.refl _) (by omega) (by rw [lP];omega)
   subst hD
   refine⟨⟨_,_,_,_,_,_,rfl,c0.trans (z3.trans s8),D8,w8,?_,?_,?_,?_,?_,hC1.app⟩,?_⟩
   ·rw [lP,lM];omega
   ·rw [lP,lM];omega
   ·rw [lP];omega
   ·rw [lP,lP,lM];omega
   ·rw [lP,lP,lM,List.length_singleton];omega
   ·rw [yD D8.opens,lm,lM,lM,lP,lM,List.length_cons,List.length_cons]
    omega
  ·have h3:os1.length=1:=by
    have:¬(1:Int) <(os1.length:Int):=fun z=>h3 (decide_eq_true z)
    omega
   obtain⟨y,rfl⟩:=List.length_eq_one_iff.mp h3
   refine du (v:=u) hu fun u hu=>?_
   refine⟨_,rfl,B,rfl,⟨_,bH.of (bQ _ _ (s1 _ _ eB))⟩,?_⟩
   refine dD (K:=K) (a:=B) (xs:=back.map V.str) (fun j σ H2=>∃(ls2:List aH) (ps2:List PD) (y:Str) (u3 u6 u7:Option V),σ=[some (.ref d.S),some (.int c),some (.ref B),u3,v4,v5,u6,u7]/\aK (bA d.E H) (bA d.E H2)/\mZ d H2 ls2 ps2 [y]/\Drawn.WF (uw ls2 ps2 [y] (back.drop j))/\ls.length<=ls2.length/\ls2.length<=15+j/\ps2.length<=13+j/\Mg ps2) ⟨ls1,ps1,y,v3,none,none,rfl,s1,D1,w1,hl1,by have z:=hl2;rw [List.length_singleton] at z;omega,by have z:=hp2;rw [List.length_singleton] at z;omega,hC1⟩ (fun j σ H2 _ ⟨ls2,ps2,y,u3,u6,u7,e,s2,h⟩=>bH.of (bQ _ _ (s2 _ _ eB))) ?_ ?_
   ·rintro j x σ H2 hx ⟨ls2,ps2,y2,u3,u6,u7,rfl,s2,D2,w2,hl2',hl3,hp3,hC2⟩
    rw [List.getElem?_map] at hx
    obtain⟨bn,hbn,rfl⟩:=Option.map_eq_some_iff.mp hx
    have hj:j <back.length:=by
     rcases Nat.lt_or_ge j back.length with h | h
     ·exact h
     ·rw [List.getElem?_eq_none h] at hbn;cases hbn
    have hdr:back.drop j=bn:: back.drop (j+1):=by
     rw [List.drop_eq_getElem_cons hj]
     rw [List.getElem?_eq_getElem hj,Option.some.injEq] at hbn
     rw [hbn]
    refine SJ fun De hD u hu=>?_
    refine⟨_,rfl,d.S,_,2,_,rfl,rfl,D2.seqS,aN (j:=2) rfl,.inl ⟨rfl,_,bH.of D2.opens⟩,d.O,_,.str y2,rfl,rfl,D2.opens,rfl,?_⟩
    have D3:=D2.open (os':=[])
    have c3:bA d.E (upd H2 d.O (.lst (([]:List Str).map V.str)))=bA d.E H2:=dF (by simp)
    refine du (v:=u) hu fun u hu=>?_
    change yN _ _ _ _ (upd H2 d.O (.lst (([]:List Str).map V.str)))
    generalize upd H2 d.O (.lst (([]:List Str).map V.str))=H3 at D3 c3 ⊢
    obtain⟨xs,eP,aP⟩:=D3.parts
    have xl:=aP.length
    refine⟨_,rfl,_,rfl,_,rfl,d.S,_,1,_,rfl,rfl,D3.seqS,aN (j:=1) rfl,.ref d.P,ps2.length,rfl,.inl ⟨_,bH.of eP,xl.symm⟩,_,_,rfl,rfl,_,_,rfl,d,ls2,ps2,[],_,false,rfl,D3,by omega,fun l H4 _ s4 D4=>?_⟩
    rw [c3] at s4
    have s24:=s2.trans s4
    obtain⟨xs4,eP4,aP4⟩:=D4.parts
    have xl4:=aP4.length
    refine du (v:=u) hu fun u hu=>?_
    refine⟨_,rfl,d.S,_,1,_,rfl,rfl,D4.seqS,aN (j:=1) rfl,.inl ⟨rfl,_,bH.of eP4⟩,?_⟩
    refine⟨_,rfl,d.S,_,4,_,rfl,rfl,D4.seqS,aN (j:=4) rfl,?_⟩
    refine⟨_,rfl,d.S,_,1,_,rfl,rfl,D4.seqS,aN (j:=1) rfl,.ref d.P,ps2.length,rfl,.inl ⟨_,bH.of eP4,xl4.symm⟩,?_⟩
    refine⟨d.c4,ps2.length,rfl,by omega,fun H5 s5=>?_⟩
    have D5:=D4.keep s5
    have c5:=s24.trans (D4.cut s5)
    have eP5:=s5 _ _ eP4
    refine⟨iZ,fun a1 n1=>⟨_,rfl,iZ,fun a2 n2=>⟨_,rfl,_,rfl,iZ,fun a3 n3=>⟨iZ,fun q nq=>?_⟩⟩⟩⟩
    obtain⟨D6,z1,z2,z3⟩:=D5.two n1 n2 (y:=.lst [.str y2])
    have t6:aK H5 (upd (upd H5 a1 (.lst [])) a2 (.lst [.str y2])):=(aB n1).trans (aB n2)
    have eP6:=t6 _ _ eP5
    generalize upd (upd H5 a1 (.lst [])) a2 (.lst [.str y2])=H6 at D6 z1 z2 z3 t6 eP6 n3 nq ⊢
    obtain⟨D7,y1,y2',y3⟩:=D6.two n3 nq (y:=.tup [.str "copy",.str (cT d.c4 ps2.length),.ref a1,.ref a2,.ref a3])
    have t7:aK H6 (upd (upd H6 a3 (.lst [.str bn,.str l.name])) q (.tup [.str "copy",.str (cT d.c4 ps2.length),.ref a1,.ref a2,.ref a3])):=(aB n3).trans (aB nq)
    have eP7:=t7 _ _ eP6
    generalize upd (upd H6 a3 (.lst [.str bn,.str l.name])) q (.tup [.str "copy",.str (cT d.c4 ps2.length),.ref a1,.ref a2,.ref a3])=H7 at D7 y1 y2' y3 t7 eP7 ⊢
    have c7:=c5.trans (z3.trans y3)
    refine⟨d.P,xs4,_,rfl,rfl,eP7,by omega,?_⟩
    have D8:=D7.part (p:=⟨3,cT d.c4 ps2.length,[],[y2],[bn,l.name]⟩) ⟨q,a1,a2,a3,rfl,y2',y3 _ _ z1,y3 _ _ z2,y1⟩ ⟨by show 3 <11;omega,rfl,rfl,rfl,by simp⟩ rfl eP7
    have c8:bA d.E (upd H7 d.P (.lst (xs4 ++ [.ref q])))=bA d.E H7:=dF (by simp)
    generalize upd H7 d.P (.lst (xs4 ++ [.ref q]))=H8 at D8 c8 ⊢
    subst hu
    refine⟨_,rfl,d.S,_,2,_,rfl,rfl,D8.seqS,aN (j:=2) rfl,.inl ⟨rfl,_,bH.of D8.opens⟩,_,rfl,d.O,_,_,rfl,rfl,D8.opens,by simp;omega,?_⟩
    have D9:=D8.open (os':=[l.name])
    have nd:=D9.nod (by rw [lP,List.length_singleton];omega)
    rw [hdr] at w2
    have wc:=w2.closeBack (p:=⟨3,cT d.c4 ps2.length,[],[y2],[bn,l.name]⟩) (rest:=back.drop (j+1)) (one:=y2) (b:=bn) (fresh:=l.name) rfl rfl (.refl _) rfl (by simpa using nd)
    subst hD
    exact⟨ls2 ++ [l],_,l.name,_,_,_,rfl,by rw [dF (by simp),c8];exact c7,D9,by simpa [uw] using wc,by rw [lP];omega,by rw [lP,List.length_singleton];omega,by rw [lP,List.length_singleton];omega,hC2.app⟩
   rintro σ H2 ⟨ls2,ps2,y2,u3,u6,u7,rfl,s2,D2,w2,hl2',hl3,hp3,hC2⟩
   rw [lM] at w2 hl3 hp3
   rw [List.drop_length] at w2
   subst hu
   refine⟨_,rfl,_,rfl,iZ,fun a3 n3=>?_⟩
   have t3:=aB (o:=.lst []) n3
   have D3:=D2.keep t3
   have c3:=s2.trans (D2.cut t3)
   have o3:=D2.out n3
   have e3:=dR (az (H:=H2) (a:=a3) (o:=.lst ([]:List V))) o3
   generalize upd H2 a3 (.lst [])=H3 at t3 D3 c3 e3 ⊢
   refine⟨_,rfl,d.S,_,2,_,rfl,rfl,D3.seqS,aN (j:=2) rfl,.inl ⟨rfl,_,bH.of D3.opens⟩,d.O,_,.str y2,rfl,rfl,D3.opens,rfl,?_⟩
   have D4:=D3.open (os':=[])
   have c4:bA d.E (upd H3 d.O (.lst (([]:List Str).map V.str)))=bA d.E H3:=dF (by simp)
   rw [show([y2].map V.str).dropLast=([]:List Str).map V.str from rfl]
   refine⟨iZ,fun a4 n4=>?_⟩
   generalize upd H3 d.O (.lst (([]:List Str).map V.str))=H4 at D4 c4 n4 ⊢
   have s5:=aB (o:=.lst [.str y2]) n4
   have D5:=D4.keep s5
   have c5:=D4.cut s5
   rw [c4] at c5
   have e5:=dR (E:=d.E) (H:=upd H4 a4 (.lst [.str y2])) az (D4.out n4)
   refine⟨d,ls2,ps2,[],_,1,a3,a4,[],[y2],0,rfl,D5,c5 _ _ e3,e5,by omega,rfl,by simp,rfl,rfl,by omega,by omega,by simp,fun newl2 H9 hn2 s9 D9=>?_⟩
   have hz:newl2=[]:=List.length_eq_zero_iff.mp hn2
   subst hz
   rw [List.map_nil,List.append_nil,List.append_nil] at D9
   obtain⟨x1,x2,x3⟩:=w2.last (p:=⟨1,cT d.c4 ps2.length,[],[y2],[]⟩) (y:=y2) rfl rfl rfl rfl
   exact k ls2 _ H9 (c3.trans (c5.trans s9)) D9 ⟨w2.nod,x1,x2,y2,x3⟩ (by omega) hl2' (by rw [lP,List.length_singleton];omega) (by rw [lP,List.length_singleton];omega) hC2.app
 ·intro σ H' Q' Q'' hm hq
  obtain⟨x1,x2,x3,x4,x5,x6,x7,x8,x9,x10,x11,x12,x13,x14,x15,x16,x17,x18,x19,x20,q⟩:=hq
  exact⟨x1,x2,x3,x4,x5,x6,x7,x8,x9,x10,x11,x12,x13,x14,x15,x16,x17,x18,x19,x20,hm _ _ q⟩
inductive Ao (K:PySem.W.Frag) (vs:List V) (H:Hp) (Q:VK) (E:XK):Prop where
 | mk:∀(a:Addr) (ns:List Int) (start steps:Nat) (odd:Bool),vs=[.ref a,.int (start:Nat),.int (steps:Nat),.bl odd]->bH K H a (ns.map V.int)->steps<=4->(∀(T L P:Addr) (ls:List aH) (ps:List PD) (H':Hp),aK H H'->H L=none->H P=none->L≠P->H' T=some (.tup [.ref L,.ref P])->P0 H' L P ls ps->Rn (jP ns start) (jP ns (start+1)) ls ps->Q (.ref T) H')->Ao K vs H Q E
noncomputable abbrev Fb:List Str:=["_law_script", "_law_start", "_law_steps", "_law_odd", "_law_one", "_law_other", "_law_state", "_law_k", "_law_back", "_law_at"]
theorem KZ (T:Txt w K mg t):FO P w K mg base 7 t.FT ["_law_script", "_law_start", "_law_steps", "_law_odd"] (Ao K):=by
 have sc:=T.yc.sc Fb
 refine T.yc.F.ok sc ln (fun _ _ _ _ H vs Q E hr h=>?_)
 obtain⟨a,ns,start,steps,odd,rfl,hS,hst,k⟩:=h
 refine⟨_,(ao (sN sc 4 (dJ (jc T) T.gU hr (aa (pv 0) (aa (pv 1) ak aj) aj)))
  (ao (sN sc 5 (dJ (jc T) T.gU hr (aa (pv 0) (aa (bc dm (pv 1) aq) ak bM) aj)))
  (ao (sN sc 6 (bB (aa (bB ak) (aa (bB ak) (aa (bB ak) (aa (pv 4) (aa (pv 5) ak aj) aj) aX) aX) aX)))
  (ao (dq PassesOwn.never rfl (fC rfl T.iC (aa (bc dm aq (bc cz (dJ (bj T) T.bx hr (aa (pv 4) (aa aq ak au) aj)) aq)) ak bM)) (gN sc 7)
   (aA (bI (dJ (cQ T) T.cC hr (aa (pv 6) (aa (dJ (bj T) T.bx hr (aa (pv 5) (aa (pv 7) ak aj) aj)) (aa bK (aa (bB ak) (aa (bB ak) (aa aq ak au) aX) aX) au) bf) aj)))))
  (ao (jX (i:=8) [5,6] Fb (aV (top 83)) rfl sc.nd rfl (fC rfl T.iC (aa (bc cz (dJ (bj T) T.bx hr (aa (pv 4) (aa aq ak au) aj)) aq) ak bM)) (fun _ _ _ _ _=>gM) (fun _ _ _ _ _=>(dJ (jR T) T.iM hr (aa (pv 2) (aa (dJ (bj T) T.bx hr (aa (pv 1) (aa (bc dm aq (pv 0)) ak bM) aj)) (aa iT ak au) bf) aj))))
  (ao (bI (yG PySem.F.plainAttrs_list PySem.F.slot_list_extend PySem.F.type_list_extend Ij (aR aW (pv 6) aq (fun _ _=>rfl)) (aa (pv 8) ak aj)))
  (ao (dq PassesOwn.never rfl (fC rfl T.iC (aa (pv 2) ak aj)) (gN sc 7)
   (aA (bI (dJ (J2 T) T.uO hr (aa (pv 6) (aa (dJ (jc T) T.gU hr (aa (pv 0) (aa (bc dm (bc dm (pv 1) aq) (pv 7)) ak bM) aj)) (aa (pv 3) ak aj) bf) aj)))))
  (ao (bI (dJ (Fv T) T.qY hr (aa (pv 6) (aa (pv 5) (aa (pv 8) ak aj) aj) aj)))
  (ao (sN sc 9 (bc cz (dJ (bj T) T.bx hr (aa (pv 4) (aa aq ak au) aj)) (bw bR (by rfl) T.eQ cP (aa (aR aW (pv 6) aq (fun _ _=>rfl)) ak aF))))
  (aA (aO (cM (aa (aR aW (pv 6) aq (fun _ _=>rfl)) (aa (bc NK (jl qi (aR aW (pv 6) aq (fun _ _=>rfl)) (jU (pv 9)) m8) (jl qi (aR aW (pv 6) aq (fun _ _=>rfl)) m8 (jU (pv 9)))) ak bM) aF))))))))))))),?_⟩
 have hl:sizeLine=16777216:=sizeLine_eq
 refine hide fun u hu=>?_
 refine⟨_,rfl,_,rfl,a,ns,start,rfl,hS,?_⟩
 refine du (v:=u) hu fun u hu=>?_
 refine⟨_,rfl,_,rfl,_,_,rfl,rfl,a,ns,start+1,rfl,hS,?_⟩
 refine du (v:=u) hu fun u hu=>?_
 refine⟨iZ,fun L nL=>⟨iZ,fun P' nP=>⟨iZ,fun O nO=>⟨_,rfl,_,rfl,iZ,fun S nS=>?_⟩⟩⟩⟩
 obtain⟨D1,s1,nP0⟩:=mZ.init (jP ns start) (jP ns (start+1)) nL nP nO nS
 have nLP:L≠P':=D1.ne.1
 refine du (v:=u) hu fun u hu=>?_
 change yN _ _ _ [some (.ref a),some (.int (start:Nat)),some (.int (steps:Nat)),some (.bl odd),some (.int (jP ns start)),some (.int (jP ns (start+1))),some (.ref S),none,none,none] (upd (upd (upd (upd H L (.lst [])) P' (.lst [])) O (.lst [])) S (.lst [.ref L,.ref P',.ref O,.int (jP ns start),.int (jP ns (start+1))]))
 generalize upd (upd (upd (upd H L (.lst [])) P' (.lst [])) O (.lst [])) S (.lst [.ref L,.ref P',.ref O,.int (jP ns start),.int (jP ns (start+1))])=H1 at D1 s1 ⊢
 obtain⟨d,hd⟩:∃d:Dw,d=⟨S,L,P',O,jP ns start,jP ns (start+1)⟩:=⟨_,rfl⟩
 rw [<-hd] at D1
 have hE:[L,P',O]=d.E:=by rw [hd]
 have hSd:S=d.S:=by rw [hd]
 have hLd:L=d.L:=by rw [hd]
 have hc3:jP ns start=d.c3:=by rw [hd]
 have hc4:jP ns (start+1)=d.c4:=by rw [hd]
 rw [hE] at s1
 rw [hLd] at nL nLP
 rw [hc3,hc4] at k
 rw [hSd,hc3,hc4]
 clear hd hE nP nO nS
 have g0:=Int.emod_nonneg (cg d.c3 5) (show(2:Int)≠0 by decide)
 have g1:=Int.emod_lt_of_pos (cg d.c3 5) (show(0:Int) <2 by decide)
 refine⟨_,rfl,_,_,rfl,_,_,rfl,rfl,by show(0:Int) <2;decide,_,_,rfl,rfl,1+cg d.c3 5 % 2,rfl,by omega,by omega,?_⟩
 obtain⟨g,hg,hg1,hg2⟩:∃g:Nat,(1+cg d.c3 5 % 2).toNat=g/\1<=g/\g<=2:=⟨_,rfl,by omega,by omega⟩
 rw [hg]
 refine oE (fun j σ H2=>∃(ls:List aH) (ps:List PD) (os:List Str) (v7:Option V),σ=[some (.ref a),some (.int (start:Nat)),some (.int (steps:Nat)),some (.bl odd),some (.int d.c3),some (.int d.c4),some (.ref d.S),v7,none,none]/\aK (bA d.E H1) (bA d.E H2)/\mZ d H2 ls ps os/\Drawn.WF (uw ls ps os [])/\ls.length=j/\ps.length=j/\os.length=j/\(1<=j->Mg ps)) ⟨[],[],[],none,rfl,aK.refl _,D1,Drawn.WF.start,rfl,rfl,rfl,fun h=>absurd h (by decide)⟩ ?_ ?_
 ·rintro j σ H2 hj ⟨ls,ps,os,v7,rfl,s2,D2,w2,h1,h2,h3,hC⟩
  refine Wd fun De hD=>?_
  refine⟨_,rfl,_,rfl,_,rfl,_,_,rfl,iZ,fun a1 n1=>⟨iZ,fun a2 n2=>?_⟩⟩
  obtain⟨D9,z1,z2,z3⟩:=D2.two n1 n2 (y:=.lst [])
  refine⟨d,ls,ps,os,_,0,a1,a2,[],[],1,rfl,D9,z1,z2,by omega,rfl,by simp,rfl,rfl,by omega,by omega,by omega,fun newl H8 hn s8 D8=>?_⟩
  have w8:=rG w2 rfl D8 (.refl _) (by omega) (by rw [lP];omega)
  subst hD
  exact⟨_,_,_,_,rfl,s2.trans (z3.trans s8),D8,w8,by rw [lP];omega,by rw [lP,List.length_singleton];omega,by rw [lP,lM];omega,fun _=>by unfold Mg;rw [List.any_append];simp⟩
 rintro σ H2 ⟨ls,ps,os,v7,rfl,s2,D2,w2,h1,h2,h3,hC⟩
 have b0:=Int.emod_nonneg (cg d.c3 6) (show(3:Int)≠0 by decide)
 have b1:=Int.emod_lt_of_pos (cg d.c3 6) (show(0:Int) <3 by decide)
 refine du (v:=u) hu fun u hu=>?_
 refine⟨_,rfl,_,_,rfl,_,_,rfl,rfl,by show(0:Int) <3;decide,cg d.c3 6 % 3,rfl,by omega,by omega,?_⟩
 obtain⟨nb,hnb,hnb2⟩:∃nb:Nat,(cg d.c3 6 % 3).toNat=nb/\nb<=2:=⟨_,rfl,by omega⟩
 rw [hnb]
 refine jE (fun j ys H3=>∃(ls3:List aH) (bl:List Str),ys=bl.map V.str/\bl.length=j/\aK (bA d.E H1) (bA d.E H3)/\mZ d H3 ls3 ps os/\Drawn.WF (uw ls3 ps (os ++ bl) bl)/\ls3.length=g+j) (by omega) ⟨ls,[],rfl,rfl,s2,D2,by rw [List.append_nil];exact w2,by omega⟩ (fun j ys H3 ⟨_,bl,e,e2,_⟩=>by rw [e,lM];omega) ?_ ?_
 ·rintro j ys H3 hj ⟨ls3,bl,rfl,hb,s3,D3,w3,h4⟩
  refine yes ⟨_,rfl,_,rfl,_,rfl,_,_,rfl,rfl,_,_,rfl,d,ls3,ps,os,_,true,rfl,D3,by omega,fun l H4 _ s4 D4=>?_⟩
  have nd:=D4.nod (by rw [lP,List.length_singleton];omega)
  have wb:=w3.backLane (b:=l.name) (by simpa using nd)
  exact⟨ls3 ++ [l],bl ++ [l.name],by simp,by simp [hb],s3.trans s4,D4,by simpa [uw] using wb,by rw [lP,List.length_singleton];omega⟩
 rintro ys H3 ⟨ls3,bl,rfl,hbl,s3,D3,w3,h4⟩ B nB
 have t4:=aB (o:=.lst (bl.map V.str)) nB
 have D4:=D3.keep t4
 have s4:=s3.trans (D3.cut t4)
 have eB:=dR (az (H:=H3) (a:=B) (o:=.lst (bl.map V.str))) (D3.out nB)
 generalize upd H3 B (.lst (bl.map V.str))=H4 at t4 D4 s4 eB ⊢
 refine du (v:=u) hu fun u hu=>?_
 refine⟨_,rfl,d.S,_,2,_,rfl,rfl,D4.seqS,aN (j:=2) rfl,.inl ⟨rfl,_,bH.of D4.opens⟩,_,rfl,d.O,B,_,_,rfl,rfl,D4.opens,bQ _ _ eB,by rw [lM,lM];omega,?_⟩
 rw [<-List.map_append]
 have D5:=D4.open (os':=os ++ bl)
 have c5:bA d.E (upd H4 d.O (.lst ((os ++ bl).map V.str)))=bA d.E H4:=dF (by simp)
 generalize upd H4 d.O (.lst ((os ++ bl).map V.str))=H5 at D5 c5 ⊢
 rw [<-c5] at s4 eB
 refine du (v:=u) hu fun u hu=>?_
 refine⟨_,rfl,(steps:Int),rfl,by omega,by omega,?_⟩
 rw [Int.toNat_natCast]
 refine oE (fun j σ H6=>∃(ls6:List aH) (ps6:List PD) (os6:List Str) (v7:Option V),σ=[some (.ref a),some (.int (start:Nat)),some (.int (steps:Nat)),some (.bl odd),some (.int d.c3),some (.int d.c4),some (.ref d.S),v7,some (.ref B),none]/\aK (bA d.E H5) (bA d.E H6)/\mZ d H6 ls6 ps6 os6/\Drawn.WF (uw ls6 ps6 os6 bl)/\1<=ls6.length/\ls6.length<=4+2 * j/\ps6.length<=2+2 * j/\os6≠[]/\os6.length<=4/\Mg ps6) ⟨ls3,ps,os ++ bl,v7,rfl,aK.refl _,D5,w3,by omega,by omega,by omega,by intro z;have:=congrArg List.length z;rw [lP,List.length_nil] at this;omega,by rw [lP];omega,hC (by omega)⟩ ?_ ?_
 ·rintro j σ H6 hj ⟨ls6,ps6,os6,u7,rfl,s6,D6,w6,l0,l6,p6,o0,o6,hC6⟩
  have hS6:bH K H6 a (ns.map V.int):=bQ.seq ((s1.trans (s4.trans s6)).seq hS)
  refine Wd fun De hD=>?_
  refine⟨_,rfl,_,rfl,_,rfl,_,_,rfl,rfl,_,rfl,_,_,rfl,rfl,a,ns,start+2+(0+j),rfl,hS6,_,rfl,d,ls6,ps6,os6,_,bl,odd,rfl,D6,w6,o0,o6,by omega,by omega,fun ls' ps' os' H' X=>?_⟩
  subst hD
  exact⟨ls',ps',os',_,rfl,s6.trans X.cut,X.at',X.wf,by have h1:=X.wf.ins.length_eq;have h2:=X.o1;rw [lP,lM] at h1;change _+os'.length=_ at h1;omega,by have:=X.l2;omega,by have:=X.p2;omega,by intro z;have:=X.o1;rw [z] at this;simp at this,X.o4,X.gv hC6⟩
 rintro σ H6 ⟨ls6,ps6,os6,u7,rfl,s6,D6,w6,l0,l6,p6,o0,o6,hC6⟩
 refine du (v:=u) hu fun u hu=>?_
 refine⟨_,rfl,_,rfl,_,rfl,d,ls6,ps6,os6,_,B,bl,rfl,D6,w6,s6 _ _ eB,o0,o6,by omega,by omega,by omega,hC6,fun ls7 ps7 H7 s7 D7 W7 l17 l7 p16 p1 hC7=>?_⟩
 obtain⟨xsL,eL,aL⟩:=D7.lanes
 obtain⟨xsP,eP,aP⟩:=D7.parts
 have xl:=aP.length
 refine du (v:=u) hu fun u hu=>?_
 refine⟨_,rfl,_,_,rfl,_,rfl,d.S,_,1,_,rfl,rfl,D7.seqS,aN (j:=1) rfl,.ref d.P,ps7.length,rfl,.inl ⟨_,bH.of eP,xl.symm⟩,cg d.c3 7,(ps7.length:Int),rfl,rfl,by omega,?_⟩
 have r0:=Int.emod_nonneg (cg d.c3 7) (show(ps7.length:Int)≠0 by omega)
 obtain⟨r,hr'⟩:∃r:Nat,cg d.c3 7 % (ps7.length:Int)=(r:Int):=⟨_,(Int.toNat_of_nonneg r0).symm⟩
 dsimp only
 rw [hr']
 subst hu
 refine⟨_,rfl,d.S,_,0,_,rfl,rfl,D7.seqS,aN (j:=0) rfl,?_⟩
 refine⟨_,rfl,d.S,_,1,_,rfl,rfl,D7.seqS,aN (j:=1) rfl,?_⟩
 refine⟨_,rfl,_,rfl,d.P,_,rfl,bH.of eP,fun q1 m1=>?_⟩
 rw [zZ]
 have t1:=aB (o:=.lst (xsP.drop r)) m1
 have f1:upd H7 q1 (.lst (xsP.drop r)) q1=some (.lst (xsP.drop r)):=az
 have D8:=D7.keep t1
 have eP8:=t1 _ _ eP
 have eL8:=t1 _ _ eL
 generalize upd H7 q1 (.lst (xsP.drop r))=H8 at t1 f1 D8 eP8 eL8 ⊢
 refine⟨_,rfl,d.S,_,1,_,rfl,rfl,D8.seqS,aN (j:=1) rfl,_,rfl,_,rfl,d.P,_,rfl,bH.of eP8,fun q2 m2=>?_⟩
 rw [Vh]
 have t2:=aB (o:=.lst (xsP.take r)) m2
 have f2:upd H8 q2 (.lst (xsP.take r)) q2=some (.lst (xsP.take r)):=az
 have f12:=t2 _ _ f1
 have eL9:=t2 _ _ eL8
 generalize upd H8 q2 (.lst (xsP.take r))=H9 at t2 f2 f12 eL9 ⊢
 refine⟨q1,q2,_,_,rfl,rfl,f12,f2,by rw [List.length_drop,List.length_take];omega,fun q3 m3=>?_⟩
 have t3:=aB (o:=.lst (xsP.drop r ++ xsP.take r)) m3
 have f3:upd H9 q3 (.lst (xsP.drop r ++ xsP.take r)) q3=some (.lst (xsP.drop r ++ xsP.take r)):=az
 have eLA:=t3 _ _ eL9
 generalize upd H9 q3 (.lst (xsP.drop r ++ xsP.take r))=HA at t3 f3 eLA ⊢
 refine⟨iZ,fun T' nT=>?_⟩
 have t4:=aB (o:=.tup [.ref d.L,.ref q3]) nT
 have sA:aK H7 (upd HA T' (.tup [.ref d.L,.ref q3])):=t1.trans (t2.trans (t3.trans t4))
 have s17:aK H (bA d.E H7):=s1.trans (s4.trans (s6.trans s7))
 have s07:aK H H7:=s17.trans bQ
 have free3:H q3=none:=s07.free (t1.free (t2.free m3))
 have cA:aK (bA d.E H7) (upd HA T' (.tup [.ref d.L,.ref q3])):=bQ.trans sA
 have nq:d.L≠q3:=aD eL9 m3
 have rp:=Uo ps7 r
 refine k T' d.L q3 ls7 (ps7.drop r ++ ps7.take r) _ (s07.trans sA) nL free3 nq az ⟨⟨xsL,t4 _ _ eLA,aL.imp fun _ _ h=>h.same cA⟩,⟨_,t4 _ _ f3,((aP.drop r).app (aP.take r)).imp fun _ _ h=>h.same cA⟩⟩ ⟨D7.lok,fun p hp=>D7.pok p (rp.mem_iff.mpr hp),D7.ln,?_,W7.perm rp,by omega,l17,by rw [<-rp.length_eq];exact p1,by rw [<-rp.length_eq];exact p16,by unfold Mg at hC7 ⊢;rw [<-rp.any_eq];exact hC7⟩
 rw [<-rp.length_eq,<-D7.pn]
 exact rp.map _
inductive Ek (K:PySem.W.Frag) (vs:List V) (H:Hp) (Q:VK) (E:XK):Prop where
 | mk:∀x,vs=[x]->(((∃z:Str,x=.str z/\z.length<=100/\∀H',aK H H'->Q (.bl (nameB z)) H')∨∃Tx,ZX K H x Tx/\Tx∈qI/\Tx≠ "str" /\Q (.bl false) H))->Ek K vs H Q E
theorem Mw (T:Txt w K mg t):FO P w K mg base 1 t.G7 ["thing"] (Ek K):=by
 have sc:=T.z9.sc ["thing"]
 refine T.z9.F.ok sc ln (fun _ _ _ _ H vs Q E hr h=>?_)
 obtain⟨x,rfl,h⟩:=h
 refine⟨_,(ao (bO (PW.pt (vp (jD (gB (bw zB (by rfl) T.mX kZ (aa (pv 0) (aa (Cw (by rfl) T.W0 Rm) ak aj) aj)))) (oJ (jD (yO xf xf aq (bw bR (by rfl) T.eQ cP (aa (pv 0) ak aj)) (ju (by rfl) T.Fz))))))
   (aA (aO iT))
   bu)
  (aA (aO (zP (kW Aa (aR Em (pv 0) aq (fun _ _=>rfl)) (ju (by rfl) T.Ie) (by with_unfolding_all rfl)) (xT (bw (yu rfl) (by rfl) T.Ob Jf (aa (eN [] ["thing"] (aV (top 30)) rfl (XS (pv 0)) (fun _ _ _ _ _=>gM) (fun _ _ _ _ _=>(Wz (kW Aa (pv 0) (ju (by rfl) T.Ie) (by with_unfolding_all rfl)) (xT (kW Aa (pv 0) (ju (by rfl) T.Qe) (by with_unfolding_all rfl)))))) ak fB))))))),?_⟩
 have hl:sizeLine=16777216:=sizeLine_eq
 rcases h with ⟨z,rfl,hz,k⟩ | ⟨Tx,ty,hm,hne,k⟩
 ·refine⟨_,rfl,.str z, "str", "str",true,rfl,rfl,by decide,by decide,_,rfl,cB ?_⟩
  refine⟨_,rfl,.str z,z.length,rfl,⟨by omega,rfl⟩,_,_,rfl,rfl,_,rfl,?_⟩
  cases e:z.cps.toList with
  | nil=>
   have h0:z.length=0:=by rw [<-n8,e];rfl
   rw [h0]
   refine cB ⟨_,rfl,gh ?_⟩
   have:=k H (aK.refl _)
   unfold nameB at this
   rw [e] at this
   exact this
  | cons c r=>
   have hlen:z.length=r.length+1:=by rw [<-n8,e];rfl
   refine xR (by omega) ⟨_,_,rfl,rfl,_,rfl,iu (fun h=>?_) (fun h=>?_)⟩
   ·have h8:¬(z.length:Int)<=8:=by simpa using h
    have:=k H (aK.refl _)
    unfold nameB at this
    rw [e] at this
    simp only [show ¬r.length<=7 by omega,decide_false,Bool.false_and] at this
    exact this
   ·have h8:(z.length:Int)<=8:=by simpa using h
    have hc0:Gk z.cps.toList 0=some c:=by rw [e];exact aN (xs:=c:: r) (j:=0) rfl
    refine⟨_,rfl,z,_,c,rfl,rfl,by omega,hc0,_,_,rfl,rfl,_,rfl,?_⟩
    have kk:∀H',aK H H'->Q (.bl (low c && z.cps.toList.all fun d=>low d || MJ d)) H':=fun H' s'=>by
     have:=k H' s'
     unfold nameB at this
     rw [e] at this ⊢
     simp only [show r.length<=7 by omega,decide_true,Bool.true_and] at this
     exact this
    rw [Rg]
    refine iu (fun hc=>?_) (fun hc=>?_)
    ·rw [hc,Bool.true_and] at kk
     refine⟨_,rfl,z,rfl,TQ (fun i ys H'=>H'=H/\ys=((z.cps.toList.take i).map fun d=>low d || MJ d).map V.bl) (by simp only [Str.length] at hz;omega) ⟨rfl,by simp⟩ (fun i ys H' ⟨_,e⟩=>by rw [e];simp only [lM,List.length_take];omega) ?_ ?_⟩
     ·rintro i d ys H' hd ⟨rfl,rfl⟩
      refine yes ⟨_,rfl,_,_,rfl,rfl,_,rfl,?_⟩
      have hd':z.cps.toList[i]?=some d:=by simpa using hd
      have next:∀b,b=(low d || MJ d)->(((z.cps.toList.take i).map fun d=>low d || MJ d).map V.bl) ++ [V.bl b]=((z.cps.toList.take (i+1)).map fun d=>low d || MJ d).map V.bl:=fun b hb=>by
       rw [List.take_add_one,hd',hb]
       simp
      rw [Rg]
      refine iu (fun hl'=>?_) (fun hl'=>?_)
      ·exact⟨rfl,next true (by rw [hl'];rfl)⟩
      ·have hl2:low d=false:=by simpa using hl'
       refine⟨_,rfl,_,_,rfl,rfl,rfl,next _ ?_⟩
       rw [Xq,hl2,Bool.false_or]
     ·rintro ys H' ⟨rfl,rfl⟩ D hD
      refine⟨D,(z.cps.toList.take z.cps.size).map fun d=>low d || MJ d,rfl,bH.of az,?_⟩
      have hall:((z.cps.toList.take z.cps.size).map fun d=>low d || MJ d).all id=z.cps.toList.all fun d=>low d || MJ d:=by
       rw [List.take_of_length_le (by simp),List.all_map]
       rfl
      rw [hall]
      exact kk _ (aB hD)
    ·have hc':low c=false:=by simpa using hc
     rw [hc',Bool.false_and] at kk
     exact kk H (aK.refl _)
 ·have hb:K1 Tx "str" =false:=by
   simp only [qI,List.mem_cons,List.not_mem_nil,or_false] at hm
   rcases hm with rfl | rfl | rfl | rfl | rfl | rfl | rfl <;> first | decide | exact absurd rfl hne
  exact⟨_,rfl,x,Tx, "str",false,rfl,ty,by decide,hb,_,rfl,gh (gh k)⟩
inductive uX (K:PySem.W.Frag) (vs:List V) (H:Hp) (Q:VK) (E:XK):Prop where
 | mk:∀(a b:Addr) (xs ys:List V),vs=[.ref a,.ref b]->bH K H a xs->bH K H b ys->1<=xs.length->xs.length<=24->1<=ys.length->ys.length<=16->Q .non H->uX K vs H Q E
theorem Dn (T:Txt w K mg t):FO P w K mg base 1 t.xF ["lanes", "parts"] (uX K):=by
 have sc:=T.rn.sc ["lanes", "parts"]
 refine T.rn.F.ok sc ln (fun _ _ _ _ H vs Q E hr h=>?_)
 obtain⟨a,b,xs,ys,rfl,h1,h2,c1,c2,c3,c4,k⟩:=h
 refine⟨_,(ao (bO (jD (yO xf xf aq (bw bR (by rfl) T.eQ cP (aa (pv 0) ak aj)) (ju (by rfl) T.Jw)))
   (aA dW)
   bu)
  (aA (bO (jD (yO xf xf aq (bw bR (by rfl) T.eQ cP (aa (pv 1) ak aj)) (ju (by rfl) T.Ju)))
   (aA dW)
   bu))),?_⟩
 have hl:sizeLine=16777216:=sizeLine_eq
 refine⟨_,rfl,.ref a,xs.length,rfl,.inl ⟨_,h1,rfl⟩,_,_,rfl,rfl,_,rfl,xR (by omega) ⟨_,_,rfl,rfl,_,rfl,?_⟩⟩
 rw [show decide ((xs.length:Int)<=24)=true from decide_eq_true (by omega)]
 refine cB ?_
 refine⟨_,rfl,.ref b,ys.length,rfl,.inl ⟨_,h2,rfl⟩,_,_,rfl,rfl,_,rfl,xR (by omega) ⟨_,_,rfl,rfl,_,rfl,?_⟩⟩
 rw [show decide ((ys.length:Int)<=16)=true from decide_eq_true (by omega)]
 exact cB k
inductive wO (K:PySem.W.Frag) (vs:List V) (H:Hp) (Q:VK) (E:XK):Prop where
 | mk:∀(z:Str) (d:Addr) (kvs:List (Key×V)),vs=[.str z,.ref d]->H d=some (.dK kvs)->nameB z=true->z.length<=100->bY kvs (Sum.inr z)=none->(∀H',aK H H'->Q .non H')->wO K vs H Q E
theorem wQ (T:Txt w K mg t):FO P w K mg base 2 t.zf ["name", "known"] (wO K):=by
 have sc:=T.mY.sc ["name", "known"]
 refine T.mY.F.ok sc ln (fun _ _ _ _ H vs Q E hr h=>?_)
 obtain⟨z,d,kvs,rfl,hd,hz,hl,hv,k⟩:=h
 refine⟨_,(ao (bO (jD (gB (dJ (Mw T) T.z9 hr (aa (pv 0) ak aj))))
   (aA dW)
   bu)
  (aA (bO (gY (z6 hr.u1 (pv 0) (pv 1)))
   (aA dW)
   bu))),?_⟩
 refine⟨_,rfl,.str z,rfl,.inl ⟨z,rfl,hl,fun H1 s1=>?_⟩⟩
 rw [hz]
 refine⟨_,rfl,cB ?_⟩
 refine⟨_,rfl,_,rfl,d,_,rfl,dM.k (k:=Sum.inr z) (s1 _ _ hd),?_⟩
 rw [hv]
 exact⟨_,rfl,cB (k _ s1)⟩
inductive zc (K:PySem.W.Frag) (vs:List V) (H:Hp) (Q:VK) (E:XK):Prop where
 | mk:∀(nm:V) (room:Int) (L:Addr) (ws:List Int),vs=[nm,.int room,.ref L]->yj K H L (ws.map V.int)->ws.length<=1000->((∀v∈ws,0<=v/\v <1000000000))->1<=room->(ws.length:Int)<=room->room<=199->(∀H',aK H H'->Q .non H')->zc K vs H Q E
theorem JD (T:Txt w K mg t):FO P w K mg base 3 t.Az ["name", "room", "first"] (zc K):=by
 have sc:=T.uo.sc ["name", "room", "first"]
 refine T.uo.F.ok sc ln (fun _ _ _ _ H vs Q E hr h=>?_)
 obtain⟨nm,room,L,ws,rfl,hL,hw,hB,c1,c2,c3,k⟩:=h
 refine⟨_,(ao (bO (PW.pt (vp (jD (gB (dJ (Bd T) T.rZ hr (aa (pv 1) ak aj)))) (oJ (jD (yO xf xf (bw (G5 rfl) (by rfl) T.RT Ms (aa aq (aa (bw bR (by rfl) T.eQ cP (aa (pv 2) ak aj)) ak bf) au)) (pv 1) (ju (by rfl) T.K8))))))
   (aA dW)
   bu)
  (aA (bO (jD (gB (bw (yu rfl) (by rfl) T.Ob Jf (aa (eN [] ["name", "room", "first"] (aV (top 56)) rfl (Wq (bT (pv 2)) (JM (pv 2))) (fun _ _ _ _ _=>gM) (fun _ _ _ _ _=>(dJ (vo T) T.pN hr (aa (pv 0) ak aj)))) ak fB))))
   (aA dW)
   bu))),?_⟩
 have hl:sizeLine=16777216:=sizeLine_eq
 have hlw:(ws.map V.int).length=ws.length:=lM ..
 refine⟨_,rfl,.int room, "int",true,rfl,rfl,by decide,by decide,true,rfl,cB ?_⟩
 refine⟨_,rfl,.ref L,(ws.map V.int).length,rfl,hL.len,_,_,rfl,_,rfl,_,_,rfl,rfl,_,rfl,xR ?_ ⟨_,_,rfl,rfl,_,rfl,?_⟩⟩
 ·split <;> omega
 rw [show decide (room<=199)=true from decide_eq_true c3]
 refine cB ?_
 refine Sv (a:=L) (xs:=ws.map V.int) ?_ hL (fun j ys=>ys=(List.replicate j true).map V.bl) (by rw [lM];omega) rfl (fun j ys e=>by rw [e];simp) (fun j x ys hx e=>?_) (fun ys e D hD=>?_)
 ·exact fun R r=>⟨_,rfl,r⟩
 ·subst e
  rw [List.getElem?_map] at hx
  obtain⟨n,hn,rfl⟩:=Option.map_eq_some_iff.mp hx
  obtain⟨n0,n1⟩:=hB n (List.mem_of_getElem? hn)
  refine yes ⟨_,rfl,.int n,rfl,.inl ⟨n,rfl,rfl,?_⟩⟩
  rw [decide_eq_true n0,decide_eq_true n1,List.replicate_succ']
  simp
 ·subst e
  refine⟨D,_,rfl,bH.of az,_,rfl,?_⟩
  rw [show((List.replicate (ws.map V.int).length true).all id)=true by simp]
  exact cB (k _ (aB hD))
inductive xj (K:PySem.W.Frag) (t:jd) (vs:List V) (H:Hp) (Q:VK) (E:XK):Prop where
 | mk:∀(i:Nat) (nm:Str) (r d a1 a2 a3:Addr) (ns is os:List V) (kvs:List (Key×V)),vs=[.ref r,.ref d]->H r=some (.tup [.str (fc i),.str nm,.ref a1,.ref a2,.ref a3])->i<=10->H d=some (.dK kvs)->nameB nm=true->nm.length<=100->bY kvs (Sum.inr nm)=none->yj K H a1 ns->yj K H a2 is->yj K H a3 os->ns.length=cN i->is.length=cI i->os.length=cO i->((∀v∈ns,Val v))->(∀H' p,aK H H'->H p=none->fK K t H' p i (.str nm) ns is os->Q (.ref p) H')->xj K t vs H Q E
theorem Gx (T:Txt w K mg t):FO P w K mg base 5 t.yM ["row", "known"] (xj K t):=by
 have sc:=T.tH.sc ["row", "known"]
 refine T.tH.F.ok sc ln (fun _ _ _ _ H vs Q E hr h=>?_)
 obtain⟨i,nm,r,d,a1,a2,a3,ns,is,os,kvs,rfl,hr1,hi,hd,hz,hl,hv,q1,q2,q3,l1,l2,l3,hV,k⟩:=h
 refine⟨_,(ao (bO (jD (gB (dJ (Fl T) T.vY hr (aa (aR cj (pv 0) aq (fun _ _=>rfl)) ak aF))))
   (aA dW)
   bu)
  (ao (bI (dJ (wQ T) T.mY hr (aa (aR cj (pv 0) aq (fun _ _=>rfl)) (aa (pv 1) ak aj) aF)))
  (aA (aO (dJ (JT T) T.Aq hr (aa (aR cj (pv 0) aq (fun _ _=>rfl)) (aa (aR cj (pv 0) aq (fun _ _=>rfl)) (aa (aR cj (pv 0) aq (fun _ _=>rfl)) (aa (aR cj (pv 0) aq (fun _ _=>rfl)) (aa (aR cj (pv 0) aq (fun _ _=>rfl)) ak aF) aF) aF) aF) aF)))))),?_⟩
 refine⟨_,rfl,r,_,0,_,rfl,rfl,fH.of hr1,aN (j:=0) rfl,fc i,rfl,?_⟩
 rw [row_of]
 refine⟨_,rfl,cB ?_⟩
 refine⟨_,rfl,r,_,1,_,rfl,rfl,fH.of hr1,aN (j:=1) rfl,_,rfl,nm,d,kvs,rfl,hd,hz,hl,hv,fun H1 s1=>?_⟩
 have e1:=fH.of (K:=K) (s1 _ _ hr1)
 exact⟨_,rfl,r,_,0,_,rfl,rfl,e1,aN (j:=0) rfl,_,rfl,r,_,1,_,rfl,rfl,e1,aN (j:=1) rfl,_,rfl,r,_,2,_,rfl,rfl,e1,aN (j:=2) rfl,_,rfl,r,_,3,_,rfl,rfl,e1,aN (j:=3) rfl,_,rfl,r,_,4,_,rfl,rfl,e1,aN (j:=4) rfl,i,.str nm,a1,a2,a3,ns,is,os,rfl,hi,s1.seqA q1,s1.seqA q2,s1.seqA q3,l1,l2,l3,hV,fun H2 p s2 np P=>k _ p (s1.trans s2) (s1.free np) P⟩
inductive yU (K:PySem.W.Frag) (vs:List V) (H:Hp) (Q:VK) (E:XK):Prop where
 | mk:∀(y:Str) (a rd d:Addr) (zs:List Str) (rk kvs:List (Key×V)),vs=[.str y,.ref a,.ref rd,.ref d]->fH K H a (zs.map V.str)->H rd=some (.dK rk)->rd≠d->H d=some (.dK kvs)->zs.Nodup->((∀z∈zs,(bY rk (Sum.inr z)).isSome=true/\bY kvs (Sum.inr z)=none))->kvs.length+zs.length<=1000->(Q .non (upd H d (.dK (kvs ++ zs.map fun l=>((Sum.inr l:Key),V.str y)))))->yU K vs H Q E
theorem zg (T:Txt w K mg t):FO P w K mg base 1 t.Bk ["part", "lanes", "rooms", "ends"] (yU K):=by
 have sc:=T.qF.sc ["part", "lanes", "rooms", "ends", "lane"]
 refine T.qF.F.ok sc ln (fun _ _ _ _ H vs Q E hr h=>?_)
 obtain⟨y,a,rd,d,zs,rk,kvs,rfl,hT,hrd,hne,hd,nd,hz,hlen,k⟩:=h
 refine⟨_,(aA (dq PassesOwn.never rfl (JM (pv 1)) (gN sc 4)
   (ao (bO (PW.pt (vp (gY (vL hr.u1 (pv 4) (pv 2))) (oJ (gY (z6 hr.u1 (pv 4) (pv 3))))))
    (aA dW)
    bu)
   (aA (fW hr.u1 (pv 3) (pv 4) (pv 0) rfl))))),?_⟩
 have hl:sizeLine=16777216:=sizeLine_eq
 refine⟨_,rfl,a,rfl,⟨_,hT⟩,Vg (K:=K) (a:=a) (xs:=zs.map V.str) (fun j σ H'=>H'=upd H d (.dK (kvs ++ (zs.take j).map fun l=>((Sum.inr l:Key),V.str y)))/\∃v4,σ=[some (.str y),some (.ref a),some (.ref rd),some (.ref d),v4]) ⟨by rw [List.take_zero,List.map_nil,List.append_nil,JN hd],none,rfl⟩ (fun j σ H' _ ⟨e,_⟩=>by rw [e];exact fZ hd hT) ?_ ?_⟩
 ·rintro j x σ H' hx ⟨rfl,v4,rfl⟩
  rw [List.getElem?_map] at hx
  obtain⟨z,hzj,rfl⟩:=Option.map_eq_some_iff.mp hx
  have hj:j <zs.length:=(List.getElem?_eq_some_iff.mp hzj).1
  obtain⟨r1,r2⟩:=hz z (List.mem_of_getElem? hzj)
  obtain⟨rv,hrv⟩:=Option.isSome_iff_exists.mp r1
  have erd:upd H d (.dK (kvs ++ (zs.take j).map fun l=>((Sum.inr l:Key),V.str y))) rd=some (.dK rk):=by rw [aM hne];exact hrd
  have nin:z∉zs.take j:=fun hm=>by
   obtain⟨i,hi,ei⟩:=List.mem_iff_getElem.mp hm
   rw [List.length_take] at hi
   rw [List.getElem_take] at ei
   have e2:zs[j]=z:=by rw [List.getElem?_eq_getElem hj] at hzj;exact Option.some.inj hzj
   have:=(List.getElem_inj nd).mp (ei.trans e2.symm)
   omega
  have none':bY (kvs ++ (zs.take j).map fun l=>((Sum.inr l:Key),V.str y)) (Sum.inr z)=none:=ir (by
   rw [List.map_append,List.mem_append,not_or]
   refine⟨fun hm=>?_,fun hm=>?_⟩
   ·have:(bY kvs (Sum.inr z)).isSome=true:=by rw [<-rN];obtain⟨p,hp,e⟩:=List.mem_map.mp hm;exact List.any_eq_true.mpr ⟨p,hp,decide_eq_true e⟩
    rw [r2] at this
    cases this
   ·rw [List.map_map] at hm
    obtain⟨b,hb,e⟩:=List.mem_map.mp hm
    cases e
    exact nin hb)
  refine⟨_,rfl,_,rfl,rd,some rv,rfl,(by rw [<-hrv];exact dM.k (k:=Sum.inr z) erd),_,rfl,cB ?_⟩
  refine⟨_,rfl,_,rfl,d,none,rfl,(by rw [<-none'];exact dM.k (k:=Sum.inr z) az),_,rfl,cB ?_⟩
  refine⟨_,rfl,_,rfl,_,rfl,d,_,rfl,n6.k (k:=Sum.inr z) az (by rw [lP,lM,List.length_take];omega),?_,_,rfl⟩
  rw [qH,jt _ none',List.append_assoc,List.take_succ,hzj,Option.toList_some,List.map_append]
  rfl
 ·rintro σ H' ⟨rfl,v4,rfl⟩
  rw [lM,List.take_length]
  exact k
inductive zJ (K:PySem.W.Frag) (vs:List V) (H:Hp) (Q:VK) (E:XK):Prop where
 | mk:∀(r g d:Addr) (rk gk tk:List (Key×V)),vs=[.ref r,.ref g,.ref d]->H r=some (.dK rk)->H g=some (.dK gk)->H d=some (.dK tk)->r≠g->r≠d->((∀q∈rk,(bY gk q.1).isSome=true/\(bY tk q.1).isSome=true))->Q .non H->zJ K vs H Q E
theorem Jk (T:Txt w K mg t):FO P w K mg base 1 t.Bs ["rooms", "givers", "takers"] (zJ K):=by
 have sc:=T.um.sc ["rooms", "givers", "takers", "lane"]
 refine T.um.F.ok sc ln (fun _ _ _ _ H vs Q E hr h=>?_)
 obtain⟨r,g,d,rk,gk,tk,rfl,h1,h2,h3,n1,n2,hA,k⟩:=h
 refine⟨_,(aA (vf (H0:=H) rfl (dq PassesOwn.never rfl (vV (pv 0)) (gN sc 3)
   (aA (bO (PW.pt (vp (gY (vL hr.u1 (pv 3) (pv 1))) (oJ (gY (vL hr.u1 (pv 3) (pv 2))))))
    (aA dW)
    bu))))),?_⟩
 refine⟨_,rfl,r,_,rfl,h1,fun o=>u0 (fun j σ H'=>H'=upd H r (.frz o (.dK rk))/\∃v3,σ=[some (.ref r),some (.ref g),some (.ref d),v3]) ⟨rfl,none,rfl⟩ (fun j σ H' _ ⟨e,_⟩=>by rw [e];exact az) ?_ ?_⟩
 ·rintro j kk w σ H' hj ⟨rfl,v3,rfl⟩
  obtain⟨a1,a2⟩:=hA _ (List.mem_of_getElem? hj)
  obtain⟨u1,b1⟩:=Option.isSome_iff_exists.mp a1
  obtain⟨u2,b2⟩:=Option.isSome_iff_exists.mp a2
  have e2:upd H r (.frz o (.dK rk)) g=some (.dK gk):=by rw [aM (Ne.symm n1)];exact h2
  have e3:upd H r (.frz o (.dK rk)) d=some (.dK tk):=by rw [aM (Ne.symm n2)];exact h3
  exact⟨_,rfl,_,rfl,g,some u1,rfl,(by rw [<-b1];exact dM.k e2),_,rfl,cB ⟨_,rfl,_,rfl,d,some u2,rfl,(by rw [<-b2];exact dM.k e3),_,rfl,cB ⟨rfl,_,rfl⟩⟩⟩
 ·rintro σ H' ⟨rfl,v3,rfl⟩
  refine⟨_,⟨r,o,_,az,?_,rfl⟩,?_⟩
  ·intro o' u' z
   rw [show H r=_ from h1] at z
   cases z
  ·rw [qH,JN h1]
   exact k
noncomputable def Rj (H:Hp) (J:Addr):List (Key×V):=match H J with
 | some (.dK jk)=>jk
 | _=>[]
theorem Ou {H:Hp} {J:Addr} {jk:List (Key×V)} (h:H J=some (.dK jk)):Rj H J=jk:=by
 unfold Rj
 rw [h]
theorem RG {f:PD->List Str} {ps:List PD} {j:Nat} {k:Key} {v:V} (h:(cX f ps)[j]?=some (k,v)):∃p∈ps,∃l∈f p,k=Sum.inr l/\v=.str p.name:=by
 have:=List.mem_of_getElem? h
 unfold cX at this
 obtain⟨p,hp,hm⟩:=List.mem_flatMap.mp this
 obtain⟨l,hl,e⟩:=List.mem_map.mp hm
 cases e
 exact⟨p,hp,l,hl,rfl,rfl⟩
noncomputable def Ud (ps:List PD) (jk:List (Key×V)) (j:Nat):Prop:=∀i k v,i <j->(cX (·.outs) ps)[i]?=some (k,v)->∀a∈ps,∀b∈ps,∀l,k=Sum.inr l->l∈a.outs->l∈b.ins->gZ jk a.name=gZ jk b.name
theorem Ud.all {ps:List PD} {jk:List (Key×V)} (h:Ud ps jk (cX (·.outs) ps).length):∀a∈ps,∀b∈ps,∀l,l∈a.outs->l∈b.ins->gZ jk a.name=gZ jk b.name:=fun a ha b hb l la lb=>by
 have hm:((Sum.inr l:Key),V.str a.name)∈cX (·.outs) ps:=List.mem_flatMap.mpr ⟨a,ha,List.mem_map.mpr ⟨l,la,rfl⟩⟩
 obtain⟨i,hi,ei⟩:=List.mem_iff_getElem.mp hm
 exact h i _ _ hi (by rw [List.getElem?_eq_getElem hi,ei]) a ha b hb l rfl la lb
inductive vh (K:PySem.W.Frag) (vs:List V) (H:Hp) (Q:VK) (E:XK):Prop where
 | mk:∀(p0:PD) (g d:Addr) (ps:List PD),vs=[.str p0.name,.ref g,.ref d]->p0∈ps->ps.length<=16->H g=some (.dK (cX (·.outs) ps))->H d=some (.dK (cX (·.ins) ps))->g≠d->(ps.flatMap (·.outs)).Nodup->(ps.flatMap (·.ins)).Nodup->(ps.flatMap (·.outs)).Perm (ps.flatMap (·.ins))->((∃y,∀q∈ps,∃x∈q.ins ++ q.outs,Drawn.jq ps x y))->(∀H' J jk,aK H H'->H' J=some (.dK jk)->(∀p∈ps,gZ jk p.name=true)->Q (.ref J) H')->vh K vs H Q E
theorem Di (T:Txt w K mg t):FO P w K mg base 1 t.wV ["part", "givers", "takers"] (vh K):=by
 have sc:=T.qP.sc ["part", "givers", "takers", "joined", "grown", "lane"]
 refine T.qP.F.ok sc ln (fun _ _ _ _ H vs Q E hr h=>?_)
 obtain⟨p0,g,d,ps,rfl,hp0,hps,h1,h2,n1,no,ni,pm,hang,k⟩:=h
 refine⟨_,(ao (sN sc 3 (VB (Us (pv 0) iT V6) rfl rfl (by simp) (by decide)))
  (ao (sN sc 4 iT)
  (ao (Ef PassesOwn.never (gB (pv 4))
   (ao (sN sc 4 iT)
   (aA (vf (H0:=H) rfl (dq PassesOwn.never rfl (vV (pv 1)) (gN sc 5)
    (aA (fQ (bO (aZ Gf (Eh (z6 hr.u1 (bZ hr.u1 (pv 1) (pv 5) (fun _ _=>rfl)) (pv 3))) (Eh (z6 hr.u1 (bZ hr.u1 (pv 2) (pv 5) (fun _ _=>rfl)) (pv 3))) (bF _))
     (ao (fW hr.u1 (pv 3) (bZ hr.u1 (pv 1) (pv 5) (fun _ _=>rfl)) iT rfl)
     (ao (fW hr.u1 (pv 3) (bZ hr.u1 (pv 2) (pv 5) (fun _ _=>rfl)) iT rfl)
     (aA (sN sc 4 iT))))
     bu))))))))
  (aA (aO (pv 3)))))),?_⟩
 have hl:sizeLine=16777216:=sizeLine_eq
 refine fun J nJ=>⟨_,rfl,az,[((Sum.inr p0.name:Key),V.bl true)],rfl,by show 1<=15;decide,?_⟩
 rw [qH]
 have s0:aK H (upd H J (.dK (uW [] [((Sum.inr p0.name:Key),V.bl true)]))):=aB nJ
 have e0:(upd H J (.dK (uW [] [((Sum.inr p0.name:Key),V.bl true)]))) J=some (.dK [((Sum.inr p0.name:Key),V.bl true)]):=az
 generalize upd H J (.dK (uW [] [((Sum.inr p0.name:Key),V.bl true)]))=H0 at s0 e0 ⊢
 have ngJ:J≠g:=Ne.symm (aD h1 nJ)
 have ndJ:J≠d:=Ne.symm (aD h2 nJ)
 have melt:∀{H':Hp} {o:Obj},lH g H H'->H' g=some (.frz o (.dK (cX (·.outs) ps)))->aK H (upd H' g (.dK (cX (·.outs) ps))):=fun hb hg b u e=>by
  by_cases h:b=g
  ·subst h;rw [az];rw [h1] at e;exact e
  ·rw [aM h];exact hb b u h e
 have m0:oK ps [((Sum.inr p0.name:Key),V.bl true)]<=16:=Nat.le_trans (List.length_filter_le _ _) hps
 refine DW (fun σ H'=>aK H H'/\∃b v5 jk,σ=[some (.str p0.name),some (.ref g),some (.ref d),some (.ref J),some (.bl b),v5]/\H' J=some (.dK jk)/\gZ jk p0.name=true/\jk.length+2 * oK ps jk<=40/\(b=false->Ud ps jk (cX (·.outs) ps).length))
  (fun σ H'=>match σ with | [_,_,_,_,some (.bl b),_]=>(if b then 1 else 0)+2 * oK ps (Rj H' J) | _=>0) ⟨s0,true,none,_,rfl,e0,by simp [gZ,bY],by rw [List.length_singleton];omega,by intro z;cases z⟩ ?_ ?_
 ·rintro σ H1 ⟨s1,b,v5,jk,rfl,hJ,hp,hlen,hev⟩
  cases b with
  | false=>exact⟨_,rfl,_,rfl,cB ⟨_,rfl,k _ J jk s1 hJ (Xk no ni pm hang (hev rfl).all hp0 hp)⟩⟩
  | true=>
   refine⟨_,rfl,_,rfl,gh ?_⟩
   refine⟨_,rfl,g,_,rfl,s1 _ _ h1,fun o=>?_⟩
   have gD:∀{H':Hp},lH g H H'->H' d=some (.dK (cX (·.ins) ps)):=fun hb=>hb d _ (Ne.symm n1) h2
   refine u0 (fun j σ H'=>lH g H H'/\H' g=some (.frz o (.dK (cX (·.outs) ps)))/\∃b v5 jk',σ=[some (.str p0.name),some (.ref g),some (.ref d),some (.ref J),some (.bl b),v5]/\H' J=some (.dK jk')/\gZ jk' p0.name=true/\jk'.length+2 * oK ps jk'<=40/\((b=false/\jk'=jk/\Ud ps jk j)∨(b=true/\oK ps jk' <oK ps jk)))
    ⟨fun b u hn e=>by rw [aM hn];exact s1 b u e,az,false,v5,jk,rfl,by rw [aM ngJ];exact hJ,hp,hlen,.inl ⟨rfl,rfl,fun i _ _ hi=>absurd hi (by omega)⟩⟩ (fun j σ H' _ h=>h.2.1) ?_ ?_
   ·rintro j kk w σ H' hj ⟨hb,hg,b,v5,jk',rfl,hJ',hp',hlen',hv⟩
    obtain⟨a,ha,l,la,rfl,rfl⟩:=RG hj
    obtain⟨b',hb',lb⟩:=List.mem_flatMap.mp (pm.mem_iff.mp (List.mem_flatMap.mpr ⟨a,ha,la⟩))
    have ga:dM H' g (.str l) (some (.str a.name)):=.inl ⟨_,Sum.inr l,.inr ⟨o,hg⟩,rfl,(gJ no ha la).symm⟩
    have gb:dM H' d (.str l) (some (.str b'.name)):=by rw [<-gJ ni hb' lb];exact dM.k (k:=Sum.inr l) (gD hb)
    have ja:dM H' J (.str a.name) (bY jk' (Sum.inr a.name)):=dM.k (k:=Sum.inr a.name) hJ'
    have jb:dM H' J (.str b'.name) (bY jk' (Sum.inr b'.name)):=dM.k (k:=Sum.inr b'.name) hJ'
    have nm:∀a2∈ps,∀b2∈ps,l∈a2.outs->l∈b2.ins->a2.name=a.name/\b2.name=b'.name:=fun a2 ha2 b2 hb2 q1 q2=>by
     have e1:=gJ no ha2 q1
     rw [gJ no ha la] at e1
     have e2:=gJ ni hb2 q2
     rw [gJ ni hb' lb] at e2
     simp only [Option.some.injEq,V.str.injEq] at e1 e2
     exact⟨e1.symm,e2.symm⟩
    refine⟨fun σ H''=>lH g H H''/\H'' g=some (.frz o (.dK (cX (·.outs) ps)))/\∃b jk'',σ=[some (.str p0.name),some (.ref g),some (.ref d),some (.ref J),some (.bl b),some (.str l)]/\H'' J=some (.dK jk'')/\gZ jk'' p0.name=true/\jk''.length+2 * oK ps jk''<=40/\((b=false/\jk''=jk/\Ud ps jk (j+1))∨(b=true/\oK ps jk'' <oK ps jk)),?_,?_⟩
    ·refine⟨_,rfl,_,rfl,g,_,rfl,ga,_,rfl,J,_,rfl,ja,?_⟩
     refine⟨_,rfl,_,rfl,d,_,rfl,gb,_,rfl,J,_,rfl,jb,rfl,_,rfl,?_⟩
     change if (!decide (V.bl (gZ jk' a.name)=V.bl (gZ jk' b'.name)))=true then _ else _
     refine iu (fun hne=>?_) (fun heq=>?_)
     ·have hne':gZ jk' a.name≠gZ jk' b'.name:=fun z=>by rw [z] at hne;simp at hne
      refine⟨_,rfl,_,rfl,_,rfl,g,_,rfl,ga,J,_,rfl,n6.k (k:=Sum.inr a.name) hJ' (by omega),?_⟩
      have b2:lH g H (upd H' J (.dK (putK jk' (Sum.inr a.name) (.bl true)))):=fun x u hn e=>by rw [aM (aD e nJ)];exact hb x u hn e
      have g2:(upd H' J (.dK (putK jk' (Sum.inr a.name) (.bl true)))) g=some (.frz o (.dK (cX (·.outs) ps))):=by rw [aM (Ne.symm ngJ)];exact hg
      have gb2:dM (upd H' J (.dK (putK jk' (Sum.inr a.name) (.bl true)))) d (.str l) (some (.str b'.name)):=by rw [<-gJ ni hb' lb];exact dM.k (k:=Sum.inr l) (gD b2)
      have len1:=lF jk' (Sum.inr a.name:Key) (.bl true)
      have len2:=lF (putK jk' (Sum.inr a.name) (.bl true)) (Sum.inr b'.name:Key) (.bl true)
      refine⟨_,rfl,_,rfl,_,rfl,d,_,rfl,gb2,J,_,rfl,n6.k (k:=Sum.inr b'.name) az (by omega),?_⟩
      rw [qH]
      have has2:∀x,gZ (putK (putK jk' (Sum.inr a.name) (.bl true)) (Sum.inr b'.name) (.bl true)) x=(decide (x=b'.name) || (decide (x=a.name) || gZ jk' x)):=fun x=>by rw [KD,KD]
      have mono:∀x,gZ jk' x=true->gZ (putK (putK jk' (Sum.inr a.name) (.bl true)) (Sum.inr b'.name) (.bl true)) x=true:=fun x hx=>by rw [has2,hx];simp
      have lt:oK ps (putK (putK jk' (Sum.inr a.name) (.bl true)) (Sum.inr b'.name) (.bl true)) <oK ps jk':=by
       cases hA:gZ jk' a.name
       ·exact K7 mono ha hA (by rw [has2];simp)
       ·cases hB:gZ jk' b'.name
        ·exact K7 mono hb' hB (by rw [has2];simp)
        ·rw [hA,hB] at hne';exact absurd rfl hne'
      refine⟨fun x u hn e=>by rw [aM (aD e nJ)];exact hb x u hn e,by rw [aM (Ne.symm ngJ)];exact hg,true,_,rfl,az,mono _ hp',by omega,.inr ⟨rfl,?_⟩⟩
      rcases hv with ⟨_,rfl,_⟩ | ⟨_,hv⟩
      ·exact lt
      ·omega
     ·have heq':gZ jk' a.name=gZ jk' b'.name:=by
       cases hA:gZ jk' a.name <;> cases hB:gZ jk' b'.name <;> rw [hA,hB] at heq <;> simp_all
      refine⟨hb,hg,b,jk',rfl,hJ',hp',hlen',?_⟩
      rcases hv with ⟨rfl,rfl,hE⟩ | hv
      ·refine .inl ⟨rfl,rfl,fun i k2 v2 hi e2 a2 ha2 b2 hb2 l2 ek q1 q2=>?_⟩
       rcases Nat.lt_or_ge i j with h | h
       ·exact hE i k2 v2 h e2 a2 ha2 b2 hb2 l2 ek q1 q2
       ·have:i=j:=by omega
        subst this
        rw [hj] at e2
        cases e2
        cases ek
        obtain⟨x1,x2⟩:=nm a2 ha2 b2 hb2 q1 q2
        rw [x1,x2]
        exact heq'
      ·exact .inr hv
    ·rintro σ H'' ⟨hb,hg,b,jk'',rfl,r⟩
     exact⟨hb,hg,b,_,jk'',rfl,r⟩
   ·rintro σ H' ⟨hb,hg,b,v5',jk',rfl,hJ',hp',hlen',hv⟩
    refine⟨_,⟨g,o,_,hg,(fun o' u' z=>by rw [show H g=_ from h1] at z;cases z),rfl⟩,?_⟩
    have eJ:(upd H' g (.dK (cX (·.outs) ps))) J=some (.dK jk'):=by rw [aM ngJ];exact hJ'
    refine⟨⟨melt hb hg,b,v5',jk',rfl,eJ,hp',hlen',fun z=>?_⟩,?_⟩
    ·rcases hv with ⟨_,rfl,hE⟩ | ⟨h,_⟩
     ·exact hE
     ·rw [h] at z;cases z
    ·show(if b=true then 1 else 0)+2 * oK ps (Rj _ J) <(if true=true then 1 else 0)+2 * oK ps (Rj _ J)
     rw [Ou eJ,Ou hJ]
     rcases hv with ⟨rfl,rfl,_⟩ | ⟨rfl,h⟩
     ·simp
     ·simp;omega
 ·intro σ H' Q' Q'' hm hq
  obtain⟨v,e,b,e2,q⟩:=hq
  exact⟨v,e,b,e2,hm _ _ q⟩
inductive uh (K:PySem.W.Frag) (vs:List V) (H:Hp) (Q:VK) (E:XK):Prop where
 | mk:∀(L g d:Addr) (ps:List PD),vs=[.ref L,.ref g,.ref d]->(bH K H L (ps.map fun p=>V.str p.name))->1<=ps.length->ps.length<=16->H g=some (.dK (cX (·.outs) ps))->H d=some (.dK (cX (·.ins) ps))->g≠d->(ps.flatMap (·.outs)).Nodup->(ps.flatMap (·.ins)).Nodup->(ps.flatMap (·.outs)).Perm (ps.flatMap (·.ins))->((∃y,∀q∈ps,∃x∈q.ins ++ q.outs,Drawn.jq ps x y))->(∀H',aK H H'->Q .non H')->uh K vs H Q E
theorem Ei (T:Txt w K mg t):FO P w K mg base 2 t.wM ["names", "givers", "takers"] (uh K):=by
 have sc:=T.qL.sc ["names", "givers", "takers", "joined", "name"]
 refine T.qL.F.ok sc ln (fun _ _ _ _ H vs Q E hr h=>?_)
 obtain⟨L,g,d,ps,rfl,hL,hp1,hps,h1,h2,n1,no,ni,pm,hang,k⟩:=h
 refine⟨_,(ao (sN sc 3 (dJ (Di T) T.qP hr (aa (aR aW (pv 0) aq (fun _ _=>rfl)) (aa (pv 1) (aa (pv 2) ak aj) aj) aF)))
  (aA (dq PassesOwn.never rfl (bT (pv 0)) (gN sc 4)
   (aA (bO (gY (vL hr.u1 (pv 4) (pv 3)))
    (aA dW)
    bu))))),?_⟩
 obtain⟨p0,pr,rfl⟩:∃p0 pr,ps=p0:: pr:=by
  cases ps with
  | nil=>simp at hp1
  | cons a r=>exact⟨a,r,rfl⟩
 refine⟨_,rfl,L,_,0,_,rfl,rfl,hL,aN (j:=0) rfl,_,rfl,_,rfl,p0,g,d,_,rfl,List.mem_cons_self,hps,h1,h2,n1,no,ni,pm,hang,fun H1 J jk s1 eJ hA=>?_⟩
 refine⟨_,rfl,L,rfl,⟨_,s1.seq hL⟩,dD (K:=K) (a:=L) (xs:=(p0:: pr).map fun p=>V.str p.name) (fun j σ H'=>H'=H1/\∃v4,σ=[some (.ref L),some (.ref g),some (.ref d),some (.ref J),v4]) ⟨rfl,none,rfl⟩ (fun j σ H' _ ⟨e,_⟩=>by rw [e];exact s1.seq hL) ?_ ?_⟩
 ·rintro j x σ H' hx ⟨rfl,v4,rfl⟩
  rw [List.getElem?_map] at hx
  obtain⟨p,hp,rfl⟩:=Option.map_eq_some_iff.mp hx
  obtain⟨u,hu⟩:=Option.isSome_iff_exists.mp (hA p (List.mem_of_getElem? hp))
  exact⟨_,rfl,_,rfl,J,some u,rfl,(by rw [<-hu];exact dM.k (k:=Sum.inr p.name) eJ),_,rfl,cB ⟨rfl,_,rfl⟩⟩
 ·rintro σ H' ⟨rfl,v4,rfl⟩
  exact k _ s1
inductive pX (K:PySem.W.Frag) (t:jd) (vs:List V) (H:Hp) (Q:VK) (E:XK):Prop where
 | mk:∀(n:Addr) (ls:List aH) (ps:List PD),vs=[.ref n]->fY K t H n ls ps->(∀l,H l=none->Q (.ref l) (upd H l (.lst (ls.map fun x=>V.str x.name))))->pX K t vs H Q E
theorem p7 (T:Txt w K mg t):FO P w K mg base 1 t.j6 ["self"] (pX K t):=by
 have sc:=T.jg.sc ["self"]
 refine T.jg.F.ok sc ln (fun _ _ _ _ H vs Q E hr h=>?_)
 obtain⟨n,ls,ps,rfl,N,k⟩:=h
 refine⟨_,(aA (aO (fL (pq rfl) (by rfl) T.xZ sy (aa (aY (pv 0) rfl) ak bD)))),?_⟩
 obtain⟨dx,fs,R,F,Pd,G,Tk,FL,PL,W⟩:=id N
 refine⟨_,rfl,n,_,dx,fs,_,rfl,W.obj,T.aU.c,T.aU.na.1,W.fl.has ("rooms",.ref R) (by simp),R,_,rfl,.inl W.rooms,fun l hl=>?_⟩
 unfold fG
 rw [List.map_map]
 exact k l hl
inductive qu (K:PySem.W.Frag) (t:jd) (vs:List V) (H:Hp) (Q:VK) (E:XK):Prop where
 | mk:∀(n:Addr) (ls:List aH) (ps:List PD),vs=[.ref n]->fY K t H n ls ps->(∀l,H l=none->Q (.ref l) (upd H l (.lst (ps.map fun x=>V.str x.name))))->qu K t vs H Q E
theorem dH (T:Txt w K mg t):FO P w K mg base 1 t.j8 ["self"] (qu K t):=by
 have sc:=T.cJ.sc ["self"]
 refine T.cJ.F.ok sc ln (fun _ _ _ _ H vs Q E hr h=>?_)
 obtain⟨n,ls,ps,rfl,N,k⟩:=h
 refine⟨_,(aA (aO (fL (pq rfl) (by rfl) T.xZ sy (aa (aY (pv 0) rfl) ak bD)))),?_⟩
 obtain⟨dx,fs,R,F,Pd,G,Tk,FL,PL,W⟩:=id N
 refine⟨_,rfl,n,_,dx,fs,_,rfl,W.obj,T.aU.c,T.aU.na.2.2.1,W.fl.has ("parts",.ref Pd) (by simp),Pd,_,rfl,.inl W.parts,fun l hl=>?_⟩
 unfold eX
 rw [List.map_map]
 have e:ps.map (fun x=>V.str x.name)=PL.map (fun q=>V.str q.1.name):=by rw [<-W.pls,List.map_map];rfl
 rw [e] at k
 exact k l hl
theorem U4 (T:Txt w K mg t) (i:Nat):MethAt P w K mg base Fw 1 (cls t i) "kind" (jh i):=match i with
 | 0=>⟨_,_,_,T.iH.c,(T.qe.me T.iH.me.2.1),T.qe.b,J5 T⟩
 | 1=>⟨_,_,_,T.iD.c,(T.qm.me T.iD.me.2.1),T.qm.b,Io T⟩
 | 2=>⟨_,_,_,T.iG.c,(T.qd.me T.iG.me.2.1),T.qd.b,Jc T⟩
 | 3=>⟨_,_,_,T.iQ.c,(T.pZ.me T.iQ.me.2.1),T.pZ.b,JZ T⟩
 | 4=>⟨_,_,_,T.iI.c,(T.qC.me T.iI.me.2.1),T.qC.b,JF T⟩
 | 5=>⟨_,_,_,T.iY.c,(T.qy.me T.iY.me.2.1),T.qy.b,JW T⟩
 | 6=>⟨_,_,_,T.lG.c,(T.sr.me T.lG.me.2.1),T.sr.b,Ko T⟩
 | 7=>⟨_,_,_,T.iW.c,(T.qD.me T.iW.me.2.1),T.qD.b,Jy T⟩
 | 8=>⟨_,_,_,T.fM.c,(T.nZ.me T.fM.me.2.1),T.nZ.b,Gi T⟩
 | 9=>⟨_,_,_,T.eG.c,(T.kO.me T.eG.me.2.1),T.kO.b,DP T⟩
 | n+10=>⟨_,_,_,T.fP.c,(T.m9.me T.fP.me.2.1),T.m9.b,Gj T⟩
inductive lO (K:PySem.W.Frag) (t:jd) (vs:List V) (H:Hp) (Q:VK) (E:XK):Prop where
 | mk:∀(n:Addr) (ls:List aH) (ps:List PD) (x:Str),vs=[.ref n,.str x]->fY K t H n ls ps->(∀p,H p=none->Q (.ref p) (upd H p (.lst (dX ps x))))->lO K t vs H Q E
theorem lU (T:Txt w K mg t):FO P w K mg base 2 t.jj ["self", "kind"] (lO K t):=by
 have sc:=T.gj.sc ["self", "kind"]
 refine T.gj.F.ok sc ln (fun _ _ _ _ H vs Q E hr h=>?_)
 obtain⟨n,ls,ps,x,rfl,N,k⟩:=h
 refine⟨_,(aA (aO (Vl (H0:=H) rfl (eN [0,1] ["self", "kind"] (aV (inClass (top 62) 5)) rfl (vV (aY (pv 0) rfl)) (fun _ _ _ _ _=>(vB (aZ eY (MF (P:=P) (w:=w) (K:=K) (mg:=mg) (base:=base) (CX:=Fw) (k:=1) (E:=E0) rfl rfl rfl rfl rfl (bZ hr.u1 (JQ (K:=K) rfl (pv 1) rfl) (pv 0) (fun _ _=>rfl)) (hr.mono (by decide)) ik) (pv 2) (bF _)))) (fun _ _ _ _ _=>(pv 0)))))),?_⟩
 obtain⟨dx,fs,R,F,Pd,G,Tk,FL,PL,W⟩:=id N
 have hz:sizeLine=16777216:=sizeLine_eq
 have hp:=W.fit.p16
 have h5:=W.parts
 have lpl:PL.length=ps.length:=by rw [<-W.pls,lM]
 refine⟨_,rfl,n,_,dx,fs,_,rfl,W.obj,T.aU.c,T.aU.na.2.2.1,W.fl.has ("parts",.ref Pd) (by simp),Pd,_,rfl,h5,fun o=>?_⟩
 refine QJ (fun j ys H'=>H'=upd H Pd (.frz o (.dK (eX PL)))/\ys=dX ((PL.take j).map (·.1)) x) (by unfold eX;rw [lM];omega) ⟨rfl,by simp [dX]⟩ ?_ ?_ ?_ ?_
 ·rintro j ys H' ⟨_,rfl⟩
  have:=zE ((PL.take j).map (·.1)) x
  rw [lM,List.length_take] at this
  omega
 ·rintro j ys H' _ ⟨rfl,_⟩
  exact az
 ·rintro j kk v ys H' hj ⟨rfl,rfl⟩
  unfold eX at hj
  rw [List.getElem?_map] at hj
  obtain⟨q,hq,e⟩:=Option.map_eq_some_iff.mp hj
  cases e
  have hm:=List.mem_of_getElem? hq
  obtain⟨dxp,tn,ti,to,p1,p2,p3,p4⟩:=((W.pats q hm).chill (v:=.frz o (.dK (eX PL))) h5).ex
  refine⟨_,rfl,n,_,dx,fs,_,rfl,jG h5 W.obj (by intro _ z;cases z),T.aU.c,T.aU.na.2.2.1,W.fl.has ("parts",.ref Pd) (by simp),_,rfl,Pd,_,rfl,(by rw [<-W.partV hm];exact .inl ⟨_,Sum.inr q.1.name,.inr ⟨o,az⟩,rfl,rfl⟩),?_⟩
  refine⟨q.2,cls t q.1.kind,dxp,_,jh q.1.kind,rfl,p1,wj _ _ _ _ (by decide +kernel) (by decide +kernel) (by decide +kernel) (by decide +kernel),U4 T q.1.kind,_,rfl,_,rfl,rfl,_,rfl,?_⟩
  rw [List.take_succ,hq,Option.toList_some,List.map_append,List.map_singleton,QK]
  refine iu (fun e=>?_) (fun e=>?_)
  ·have e':fc q.1.kind=x:=by simpa using e
   rw [if_pos e']
   exact⟨_,rfl,rfl,rfl⟩
  ·have e':¬fc q.1.kind=x:=by simpa using e
   rw [if_neg e']
   exact⟨rfl,rfl⟩
 ·rintro ys H' ⟨rfl,rfl⟩ D hD
  refine⟨_,⟨Pd,o,eX PL,?_,?_,rfl⟩,?_⟩
  ·rw [aM (by rintro rfl;rw [az] at hD;cases hD)]
   exact az
  ·intro o' u z
   rw [show H Pd=_ from h5] at z
   cases z
  ·rw [QD h5 hD]
   have:=k D (NT hD)
   rw [show(eX PL).length=PL.length by unfold eX;rw [lM],List.take_length,W.pls]
   exact this
inductive zy (K:PySem.W.Frag) (t:jd) (vs:List V) (H:Hp) (Q:VK) (E:XK):Prop where
 | mk:∀(n:Addr) (ls:List aH) (ps:List PD),vs=[.ref n]->fY K t H n ls ps->(∀p,H p=none->Q (.ref p) (upd H p (.lst (dX ps "give"))))->zy K t vs H Q E
theorem mW (T:Txt w K mg t):FO P w K mg base 3 t.ur ["self"] (zy K t):=by
 have sc:=T.jK.sc ["self"]
 refine T.jK.F.ok sc ln (fun _ _ _ _ H vs Q E hr h=>?_)
 obtain⟨n,ls,ps,rfl,N,k⟩:=h
 refine⟨_,(aA (aO (vJ (pv 0) T.aU T.aU.me.2.2.2.1 (lU T) T.gj hr (aa bK ak au)))),?_⟩
 obtain⟨dx,fs,R,F,Pd,G,Tk,FL,PL,W⟩:=id N
 exact⟨_,rfl,n,dx,fs,rfl,W.obj,W.fl.no _ (by decide +kernel),n,ls,ps,_,rfl,N,k⟩
inductive zA (K:PySem.W.Frag) (t:jd) (vs:List V) (H:Hp) (Q:VK) (E:XK):Prop where
 | mk:∀(n:Addr) (ls:List aH) (ps:List PD),vs=[.ref n]->fY K t H n ls ps->(∀p,H p=none->Q (.ref p) (upd H p (.lst (dX ps "take"))))->zA K t vs H Q E
theorem Je (T:Txt w K mg t):FO P w K mg base 3 t.uY ["self"] (zA K t):=by
 have sc:=T.uQ.sc ["self"]
 refine T.uQ.F.ok sc ln (fun _ _ _ _ H vs Q E hr h=>?_)
 obtain⟨n,ls,ps,rfl,N,k⟩:=h
 refine⟨_,(aA (aO (vJ (pv 0) T.aU T.aU.me.2.2.2.1 (lU T) T.gj hr (aa bK ak au)))),?_⟩
 obtain⟨dx,fs,R,F,Pd,G,Tk,FL,PL,W⟩:=id N
 exact⟨_,rfl,n,dx,fs,rfl,W.obj,W.fl.no _ (by decide +kernel),n,ls,ps,_,rfl,N,k⟩
inductive j0 (K:PySem.W.Frag) (t:jd) (vs:List V) (H:Hp) (Q:VK) (E:XK):Prop where
 | mk:∀(n:Addr) (ls:List aH) (ps:List PD) (x:Str),vs=[.ref n,.str x]->fY K t H n ls ps->(((x∈ls.map (·.name)/\∀H',aK H H'->Q .non H')∨False))->j0 K t vs H Q E
theorem dZ (T:Txt w K mg t):FO P w K mg base 2 t.iV ["self", "name"] (j0 K t):=by
 have sc:=T.cD.sc ["self", "name"]
 refine T.cD.F.ok sc ln (fun _ _ _ _ H vs Q E hr h=>?_)
 obtain⟨n,ls,ps,x,rfl,N,h⟩:=h
 refine⟨_,(aA (bO (aZ jf (pv 1) (Nh (pv 0) T.aU T.aU.me.2.1 (p7 T) T.jg hr) (by with_unfolding_all rfl))
   (aA dW)
   bu)),?_⟩
 obtain⟨dx,fs,R,F,Pd,G,Tk,FL,PL,W⟩:=id N
 refine⟨_,rfl,_,rfl,n,dx,fs,rfl,W.obj,W.fl.no _ (by decide +kernel),n,ls,ps,rfl,N,fun l hl=>?_⟩
 have s1:=aB (o:=.lst (ls.map fun x=>V.str x.name)) hl
 refine⟨l,_,rfl,.inl (bH.of az),rfl,by simp [mU],_,rfl,?_⟩
 rw [Dz (f:=fun x:aH=>x.name)]
 rcases h with ⟨hx,k⟩ | h
 ·rw [decide_eq_true hx]
  exact cB (k _ s1)
 ·exact h.elim
inductive u5 (K:PySem.W.Frag) (t:jd) (vs:List V) (H:Hp) (Q:VK) (E:XK):Prop where
 | mk:∀(n:Addr) (ls:List aH) (ps:List PD) (x:Str),vs=[.ref n,.str x]->fY K t H n ls ps->(((∃l∈ls,l.name=x/\∀H',aK H H'->Q (.int l.room) H')∨False))->u5 K t vs H Q E
theorem Dc (T:Txt w K mg t):FO P w K mg base 3 t.qR ["self", "name"] (u5 K t):=by
 have sc:=T.rm.sc ["self", "name"]
 refine T.rm.F.ok sc ln (fun _ _ _ _ H vs Q E hr h=>?_)
 obtain⟨n,ls,ps,x,rfl,N,h⟩:=h
 refine⟨_,(ao (bI (vJ (pv 0) T.aU T.aU.me.2.2.2.2.2.2.1 (dZ T) T.cD hr (aa (pv 1) ak aj)))
  (aA (aO (bZ hr.u1 (aY (pv 0) rfl) (pv 1) (fun _ _=>rfl))))),?_⟩
 obtain⟨dx,fs,R,F,Pd,G,Tk,FL,PL,W⟩:=id N
 refine⟨_,rfl,n,dx,fs,rfl,W.obj,W.fl.no _ (by decide +kernel),_,rfl,n,ls,ps,x,rfl,N,?_⟩
 rcases h with ⟨l,hl,rfl,k⟩ | h
 ·refine .inl ⟨List.mem_map.mpr ⟨l,hl,rfl⟩,fun H1 s1=>?_⟩
  have W1:=W.same s1
  have hv:=W1.room hl
  refine⟨_,rfl,n,_,dx,fs,_,rfl,W1.obj,T.aU.c,T.aU.na.1,W1.fl.has ("rooms",.ref R) (by simp),_,rfl,R,_,rfl,(by rw [<-hv];exact dM.k (k:=Sum.inr l.name) W1.rooms),?_⟩
  exact k _ s1
 ·exact .inr h
inductive tZ (K:PySem.W.Frag) (t:jd) (vs:List V) (H:Hp) (Q:VK) (E:XK):Prop where
 | mk:∀(n:Addr) (ls:List aH) (ps:List PD) (x:Str),vs=[.ref n,.str x]->fY K t H n ls ps->(((∃l∈ls,l.name=x/\∀H' p,aK H H'->H p=none->H' p=some (.lst (l.first.map V.int))->Q (.ref p) H')∨False))->tZ K t vs H Q E
theorem Ca (T:Txt w K mg t):FO P w K mg base 3 t.oW ["self", "name"] (tZ K t):=by
 have sc:=T.pQ.sc ["self", "name"]
 refine T.pQ.F.ok sc ln (fun _ _ _ _ H vs Q E hr h=>?_)
 obtain⟨n,ls,ps,x,rfl,N,h⟩:=h
 refine⟨_,(ao (bI (vJ (pv 0) T.aU T.aU.me.2.2.2.2.2.2.1 (dZ T) T.cD hr (aa (pv 1) ak aj)))
  (aA (aO (fL yt (by rfl) T.xZ sy (aa (bZ hr.u1 (aY (pv 0) rfl) (pv 1) (fun _ _=>rfl)) ak aF))))),?_⟩
 obtain⟨dx,fs,R,F,Pd,G,Tk,FL,PL,W⟩:=id N
 refine⟨_,rfl,n,dx,fs,rfl,W.obj,W.fl.no _ (by decide +kernel),_,rfl,n,ls,ps,x,rfl,N,?_⟩
 rcases h with ⟨l,hl,rfl,k⟩ | h
 ·refine .inl ⟨List.mem_map.mpr ⟨l,hl,rfl⟩,fun H1 s1=>?_⟩
  have W1:=W.same s1
  obtain⟨q,hq,eq⟩:∃q∈FL,q.1=l:=by
   rw [<-W.fls] at hl
   obtain⟨q,hq,e⟩:=List.mem_map.mp hl
   exact⟨q,hq,e⟩
  subst eq
  have hv:=W1.firstV hq
  refine⟨_,rfl,n,_,dx,fs,_,rfl,W1.obj,T.aU.c,T.aU.na.2.1,W1.fl.has ("firsts",.ref F) (by simp),_,rfl,F,_,rfl,(by rw [<-hv];exact dM.k (k:=Sum.inr q.1.name) W1.firsts),?_⟩
  exact⟨q.2,_,rfl,.inr (W1.tups q hq),fun p hp=>k _ p (s1.trans (aB hp)) (s1.free hp) az⟩
 ·exact .inr h
inductive tK (K:PySem.W.Frag) (t:jd) (vs:List V) (H:Hp) (Q:VK) (E:XK):Prop where
 | mk:∀(n:Addr) (ls:List aH) (ps:List PD) (x:Str),vs=[.ref n,.str x]->fY K t H n ls ps->(((∃l∈ls,l.name=x/\∀p∈ps,l.name∈p.outs->∀H',aK H H'->Q (.str p.name) H')∨False))->tK K t vs H Q E
theorem Ce (T:Txt w K mg t):FO P w K mg base 3 t.pH ["self", "name"] (tK K t):=by
 have sc:=T.pM.sc ["self", "name"]
 refine T.pM.F.ok sc ln (fun _ _ _ _ H vs Q E hr h=>?_)
 obtain⟨n,ls,ps,x,rfl,N,h⟩:=h
 refine⟨_,(ao (bI (vJ (pv 0) T.aU T.aU.me.2.2.2.2.2.2.1 (dZ T) T.cD hr (aa (pv 1) ak aj)))
  (aA (aO (bZ hr.u1 (aY (pv 0) rfl) (pv 1) (fun _ _=>rfl))))),?_⟩
 obtain⟨dx,fs,R,F,Pd,G,Tk,FL,PL,W⟩:=id N
 refine⟨_,rfl,n,dx,fs,rfl,W.obj,W.fl.no _ (by decide +kernel),_,rfl,n,ls,ps,x,rfl,N,?_⟩
 rcases h with ⟨l,hl,rfl,k⟩ | h
 ·refine .inl ⟨List.mem_map.mpr ⟨l,hl,rfl⟩,fun H1 s1=>?_⟩
  have W1:=W.same s1
  obtain⟨p,hp,hlp⟩:∃p∈ps,l.name∈p.outs:=List.mem_flatMap.mp (W.fit.whole.outs.mem_iff.mpr (List.mem_map.mpr ⟨l,hl,rfl⟩))
  have hv:=gJ (f:=(·.outs)) W.ono hp hlp
  refine⟨_,rfl,n,_,dx,fs,_,rfl,W1.obj,T.aU.c,T.aU.na.2.2.2.1,W1.fl.has ("givers",.ref G) (by simp),_,rfl,G,_,rfl,(by rw [<-hv];exact dM.k (k:=Sum.inr l.name) W1.givers),?_⟩
  exact k p hp hlp _ s1
 ·exact .inr h
inductive tW (K:PySem.W.Frag) (t:jd) (vs:List V) (H:Hp) (Q:VK) (E:XK):Prop where
 | mk:∀(n:Addr) (ls:List aH) (ps:List PD) (x:Str),vs=[.ref n,.str x]->fY K t H n ls ps->(((∃l∈ls,l.name=x/\∀p∈ps,l.name∈p.ins->∀H',aK H H'->Q (.str p.name) H')∨False))->tW K t vs H Q E
theorem Cm (T:Txt w K mg t):FO P w K mg base 3 t.pI ["self", "name"] (tW K t):=by
 have sc:=T.oY.sc ["self", "name"]
 refine T.oY.F.ok sc ln (fun _ _ _ _ H vs Q E hr h=>?_)
 obtain⟨n,ls,ps,x,rfl,N,h⟩:=h
 refine⟨_,(ao (bI (vJ (pv 0) T.aU T.aU.me.2.2.2.2.2.2.1 (dZ T) T.cD hr (aa (pv 1) ak aj)))
  (aA (aO (bZ hr.u1 (aY (pv 0) rfl) (pv 1) (fun _ _=>rfl))))),?_⟩
 obtain⟨dx,fs,R,F,Pd,G,Tk,FL,PL,W⟩:=id N
 refine⟨_,rfl,n,dx,fs,rfl,W.obj,W.fl.no _ (by decide +kernel),_,rfl,n,ls,ps,x,rfl,N,?_⟩
 rcases h with ⟨l,hl,rfl,k⟩ | h
 ·refine .inl ⟨List.mem_map.mpr ⟨l,hl,rfl⟩,fun H1 s1=>?_⟩
  have W1:=W.same s1
  obtain⟨p,hp,hlp⟩:∃p∈ps,l.name∈p.ins:=List.mem_flatMap.mp (W.fit.whole.ins.mem_iff.mpr (List.mem_map.mpr ⟨l,hl,rfl⟩))
  have hv:=gJ (f:=(·.ins)) W.ini hp hlp
  refine⟨_,rfl,n,_,dx,fs,_,rfl,W1.obj,T.aU.c,T.aU.na.2.2.2.2.1,W1.fl.has ("takers",.ref Tk) (by simp),_,rfl,Tk,_,rfl,(by rw [<-hv];exact dM.k (k:=Sum.inr l.name) W1.takers),?_⟩
  exact k p hp hlp _ s1
 ·exact .inr h
inductive uI (K:PySem.W.Frag) (t:jd) (vs:List V) (H:Hp) (Q:VK) (E:XK):Prop where
 | mk:∀(n:Addr) (ls:List aH) (ps:List PD) (x:Str),vs=[.ref n,.str x]->fY K t H n ls ps->(((∃p∈ps,p.name=x/\∀H' q,aK H H'->fK K t H' q p.kind (.str p.name) (p.nums.map V.int) (p.ins.map V.str) (p.outs.map V.str)->Q (.ref q) H')∨False))->uI K t vs H Q E
theorem pP (T:Txt w K mg t):FO P w K mg base 2 t.qQ ["self", "name"] (uI K t):=by
 have sc:=T.jm.sc ["self", "name"]
 refine T.jm.F.ok sc ln (fun _ _ _ _ H vs Q E hr h=>?_)
 obtain⟨n,ls,ps,x,rfl,N,h⟩:=h
 refine⟨_,(ao (bO (aZ jf (pv 1) (Nh (pv 0) T.aU T.aU.me.2.2.1 (dH T) T.cJ hr) (by with_unfolding_all rfl))
   (aA dW)
   bu)
  (aA (aO (bZ hr.u1 (aY (pv 0) rfl) (pv 1) (fun _ _=>rfl))))),?_⟩
 obtain⟨dx,fs,R,F,Pd,G,Tk,FL,PL,W⟩:=id N
 refine⟨_,rfl,_,rfl,n,dx,fs,rfl,W.obj,W.fl.no _ (by decide +kernel),n,ls,ps,rfl,N,fun l hl=>?_⟩
 have s1:=aB (o:=.lst (ps.map fun x=>V.str x.name)) hl
 refine⟨l,_,rfl,.inl (bH.of az),rfl,by simp [mU],_,rfl,?_⟩
 rw [Dz (f:=fun x:PD=>x.name)]
 rcases h with ⟨p,hp,rfl,k⟩ | h
 ·rw [decide_eq_true (List.mem_map.mpr ⟨p,hp,rfl⟩)]
  refine cB ?_
  obtain⟨q,hq,eq⟩:∃q∈PL,q.1=p:=by
   rw [<-W.pls] at hp
   obtain⟨q,hq,e⟩:=List.mem_map.mp hp
   exact⟨q,hq,e⟩
  subst eq
  have W1:=W.same s1
  have hv:=W1.partV hq
  exact⟨_,rfl,n,_,dx,fs,_,rfl,W1.obj,T.aU.c,T.aU.na.2.2.1,W1.fl.has ("parts",.ref Pd) (by simp),_,rfl,Pd,_,rfl,(by rw [<-hv];exact dM.k (k:=Sum.inr q.1.name) W1.parts),k _ q.2 s1 (W1.pats q hq)⟩
 ·exact h.elim
inductive tV (K:PySem.W.Frag) (t:jd) (vs:List V) (H:Hp) (Q:VK) (E:XK):Prop where
 | mk:∀(n dx Ll Lp:Addr) (ls:List aH) (ps:List PD),vs=[.ref n,.ref Ll,.ref Lp]->H n=some (.ins t.dN dx [])->Hand K H Ll Lp ls ps->Cd ls ps->(∀H',lH n H H'->fY K t H' n ls ps->Q .non H')->tV K t vs H Q E
theorem BZ (T:Txt w K mg t):FO P w K mg base 6 t.pU ["self", "lanes", "parts"] (tV K t):=by
 have sc:=T.jT.sc ["self", "lanes", "parts", "lane", "row", "part"]
 refine T.jT.F.ok sc ln (fun _ _ _ _ H vs Q E hr h=>?_)
 obtain⟨n,dx,Ll,Lp,ls,ps,rfl,hn,hH,hF,k⟩:=h
 refine⟨_,(ao (bI (dJ (Dn T) T.rn hr (aa (pv 1) (aa (pv 2) ak aj) aj)))
  (ao (iy (pv 0) fD rfl)
  (ao (iy (pv 0) fD rfl)
  (ao (dq PassesOwn.never rfl (bT (pv 1)) (gN sc 3)
   (ao (bI (dJ (wQ T) T.mY hr (aa (aR cj (pv 3) aq (fun _ _=>rfl)) (aa (aY (pv 0) rfl) ak bD) aF)))
   (ao (bI (dJ (JD T) T.uo hr (aa (aR cj (pv 3) aq (fun _ _=>rfl)) (aa (aR cj (pv 3) aq (fun _ _=>rfl)) (aa (aR cj (pv 3) aq (fun _ _=>rfl)) ak aF) aF) aF)))
   (ao (fW hr.u1 (aY (pv 0) rfl) (aR cj (pv 3) aq (fun _ _=>rfl)) (aR cj (pv 3) aq (fun _ _=>rfl)) rfl)
   (aA (fW hr.u1 (aY (pv 0) rfl) (aR cj (pv 3) aq (fun _ _=>rfl)) (fL wA (by rfl) T.Cv zF (aa (aR cj (pv 3) aq (fun _ _=>rfl)) ak aF)) rfl))))))
  (ao (iy (pv 0) fD rfl)
  (ao (iy (pv 0) fD rfl)
  (ao (iy (pv 0) fD rfl)
  (ao (dq PassesOwn.never rfl (bT (pv 2)) (gN sc 4)
   (ao (sN sc 5 (dJ (Gx T) T.tH hr (aa (pv 4) (aa (aY (pv 0) rfl) ak bD) aj)))
   (ao (bI (dJ (zg T) T.qF hr (aa (aY (pv 5) rfl) (aa (aY (pv 5) rfl) (aa (aY (pv 0) rfl) (aa (aY (pv 0) rfl) ak bD) bD) bD) bD)))
   (ao (bI (dJ (zg T) T.qF hr (aa (aY (pv 5) rfl) (aa (aY (pv 5) rfl) (aa (aY (pv 0) rfl) (aa (aY (pv 0) rfl) ak bD) bD) bD) bD)))
   (aA (fW hr.u1 (aY (pv 0) rfl) (aY (pv 5) rfl) (pv 5) rfl))))))
  (ao (bI (dJ (Jk T) T.um hr (aa (aY (pv 0) rfl) (aa (aY (pv 0) rfl) (aa (aY (pv 0) rfl) ak bD) bD) bD)))
  (aA (bI (dJ (Ei T) T.qL hr (aa (fL (pq rfl) (by rfl) T.xZ sy (aa (aY (pv 0) rfl) ak bD)) (aa (aY (pv 0) rfl) (aa (aY (pv 0) rfl) ak bD) bD) bf))))))))))))),?_⟩
 have hl:sizeLine=16777216:=sizeLine_eq
 obtain⟨xs,hLl,aL⟩:=hH.ll
 obtain⟨ys,hLp,aP⟩:=hH.lp
 have lx:=aL.length
 have ly:=aP.length
 have l1:=hF.l1
 have l24:=hF.l24
 have p1:=hF.p1
 have p16:=hF.p16
 refine⟨_,rfl,_,rfl,Ll,Lp,_,_,rfl,hLl,hLp,by omega,by omega,by omega,by omega,?_⟩
 have T0:=Tr.start hn
 refine fun R nR=>?_
 have T1:=T0.new (o:=.dK []) nR
 have gR:=aB (o:=.dK []) nR
 generalize upd H R (.dK [])=H1 at T1 gR ⊢
 have cR:=T1.all (n,.ins t.dN dx []) (.head _)
 refine⟨_,rfl,n,_,dx,_,rfl,cR,T.aU.c,T.aU.na.1,Nat.lt_of_le_of_lt (show 0<=0 from Nat.le_refl 0) (by decide),?_⟩
 have T2:=T1.put (L1:=[]) (o':=.ins t.dN dx (aJ "rooms" (.ref R) []))
 have wR:lH n H1 (upd H1 n (.ins t.dN dx (aJ "rooms" (.ref R) []))):=lH.write
 generalize upd H1 n (.ins t.dN dx (aJ "rooms" (.ref R) []))=H2 at T2 wR ⊢
 refine fun F nF=>?_
 have T3:=T2.new (o:=.dK []) nF
 have gF:=aB (o:=.dK []) nF
 generalize upd H2 F (.dK [])=H3 at T3 gF ⊢
 have cF:=T3.all (n,.ins t.dN dx (aJ "rooms" (.ref R) [])) (.head _)
 refine⟨_,rfl,n,_,dx,_,rfl,cF,T.aU.c,T.aU.na.2.1,Nat.lt_of_le_of_lt (ie (Nat.zero_le 0)) (by decide),?_⟩
 have T4:=T3.put (L1:=[]) (o':=.ins t.dN dx (aJ "firsts" (.ref F) (aJ "rooms" (.ref R) [])))
 have wF:lH n H3 (upd H3 n (.ins t.dN dx (aJ "firsts" (.ref F) (aJ "rooms" (.ref R) [])))):=lH.write
 generalize upd H3 n (.ins t.dN dx (aJ "firsts" (.ref F) (aJ "rooms" (.ref R) [])))=H4 at T4 wF ⊢
 have kb:∀{Hk:Hp} {q:Addr} {u:HO},lH n H Hk->H q=some u->(∀C d f,u≠.ins C d f)->Hk q=some u:=fun b h hu=>b _ _ (xg h hn (by intro z;exact hu _ _ _ z)) h
 refine⟨_,rfl,Ll,rfl,⟨_,T4.but.seqL hn hLl⟩,dD (K:=K) (a:=Ll) (xs:=xs) (fun j σ H'=>(∃x3,σ=[some (.ref n),some (.ref Ll),some (.ref Lp),x3,none,none])/\∃FL:List (aH×Addr),FL.map (·.1)=ls.take j/\Tr H n [(n,.ins t.dN dx (aJ "firsts" (.ref F) (aJ "rooms" (.ref R) []))),(R,.dK (fG (ls.take j))),(F,.dK (bL FL))] H'/\∀q∈FL,fH K H' q.2 (q.1.first.map V.int)) ⟨⟨none,rfl⟩,[],rfl,T4,by simp⟩ (fun j σ H' _ ⟨_,_,_,T',_⟩=>T'.but.seqL hn hLl) ?_ ?_⟩
 ·rintro j x σ H' hx ⟨⟨x3,rfl⟩,FL,eFL,T4,hS⟩
  obtain⟨l,hlj,q,f,rfl,hq,hf⟩:=aL.get hx
  have hm:=List.mem_of_getElem? hlj
  obtain⟨v1,v2,v3,v4⟩:=hF.lok l hm
  have hnm:=hF.lnm l hm
  have hj:=(List.getElem?_eq_some_iff.mp hlj).1
  have kq:∀{Hk:Hp},lH n H Hk->Hk q=some (.tup [.str l.name,.int l.room,.ref f]):=fun b=>kb b hq (by intro _ _ _ z;cases z)
  have nin:=lV hF.whole.nod hlj
  have vR:bY (fG (ls.take j)) (Sum.inr l.name)=none:=ir (by rw [vz];intro z;obtain⟨b,hb,e⟩:=List.mem_map.mp z;cases e;exact nin hb)
  have vF:bY (bL FL) (Sum.inr l.name)=none:=ir (by rw [sI,eFL];intro z;obtain⟨b,hb,e⟩:=List.mem_map.mp z;cases e;exact nin hb)
  have tk:ls.take (j+1)=ls.take j ++ [l]:=by rw [List.take_succ,hlj];rfl
  have e4:=T4.all (n,.ins t.dN dx (aJ "firsts" (.ref F) (aJ "rooms" (.ref R) []))) (.head _)
  refine SJ fun De hD u hu=>?_
  refine⟨_,rfl,q,_,0,_,rfl,rfl,fH.of (kq T4.but),aN (j:=0) rfl,_,rfl,n,_,dx,_,_,rfl,e4,T.aU.c,T.aU.na.1,(by (repeat first | (rw [aC,if_pos rfl];done) | rw [aC,if_neg (by decide +kernel)])),l.name,R,_,rfl,T4.all (R,.dK (fG (ls.take j))) (by simp),hnm,GZ hnm,vR,fun H5 s5=>?_⟩
  have T5:=T4.same s5
  refine du (v:=u) hu fun u hu=>?_
  refine⟨_,rfl,q,_,0,_,rfl,rfl,fH.of (kq T5.but),aN (j:=0) rfl,_,rfl,q,_,1,_,rfl,rfl,fH.of (kq T5.but),aN (j:=1) rfl,_,rfl,q,_,2,_,rfl,rfl,fH.of (kq T5.but),aN (j:=2) rfl,.str l.name,l.room,f,l.first,rfl,T5.but.seqA hn hf,by omega,v4,v1,v3,v2,fun H6 s6=>?_⟩
  have T6:=T5.same s6
  have e6:=T6.all (n,.ins t.dN dx (aJ "firsts" (.ref F) (aJ "rooms" (.ref R) []))) (.head _)
  have eR6:=T6.all (R,.dK (fG (ls.take j))) (by simp)
  refine du (v:=u) hu fun u hu=>?_
  refine⟨_,rfl,q,_,1,_,rfl,rfl,fH.of (kq T6.but),aN (j:=1) rfl,_,rfl,n,_,dx,_,_,rfl,e6,T.aU.c,T.aU.na.1,(by (repeat first | (rw [aC,if_pos rfl];done) | rw [aC,if_neg (by decide +kernel)])),_,rfl,q,_,0,_,rfl,rfl,fH.of (kq T6.but),aN (j:=0) rfl,R,_,rfl,n6.k (k:=Sum.inr l.name) eR6 (by unfold fG;rw [lM,List.length_take];omega),?_⟩
  have e7:putK (fG (ls.take j)) (Sum.inr l.name) (.int l.room)=fG (ls.take (j+1)):=by rw [jt _ vR,tk];unfold fG;rw [List.map_append];rfl
  have T7:=T6.put (L1:=[_]) (o':=.dK (fG (ls.take (j+1))))
  rw [e7]
  have hS7:∀q∈FL,fH K (upd H6 R (.dK (fG (ls.take (j+1))))) q.2 (q.1.first.map V.int):=fun q hq=>fZ eR6 (s6.seqT (s5.seqT (hS q hq)))
  generalize upd H6 R (.dK (fG (ls.take (j+1))))=H7 at T7 hS7 ⊢
  subst hu
  refine⟨_,rfl,q,_,2,_,rfl,rfl,fH.of (kq T7.but),aN (j:=2) rfl,f,_,rfl,T7.but.seqA hn hf,fun H8 F0 s8 t8=>?_⟩
  have T8:=T7.same s8
  have e8:=T8.all (n,.ins t.dN dx (aJ "firsts" (.ref F) (aJ "rooms" (.ref R) []))) (.head _)
  have eF8:=T8.all (F,.dK (bL FL)) (by simp)
  have lFL:FL.length<=24:=by have:=congrArg List.length eFL;rw [lM,List.length_take] at this;omega
  refine⟨_,rfl,n,_,dx,_,_,rfl,e8,T.aU.c,T.aU.na.2.1,(by (repeat first | (rw [aC,if_pos rfl];done) | rw [aC,if_neg (by decide +kernel)])),_,rfl,q,_,0,_,rfl,rfl,fH.of (kq T8.but),aN (j:=0) rfl,F,_,rfl,n6.k (k:=Sum.inr l.name) eF8 (by unfold bL;rw [lM];omega),?_⟩
  have e9:putK (bL FL) (Sum.inr l.name) (.ref F0)=bL (FL ++ [(l,F0)]):=by rw [jt _ vF];unfold bL;rw [List.map_append];rfl
  have T9:=T8.put (L1:=[_,_]) (o':=.dK (bL (FL ++ [(l,F0)])))
  rw [e9]
  subst hD
  refine⟨⟨_,rfl⟩,FL ++ [(l,F0)],by rw [List.map_append,eFL,tk];rfl,T9,fun q hq=>?_⟩
  rcases List.mem_append.mp hq with h | h
  ·exact fZ eF8 (s8.seqT (hS7 q h))
  ·rw [List.mem_singleton] at h
   subst h
   exact fZ eF8 t8
 rintro σ H9 ⟨⟨x3,rfl⟩,FL,eFL,T9,t9⟩
 rw [lx,List.take_length] at eFL T9
 clear T0 T1 T2 T3 T4
 refine fun Pd nPd=>?_
 have T10:=T9.new (o:=.dK []) nPd
 have gPd:=aB (o:=.dK []) nPd
 generalize upd H9 Pd (.dK [])=H10 at T10 gPd ⊢
 have cPd:=T10.all (n,.ins t.dN dx (aJ "firsts" (.ref F) (aJ "rooms" (.ref R) []))) (.head _)
 refine⟨_,rfl,n,_,dx,_,rfl,cPd,T.aU.c,T.aU.na.2.2.1,Nat.lt_of_le_of_lt (ie (ie (Nat.zero_le 0))) (by decide),?_⟩
 have T11:=T10.put (L1:=[]) (o':=.ins t.dN dx (aJ "parts" (.ref Pd) (aJ "firsts" (.ref F) (aJ "rooms" (.ref R) []))))
 have wPd:lH n H10 (upd H10 n (.ins t.dN dx (aJ "parts" (.ref Pd) (aJ "firsts" (.ref F) (aJ "rooms" (.ref R) []))))):=lH.write
 generalize upd H10 n (.ins t.dN dx (aJ "parts" (.ref Pd) (aJ "firsts" (.ref F) (aJ "rooms" (.ref R) []))))=H11 at T11 wPd ⊢
 refine fun Gv nGv=>?_
 have T12:=T11.new (o:=.dK []) nGv
 have gGv:=aB (o:=.dK []) nGv
 generalize upd H11 Gv (.dK [])=H12 at T12 gGv ⊢
 have cGv:=T12.all (n,.ins t.dN dx (aJ "parts" (.ref Pd) (aJ "firsts" (.ref F) (aJ "rooms" (.ref R) [])))) (.head _)
 refine⟨_,rfl,n,_,dx,_,rfl,cGv,T.aU.c,T.aU.na.2.2.2.1,Nat.lt_of_le_of_lt (ie (ie (ie (Nat.zero_le 0)))) (by decide),?_⟩
 have T13:=T12.put (L1:=[]) (o':=.ins t.dN dx (aJ "givers" (.ref Gv) (aJ "parts" (.ref Pd) (aJ "firsts" (.ref F) (aJ "rooms" (.ref R) [])))))
 have wGv:lH n H12 (upd H12 n (.ins t.dN dx (aJ "givers" (.ref Gv) (aJ "parts" (.ref Pd) (aJ "firsts" (.ref F) (aJ "rooms" (.ref R) [])))))):=lH.write
 generalize upd H12 n (.ins t.dN dx (aJ "givers" (.ref Gv) (aJ "parts" (.ref Pd) (aJ "firsts" (.ref F) (aJ "rooms" (.ref R) [])))))=H13 at T13 wGv ⊢
 refine fun Tk nTk=>?_
 have T14:=T13.new (o:=.dK []) nTk
 have gTk:=aB (o:=.dK []) nTk
 generalize upd H13 Tk (.dK [])=H14 at T14 gTk ⊢
 have cTk:=T14.all (n,.ins t.dN dx (aJ "givers" (.ref Gv) (aJ "parts" (.ref Pd) (aJ "firsts" (.ref F) (aJ "rooms" (.ref R) []))))) (.head _)
 refine⟨_,rfl,n,_,dx,_,rfl,cTk,T.aU.c,T.aU.na.2.2.2.2.1,Nat.lt_of_le_of_lt (ie (ie (ie (ie (Nat.zero_le 0))))) (by decide),?_⟩
 have T15:=T14.put (L1:=[]) (o':=.ins t.dN dx (aJ "takers" (.ref Tk) (aJ "givers" (.ref Gv) (aJ "parts" (.ref Pd) (aJ "firsts" (.ref F) (aJ "rooms" (.ref R) []))))))
 have wTk:lH n H14 (upd H14 n (.ins t.dN dx (aJ "takers" (.ref Tk) (aJ "givers" (.ref Gv) (aJ "parts" (.ref Pd) (aJ "firsts" (.ref F) (aJ "rooms" (.ref R) []))))))):=lH.write
 generalize upd H14 n (.ins t.dN dx (aJ "takers" (.ref Tk) (aJ "givers" (.ref Gv) (aJ "parts" (.ref Pd) (aJ "firsts" (.ref F) (aJ "rooms" (.ref R) []))))))=H15 at T15 wTk ⊢
 have T15:Tr H n [(n,.ins t.dN dx (aJ "takers" (.ref Tk) (aJ "givers" (.ref Gv) (aJ "parts" (.ref Pd) (aJ "firsts" (.ref F) (aJ "rooms" (.ref R) [])))))),(R,.dK (fG ls)),(F,.dK (bL FL)),(Pd,.dK []),(Gv,.dK []),(Tk,.dK [])] H15:=T15
 have t15:∀q∈FL,fH K H15 q.2 (q.1.first.map V.int):=fun q hq=>wTk.seqT cTk (gTk.seqT (wGv.seqT cGv (gGv.seqT (wPd.seqT cPd (gPd.seqT (t9 q hq))))))
 have nod:=T15.nod
 simp only [List.map_append,List.map_cons,List.map_nil,List.nil_append,List.cons_append,List.nodup_cons,List.mem_cons,List.not_mem_nil,or_false,not_or] at nod
 have nRF:R≠F:=nod.2.1.1
 have nRT:R≠Tk:=nod.2.1.2.2.2
 have nRG:R≠Gv:=nod.2.1.2.2.1
 have nGT:Gv≠Tk:=nod.2.2.2.2.1
 clear nod
 have ono:(ps.flatMap (·.outs)).Nodup:=hF.whole.outs.nodup_iff.mpr hF.whole.nod
 have ini:(ps.flatMap (·.ins)).Nodup:=hF.whole.ins.nodup_iff.mpr hF.whole.nod
 have inR:∀z∈ls.map (·.name),(bY (fG ls) (Sum.inr z)).isSome=true:=fun z hz=>by
  obtain⟨l,hl,rfl⟩:=List.mem_map.mp hz
  have e:bY (fG ls) (Sum.inr l.name)=some (.int l.room):=iR (by rw [vz];exact gK hF.whole.nod) (List.mem_map.mpr ⟨l,hl,rfl⟩)
  rw [e]
  rfl
 have lenE:∀(f:PD->List Str) (j:Nat),(ps.flatMap f).Perm (ls.map (·.name))->(cX f (ps.take j)).length<=24:=fun f j pm=>by
  rw [QS]
  have e1:((ps.take j).flatMap f).length+((ps.drop j).flatMap f).length=(ps.flatMap f).length:=by rw [<-lP,<-List.flatMap_append,List.take_append_drop]
  have e2:=pm.length_eq
  rw [lM] at e2
  omega
 refine⟨_,rfl,Lp,rfl,⟨_,T15.but.seqL hn hLp⟩,dD (K:=K) (a:=Lp) (xs:=ys) (fun j σ H'=>(∃x3 x4 x5,σ=[some (.ref n),some (.ref Ll),some (.ref Lp),x3,x4,x5])/\∃PL:List (PD×Addr),PL.map (·.1)=ps.take j/\Tr H n [(n,.ins t.dN dx (aJ "takers" (.ref Tk) (aJ "givers" (.ref Gv) (aJ "parts" (.ref Pd) (aJ "firsts" (.ref F) (aJ "rooms" (.ref R) [])))))),(R,.dK (fG ls)),(F,.dK (bL FL)),(Pd,.dK (eX PL)),(Gv,.dK (cX (·.outs) (ps.take j))),(Tk,.dK (cX (·.ins) (ps.take j)))] H'/\(∀q∈FL,fH K H' q.2 (q.1.first.map V.int))/\∀q∈PL,fK K t H' q.2 q.1.kind (.str q.1.name) (q.1.nums.map V.int) (q.1.ins.map V.str) (q.1.outs.map V.str)) ⟨⟨x3,none,none,rfl⟩,[],rfl,T15,t15,by simp⟩ (fun j σ H' _ ⟨_,_,_,T',_⟩=>T'.but.seqL hn hLp) ?_ ?_⟩
 ·rintro j x σ H' hx ⟨⟨x3,x4,x5,rfl⟩,PL,ePL,T15,hS,hP⟩
  obtain⟨p,hpj,r,a1,a2,a3,rfl,hr,q1,q2,q3⟩:=aP.get hx
  have hm:=List.mem_of_getElem? hpj
  have hj:=(List.getElem?_eq_some_iff.mp hpj).1
  obtain⟨o1,o2,o3,o4,o5⟩:=hF.pok p hm
  have hnm:=hF.pnm p hm
  have nin:=lV hF.pnd hpj
  have tk:ps.take (j+1)=ps.take j ++ [p]:=by rw [List.take_succ,hpj];rfl
  have vP:bY (eX PL) (Sum.inr p.name)=none:=ir (by rw [Bw,ePL];intro z;obtain⟨b,hb,e⟩:=List.mem_map.mp z;cases e;exact nin hb)
  obtain⟨di,fi⟩:=PP ini hpj
  obtain⟨do',fo⟩:=PP ono hpj
  have e15:=T15.all (n,.ins t.dN dx (aJ "takers" (.ref Tk) (aJ "givers" (.ref Gv) (aJ "parts" (.ref Pd) (aJ "firsts" (.ref F) (aJ "rooms" (.ref R) [])))))) (.head _)
  refine SJ fun De hD u hu=>?_
  refine⟨_,rfl,_,rfl,n,_,dx,_,_,rfl,e15,T.aU.c,T.aU.na.2.2.1,(by (repeat first | (rw [aC,if_pos rfl];done) | rw [aC,if_neg (by decide +kernel)])),p.kind,p.name,r,Pd,a1,a2,a3,_,_,_,_,rfl,kb T15.but hr (by intro _ _ _ z;cases z),by omega,T15.all (Pd,.dK (eX PL)) (by simp),hnm,GZ hnm,vP,T15.but.seqA hn q1,T15.but.seqA hn q2,T15.but.seqA hn q3,by rw [lM];exact o2,by rw [lM];exact o3,by rw [lM];exact o4,?_,fun H16 pp s16 npp Pp=>?_⟩
  ·intro v hv
   obtain⟨i,hi,rfl⟩:=List.mem_map.mp hv
   exact⟨i,rfl,(o5 i hi).1,(o5 i hi).2⟩
  have T16:=T15.same s16
  obtain⟨dxp,tn,ti,to,z1,z2,z3,z4⟩:=id Pp.ex
  have e16:=T16.all (n,.ins t.dN dx (aJ "takers" (.ref Tk) (aJ "givers" (.ref Gv) (aJ "parts" (.ref Pd) (aJ "firsts" (.ref F) (aJ "rooms" (.ref R) [])))))) (.head _)
  have eTk:=T16.all (Tk,.dK (cX (·.ins) (ps.take j))) (by simp)
  have li:=lenE (·.ins) j hF.whole.ins
  have lo:=lenE (·.outs) j hF.whole.outs
  have h3I:p.ins.length<=3:=by rw [o3];exact Hm _
  have h3O:p.outs.length<=2:=by rw [o4];exact RZ _
  refine du (v:=u) hu fun u hu=>?_
  refine⟨_,rfl,pp,_,dxp,_,_,rfl,z1,iJ T p.kind,CG T p.kind,Ai _ _ _ _,_,rfl,pp,_,dxp,_,_,rfl,z1,iJ T p.kind,zQ T p.kind,vD _ _ _ _,_,rfl,n,_,dx,_,_,rfl,e16,T.aU.c,T.aU.na.1,(by (repeat first | (rw [aC,if_pos rfl];done) | rw [aC,if_neg (by decide +kernel)])),_,rfl,n,_,dx,_,_,rfl,e16,T.aU.c,T.aU.na.2.2.2.2.1,(by (repeat first | (rw [aC,if_pos rfl];done) | rw [aC,if_neg (by decide +kernel)])),p.name,ti,R,Tk,p.ins,_,_,rfl,z3,T16.all (R,.dK (fG ls)) (by simp),nRT,eTk,di,fun z hz=>⟨inR z (hF.whole.ins.mem_iff.mp (List.mem_flatMap.mpr ⟨p,hm,hz⟩)),Dq (fi z hz)⟩,by omega,?_⟩
  rw [<-Eg (·.ins) (ps.take j) p,<-tk]
  have T17:=T16.put (L1:=[_,_,_,_,_]) (o':=.dK (cX (·.ins) (ps.take (j+1))))
  have Pp17:=Pp.chill (v:=.dK (cX (·.ins) (ps.take (j+1)))) eTk
  have hS17:∀q∈FL,fH K (upd H16 Tk (.dK (cX (·.ins) (ps.take (j+1))))) q.2 (q.1.first.map V.int):=fun q hq=>fZ eTk (s16.seqT (hS q hq))
  have hP17:∀q∈PL,fK K t (upd H16 Tk (.dK (cX (·.ins) (ps.take (j+1))))) q.2 q.1.kind (.str q.1.name) (q.1.nums.map V.int) (q.1.ins.map V.str) (q.1.outs.map V.str):=fun q hq=>((hP q hq).same s16).chill eTk
  generalize upd H16 Tk (.dK (cX (·.ins) (ps.take (j+1))))=H17 at T17 Pp17 hS17 hP17 ⊢
  clear z1 z2 z3 z4 e16
  obtain⟨dxp,tn,ti,to,z1,z2,z3,z4⟩:=id Pp17.ex
  have e17:=T17.all (n,.ins t.dN dx (aJ "takers" (.ref Tk) (aJ "givers" (.ref Gv) (aJ "parts" (.ref Pd) (aJ "firsts" (.ref F) (aJ "rooms" (.ref R) [])))))) (.head _)
  have eGv:=T17.all (Gv,.dK (cX (·.outs) (ps.take j))) (by simp)
  refine du (v:=u) hu fun u hu=>?_
  refine⟨_,rfl,pp,_,dxp,_,_,rfl,z1,iJ T p.kind,CG T p.kind,Ai _ _ _ _,_,rfl,pp,_,dxp,_,_,rfl,z1,iJ T p.kind,JS T p.kind,GJ _ _ _ _,_,rfl,n,_,dx,_,_,rfl,e17,T.aU.c,T.aU.na.1,(by (repeat first | (rw [aC,if_pos rfl];done) | rw [aC,if_neg (by decide +kernel)])),_,rfl,n,_,dx,_,_,rfl,e17,T.aU.c,T.aU.na.2.2.2.1,(by (repeat first | (rw [aC,if_pos rfl];done) | rw [aC,if_neg (by decide +kernel)])),p.name,to,R,Gv,p.outs,_,_,rfl,z4,T17.all (R,.dK (fG ls)) (by simp),nRG,eGv,do',fun z hz=>⟨inR z (hF.whole.outs.mem_iff.mp (List.mem_flatMap.mpr ⟨p,hm,hz⟩)),Dq (fo z hz)⟩,by omega,?_⟩
  rw [<-Eg (·.outs) (ps.take j) p,<-tk]
  have T18:=T17.put (L1:=[_,_,_,_]) (o':=.dK (cX (·.outs) (ps.take (j+1))))
  have Pp18:=Pp17.chill (v:=.dK (cX (·.outs) (ps.take (j+1)))) eGv
  have hS18:∀q∈FL,fH K (upd H17 Gv (.dK (cX (·.outs) (ps.take (j+1))))) q.2 (q.1.first.map V.int):=fun q hq=>fZ eGv (hS17 q hq)
  have hP18:∀q∈PL,fK K t (upd H17 Gv (.dK (cX (·.outs) (ps.take (j+1))))) q.2 q.1.kind (.str q.1.name) (q.1.nums.map V.int) (q.1.ins.map V.str) (q.1.outs.map V.str):=fun q hq=>(hP17 q hq).chill eGv
  generalize upd H17 Gv (.dK (cX (·.outs) (ps.take (j+1))))=H18 at T18 Pp18 hS18 hP18 ⊢
  clear z1 z2 z3 z4 e17
  obtain⟨dxp,tn,ti,to,z1,z2,z3,z4⟩:=id Pp18.ex
  have e18:=T18.all (n,.ins t.dN dx (aJ "takers" (.ref Tk) (aJ "givers" (.ref Gv) (aJ "parts" (.ref Pd) (aJ "firsts" (.ref F) (aJ "rooms" (.ref R) [])))))) (.head _)
  have ePd:=T18.all (Pd,.dK (eX PL)) (by simp)
  have lPL:PL.length<=16:=by have:=congrArg List.length ePL;rw [lM,List.length_take] at this;omega
  subst hu
  refine⟨_,rfl,_,rfl,n,_,dx,_,_,rfl,e18,T.aU.c,T.aU.na.2.2.1,(by (repeat first | (rw [aC,if_pos rfl];done) | rw [aC,if_neg (by decide +kernel)])),_,rfl,pp,_,dxp,_,_,rfl,z1,iJ T p.kind,CG T p.kind,Ai _ _ _ _,Pd,_,rfl,n6.k (k:=Sum.inr p.name) ePd (by unfold eX;rw [lM];omega),?_⟩
  have e19:putK (eX PL) (Sum.inr p.name) (.ref pp)=eX (PL ++ [(p,pp)]):=by rw [jt _ vP];unfold eX;rw [List.map_append];rfl
  have T19:=T18.put (L1:=[_,_,_]) (o':=.dK (eX (PL ++ [(p,pp)])))
  rw [e19]
  subst hD
  refine⟨⟨_,_,_,rfl⟩,PL ++ [(p,pp)],by rw [List.map_append,ePL,tk];rfl,T19,fun q hq=>fZ ePd (hS18 q hq),fun q hq=>?_⟩
  rcases List.mem_append.mp hq with h | h
  ·exact(hP18 q h).chill ePd
  ·rw [List.mem_singleton] at h
   subst h
   exact Pp18.chill ePd
 rintro σ H18 ⟨⟨x3,x4,x5,rfl⟩,PL,ePL,T18,hS,hP⟩
 rw [ly,List.take_length] at ePL T18
 have e18:=T18.all (n,.ins t.dN dx (aJ "takers" (.ref Tk) (aJ "givers" (.ref Gv) (aJ "parts" (.ref Pd) (aJ "firsts" (.ref F) (aJ "rooms" (.ref R) [])))))) (.head _)
 have eR:=T18.all (R,.dK (fG ls)) (by simp)
 have eF:=T18.all (F,.dK (bL FL)) (by simp)
 have ePd:=T18.all (Pd,.dK (eX PL)) (by simp)
 have eGv:=T18.all (Gv,.dK (cX (·.outs) ps)) (by simp)
 have eTk:=T18.all (Tk,.dK (cX (·.ins) ps)) (by simp)
 refine⟨_,rfl,n,_,dx,_,_,rfl,e18,T.aU.c,T.aU.na.1,(by (repeat first | (rw [aC,if_pos rfl];done) | rw [aC,if_neg (by decide +kernel)])),_,rfl,n,_,dx,_,_,rfl,e18,T.aU.c,T.aU.na.2.2.2.1,(by (repeat first | (rw [aC,if_pos rfl];done) | rw [aC,if_neg (by decide +kernel)])),_,rfl,n,_,dx,_,_,rfl,e18,T.aU.c,T.aU.na.2.2.2.2.1,(by (repeat first | (rw [aC,if_pos rfl];done) | rw [aC,if_neg (by decide +kernel)])),R,Gv,Tk,_,_,_,rfl,eR,eGv,eTk,nRG,nRT,?_,?_⟩
 ·intro q hq
  obtain⟨l,hl,rfl⟩:=List.mem_map.mp hq
  have hln:l.name∈ls.map (·.name):=List.mem_map.mpr ⟨l,hl,rfl⟩
  obtain⟨pa,ha,la⟩:=List.mem_flatMap.mp (hF.whole.outs.mem_iff.mpr hln)
  obtain⟨pb,hb,lb⟩:=List.mem_flatMap.mp (hF.whole.ins.mem_iff.mpr hln)
  exact⟨by rw [gJ ono ha la];rfl,by rw [gJ ini hb lb];rfl⟩
 refine⟨_,rfl,n,_,dx,_,_,rfl,e18,T.aU.c,T.aU.na.2.2.1,(by (repeat first | (rw [aC,if_pos rfl];done) | rw [aC,if_neg (by decide +kernel)])),Pd,_,rfl,.inl ePd,fun l nl=>?_⟩
 have s19:=aB (o:=.lst ((eX PL).map fun p=>kV p.1)) nl
 have eL:(eX PL).map (fun p=>kV p.1)=ps.map fun p=>V.str p.name:=by unfold eX;rw [List.map_map,<-ePL,List.map_map];rfl
 refine⟨_,rfl,n,_,dx,_,_,rfl,(s19 _ _ e18),T.aU.c,T.aU.na.2.2.2.1,(by (repeat first | (rw [aC,if_pos rfl];done) | rw [aC,if_neg (by decide +kernel)])),_,rfl,n,_,dx,_,_,rfl,(s19 _ _ e18),T.aU.c,T.aU.na.2.2.2.2.1,(by (repeat first | (rw [aC,if_pos rfl];done) | rw [aC,if_neg (by decide +kernel)])),l,Gv,Tk,ps,rfl,bH.of (by rw [<-eL];exact az),by omega,by omega,s19 _ _ eGv,s19 _ _ eTk,nGT,ono,ini,hF.whole.outs.trans hF.whole.ins.symm,hF.whole.hang,fun H20 s20=>?_⟩
 have s:=s19.trans s20
 refine k _ (fun b u hb e=>s _ _ (T18.but b u hb e)) ⟨dx,_,R,F,Pd,Gv,Tk,FL,PL,s _ _ e18,⟨?_,?_⟩,s _ _ eR,s _ _ eF,s _ _ ePd,s _ _ eGv,s _ _ eTk,eFL,ePL,fun q hq=>s.seqT (hS q hq),fun q hq=>(hP q hq).same s,hF,nRF⟩
 ·intro q hq
  simp only [List.mem_cons,List.not_mem_nil,or_false] at hq
  rcases hq with rfl | rfl | rfl | rfl | rfl <;> (dsimp only;(repeat first | (rw [aC,if_pos rfl];done) | rw [aC,if_neg (by decide +kernel)]))
 ·intro m hm
  have hne:∀m∈(["lane_names", "part_names", "names_of_kind", "gives", "takes", "need_lane_name", "room_of", "first_of", "giver_of", "taker_of", "part_of", "__init__"]:List Str),∀g∈(["takers", "givers", "parts", "firsts", "rooms"]:List Str),¬m=g:=by decide +kernel
  have h:=hne m hm
  rw [aC,if_neg (h _ (by simp)),aC,if_neg (h _ (by simp)),aC,if_neg (h _ (by simp)),aC,if_neg (h _ (by simp)),aC,if_neg (h _ (by simp))]
  rfl
inductive xx (K:PySem.W.Frag) (t:jd) (vs:List V) (H:Hp) (Q:VK) (E_:XK):Prop where
 | mk:∀(f n E G Kp D Rw l:Addr) (ed gd:List (Key×V)) (x:Str) (vs':List V) (g:Nat),vs=[.ref f,.str x]->oN K t H f n E G Kp D Rw->H E=some (.dK ed)->H G=some (.dK gd)->bY ed (Sum.inr x)=some (.ref l)->bY gd (Sum.inr x)=some (.int g)->bH K H l vs'->Q (.int (vs'.length - g)) H->xx K t vs H Q E_
theorem wY (T:Txt w K mg t):FO P w K mg base 1 t.sY ["self", "lane"] (xx K t):=by
 have sc:=T.m5.sc ["self", "lane"]
 refine T.m5.F.ok sc ln (fun _ _ _ _ H vs Q E hr h=>?_)
 obtain⟨f,n,E,G,Kp,D,Rw,l,ed,gd,x,vs',g,rfl,N,hE,hG,h3,h4,h5,k⟩:=h
 refine⟨_,(aA (aO (bc Nu (bw bR (by rfl) T.eQ cP (aa (bZ hr.u1 (aY (pv 0) rfl) (pv 1) (fun _ _=>rfl)) ak aF)) (bZ hr.u1 (aY (pv 0) rfl) (pv 1) (fun _ _=>rfl))))),?_⟩
 obtain⟨dx,fs,h1,h2⟩:=id N.ex
 refine⟨_,rfl,f,_,dx,fs,_,rfl,h1,T.aQ.c,T.aQ.na.2.1,h2.has ("ever",.ref E) (by simp),_,rfl,E,_,rfl,(by rw [<-h3];exact dM.k (k:=Sum.inr x) hE),?_⟩
 refine⟨.ref l,vs'.length,rfl,.inl ⟨vs',h5,rfl⟩,_,rfl,f,_,dx,fs,_,rfl,h1,T.aQ.c,T.aQ.na.2.2.1,h2.has ("gone",.ref G) (by simp),_,rfl,G,_,rfl,(by rw [<-h4];exact dM.k (k:=Sum.inr x) hG),?_⟩
 refine⟨_,_,rfl,rfl,?_⟩
 exact k
inductive rU (K:PySem.W.Frag) (t:jd) (vs:List V) (H:Hp) (Q:VK) (E_:XK):Prop where
 | mk:∀(f n E G Kp D Rw l:Addr) (ed gd:List (Key×V)) (x:Str) (vs':List V) (g:Nat),vs=[.ref f,.str x]->oN K t H f n E G Kp D Rw->H E=some (.dK ed)->H G=some (.dK gd)->bY ed (Sum.inr x)=some (.ref l)->bY gd (Sum.inr x)=some (.int g)->bH K H l vs'->(∀p,H p=none->Q (.ref p) (upd H p (.lst (vs'.drop g))))->rU K t vs H Q E_
theorem z7 (T:Txt w K mg t):FO P w K mg base 1 t.mC ["self", "lane"] (rU K t):=by
 have sc:=T.mK.sc ["self", "lane"]
 refine T.mK.F.ok sc ln (fun _ _ _ _ H vs Q E hr h=>?_)
 obtain⟨f,n,E,G,Kp,D,Rw,l,ed,gd,x,vs',g,rfl,N,hE,hG,h3,h4,h5,k⟩:=h
 refine⟨_,(aA (aO (jl qi (bZ hr.u1 (aY (pv 0) rfl) (pv 1) (fun _ _=>rfl)) (jU (bZ hr.u1 (aY (pv 0) rfl) (pv 1) (fun _ _=>rfl))) m8))),?_⟩
 obtain⟨dx,fs,h1,h2⟩:=id N.ex
 refine⟨_,rfl,f,_,dx,fs,_,rfl,h1,T.aQ.c,T.aQ.na.2.1,h2.has ("ever",.ref E) (by simp),_,rfl,E,_,rfl,(by rw [<-h3];exact dM.k (k:=Sum.inr x) hE),?_⟩
 refine⟨_,rfl,f,_,dx,fs,_,rfl,h1,T.aQ.c,T.aQ.na.2.2.1,h2.has ("gone",.ref G) (by simp),_,rfl,G,_,rfl,(by rw [<-h4];exact dM.k (k:=Sum.inr x) hG),?_⟩
 refine⟨_,rfl,l,vs',rfl,h5,fun p hp=>?_⟩
 rw [Kz]
 exact k p hp
inductive yJ (K:PySem.W.Frag) (t:jd) (vs:List V) (H:Hp) (Q:VK) (E_:XK):Prop where
 | mk:∀(f n E G Kp D Rw l:Addr) (ed gd:List (Key×V)) (x:Str) (vs':List V) (g:Nat),vs=[.ref f,.str x]->oN K t H f n E G Kp D Rw->H E=some (.dK ed)->H G=some (.dK gd)->bY ed (Sum.inr x)=some (.ref l)->bY gd (Sum.inr x)=some (.int g)->bH K H l vs'->Q ((vs'[g]?).getD .non) H->yJ K t vs H Q E_
theorem Jd (T:Txt w K mg t):FO P w K mg base 2 t.vI ["self", "lane"] (yJ K t):=by
 have sc:=T.uV.sc ["self", "lane"]
 refine T.uV.F.ok sc ln (fun _ _ _ _ H vs Q E hr h=>?_)
 obtain⟨f,n,E,G,Kp,D,Rw,l,ed,gd,x,vs',g,rfl,N,hE,hG,h3,h4,h5,k⟩:=h
 refine⟨_,(aA (aO (pC (aZ Hv (vJ (pv 0) T.aQ T.aQ.me.2.1 (wY T) T.m5 hr (aa (pv 1) ak aj)) aq (bF _)) (aR aW (bZ hr.u1 (aY (pv 0) rfl) (pv 1) (fun _ _=>rfl)) (bZ hr.u1 (aY (pv 0) rfl) (pv 1) (fun _ _=>rfl)) (fun _ _=>rfl)) uf))),?_⟩
 obtain⟨dx,fs,h1,h2⟩:=id N.ex
 refine⟨_,rfl,f,dx,fs,rfl,h1,h2.no _ (by decide +kernel),_,rfl,f,n,E,G,Kp,D,Rw,l,ed,gd,x,vs',g,rfl,N,hE,hG,h3,h4,h5,?_⟩
 refine⟨_,_,rfl,rfl,_,rfl,iu (fun e=>?_) (fun e=>?_)⟩
 ·have e':g <vs'.length:=by have:=of_decide_eq_true e;omega
  refine⟨_,rfl,f,_,dx,fs,_,rfl,h1,T.aQ.c,T.aQ.na.2.1,h2.has ("ever",.ref E) (by simp),_,rfl,E,_,rfl,(by rw [<-h3];exact dM.k (k:=Sum.inr x) hE),?_⟩
  refine⟨_,rfl,f,_,dx,fs,_,rfl,h1,T.aQ.c,T.aQ.na.2.2.1,h2.has ("gone",.ref G) (by simp),_,rfl,G,_,rfl,(by rw [<-h4];exact dM.k (k:=Sum.inr x) hG),?_⟩
  rw [List.getElem?_eq_getElem e'] at k
  exact⟨l,vs',g,_,rfl,rfl,h5,aN (List.getElem?_eq_getElem e'),k⟩
 ·have e':¬g <vs'.length:=fun z=>e (decide_eq_true (by omega))
  rw [List.getElem?_eq_none (by omega)] at k
  exact k
inductive oO (K:PySem.W.Frag) (t:jd) (vs:List V) (H:Hp) (Q:VK):Prop where
 | mk:∀(f n E G Kp D Rw:Addr) (rd dd:List (Key×V)) (x:Str),vs=[.ref f,.str x]->oN K t H f n E G Kp D Rw->H Rw=some (.dK rd)->H D=some (.dK dd)->(((bY rd (Sum.inr x)=none/\Q (.bl false) H)∨∃(l:Addr) (vs':List V) (g:Nat),bY rd (Sum.inr x)=some (.ref l)/\bY dd (Sum.inr x)=some (.int g)/\bH K H l vs'/\Q (.bl (decide (g=vs'.length))) H))->oO K t vs H Q
@[irreducible] noncomputable def dG (K:PySem.W.Frag) (t:jd):Sp:=fun vs H Q _=>oO K t vs H Q
theorem qx (T:Txt w K mg t):FO P w K mg base 1 t.kj ["self", "name"] (dG K t):=by
 have sc:=T.je.sc ["self", "name"]
 refine T.je.F.ok sc (fun vs H Q E h=>?_) (fun cdv A outer s H vs Q E hr h=>?_)
 ·unfold dG at h
  obtain⟨f,n,E,G,Kp,D,Rw,rd,dd,x,rfl,_⟩:=h
  rfl
 ·unfold dG at h
  obtain⟨f,n,E,G,Kp,D,Rw,rd,dd,x,rfl,N,hR,hD,k⟩:=h
  refine⟨_,(aA (aO (zP (Eh (z6 hr.u1 (pv 1) (aY (pv 0) rfl))) (xT (kW eY (bZ hr.u1 (aY (pv 0) rfl) (pv 1) (fun _ _=>rfl)) (bw bR (by rfl) T.eQ cP (aa (bZ hr.u1 (aY (pv 0) rfl) (pv 1) (fun _ _=>rfl)) ak aF)) (bF _)))))),?_⟩
  obtain⟨dx,fs,h1,h2⟩:=id N.ex
  refine⟨_,rfl,_,rfl,f,_,dx,fs,_,rfl,h1,T.aQ.c,T.aQ.na.2.2.2.2.2.1,h2.has ("rows",.ref Rw) (by simp),Rw,_,rfl,dM.k (k:=Sum.inr x) hR,?_⟩
  rcases k with ⟨k1,k⟩ | ⟨l,vs',g,k1,k2,k3,k⟩
  ·rw [k1]
   exact⟨_,rfl,cB k⟩
  ·rw [k1]
   refine⟨_,rfl,gh ?_⟩
   refine⟨_,rfl,f,_,dx,fs,_,rfl,h1,T.aQ.c,T.aQ.na.2.2.2.2.1,h2.has ("done",.ref D) (by simp),_,rfl,D,_,rfl,(by rw [<-k2];exact dM.k (k:=Sum.inr x) hD),?_⟩
   refine⟨_,rfl,f,_,dx,fs,_,rfl,h1,T.aQ.c,T.aQ.na.2.2.2.2.2.1,h2.has ("rows",.ref Rw) (by simp),_,rfl,Rw,_,rfl,(by rw [<-k1];exact dM.k (k:=Sum.inr x) hR),?_⟩
   refine⟨.ref l,vs'.length,rfl,.inl ⟨vs',k3,rfl⟩,rfl,?_⟩
   rw [show decide (V.int (g:Int)=V.int (vs'.length:Int))=decide (g=vs'.length) by rw [decide_eq_decide,V.int.injEq];omega]
   exact k
inductive wX (K:PySem.W.Frag) (t:jd) (vs:List V) (H:Hp) (Q:VK) (E_:XK):Prop where
 | mk:∀(f n E G Kp D Rw p:Addr) (ed gd:List (Key×V)) (i:Nat) (nm:V) (ns os:List V) (xs:List Str) (hv:Str->V),vs=[.ref f,.ref p]->oN K t H f n E G Kp D Rw->H E=some (.dK ed)->H G=some (.dK gd)->fK K t H p i nm ns (xs.map V.str) os->xs.length<=3->((∀x∈xs,∃(l:Addr) (vs':List V) (g:Nat),bY ed (Sum.inr x)=some (.ref l)/\bY gd (Sum.inr x)=some (.int g)/\bH K H l vs'/\hv x=(vs'[g]?).getD .non))->(∀d,H d=none->Q (.ref d) (upd H d (.lst (xs.map hv))))->wX K t vs H Q E_
theorem xm (T:Txt w K mg t):FO P w K mg base 3 t.sO ["self", "part"] (wX K t):=by
 have sc:=T.nW.sc ["self", "part"]
 refine T.nW.F.ok sc ln (fun _ _ _ _ H vs Q E hr h=>?_)
 obtain⟨f,n,E,G,Kp,D,Rw,p,ed,gd,i,nm,ns,os,xs,hv,rfl,N,hE,hG,hP,hx,hh,k⟩:=h
 refine⟨_,(aA (aO (eN [0] ["self", "part"] (aV (inClass (top 64) 6)) rfl (JM (aY (pv 1) rfl)) (fun _ _ _ _ _=>gM) (fun _ _ _ _ _=>(vJ (pv 1) T.aQ T.aQ.me.2.2.2.1 (Jd T) T.uV hr (aa (pv 0) ak aj)))))),?_⟩
 obtain⟨dx,fs,h1,h2⟩:=id N.ex
 obtain⟨dxp,tn,ti,to,p1,p2,p3,p4⟩:=id hP.ex
 have hz:sizeLine=16777216:=sizeLine_eq
 refine⟨_,rfl,p,_,dxp,_,_,rfl,p1,iJ T i,zQ T i,vD _ _ _ _,ti,rfl,⟨_,p3⟩,?_⟩
 refine Lq (K:=K) (a:=ti) (xs:=xs.map V.str) (fun j ys H'=>H'=H/\ys=(xs.take j).map hv) (by simp;omega) ⟨rfl,rfl⟩ (fun j ys H' ⟨_,e⟩=>by rw [e];simp;omega) (fun j ys H' _ ⟨e,_⟩=>by rw [e];exact p3) ?_ ?_
 ·rintro j y ys H' hy ⟨rfl,rfl⟩
  rw [List.getElem?_map] at hy
  obtain⟨x,hq,rfl⟩:=Option.map_eq_some_iff.mp hy
  obtain⟨l,vs',g,g1,g2,g3,g4⟩:=hh x (List.mem_of_getElem? hq)
  refine yes ⟨_,rfl,f,dx,fs,rfl,h1,h2.no _ (by decide +kernel),_,rfl,f,n,E,G,Kp,D,Rw,l,ed,gd,x,vs',g,rfl,N,hE,hG,g1,g2,g3,rfl,?_⟩
  rw [List.take_succ,hq,Option.toList_some,List.map_append,<-g4]
  rfl
 ·rintro ys H' ⟨rfl,rfl⟩ d hd
  rw [lM,List.take_length]
  exact k d hd
theorem RD (T:Txt w K mg t) (i:Nat):MethAt P w K mg base Fw 2 (cls t i) "lacks" (ym K t i):=match i with
 | 0=>⟨_,_,_,T.iH.c,(T.bG.me T.iH.me.2.2.2.1),T.bG.b,(dg T).imp fun _ _ _ _ h=>⟨_,h⟩⟩
 | 1=>⟨_,_,_,T.iD.c,(T.bG.me T.iD.me.2.2.2.1),T.bG.b,(dg T).imp fun _ _ _ _ h=>⟨_,h⟩⟩
 | 2=>⟨_,_,_,T.iG.c,(T.bG.me T.iG.me.2.2.2.1),T.bG.b,(dg T).imp fun _ _ _ _ h=>⟨_,h⟩⟩
 | 3=>⟨_,_,_,T.iQ.c,(T.bG.me T.iQ.me.2.2.2.1),T.bG.b,(dg T).imp fun _ _ _ _ h=>⟨_,h⟩⟩
 | 4=>⟨_,_,_,T.iI.c,(T.bG.me T.iI.me.2.2.2.1),T.bG.b,(dg T).imp fun _ _ _ _ h=>⟨_,h⟩⟩
 | 5=>⟨_,_,_,T.iY.c,(T.bG.me T.iY.me.2.2.2.1),T.bG.b,(dg T).imp fun _ _ _ _ h=>⟨_,h⟩⟩
 | 6=>⟨_,_,_,T.lG.c,(T.bG.me T.lG.me.2.2.2.1),T.bG.b,(dg T).imp fun _ _ _ _ h=>⟨_,h⟩⟩
 | 7=>⟨_,_,_,T.iW.c,(T.bG.me T.iW.me.2.2.2.1),T.bG.b,(dg T).imp fun _ _ _ _ h=>⟨_,h⟩⟩
 | 8=>⟨_,_,_,T.fM.c,(T.bG.me T.fM.me.2.2.2.1),T.bG.b,(dg T).imp fun _ _ _ _ h=>⟨_,h⟩⟩
 | 9=>⟨_,_,_,T.eG.c,(T.bG.me T.eG.me.2.2.2.1),T.bG.b,(dg T).imp fun _ _ _ _ h=>⟨_,h⟩⟩
 | n+10=>⟨_,_,_,T.fP.c,(T.bG.me T.fP.me.2.2.2.1),T.bG.b,(dg T).imp fun _ _ _ _ h=>⟨_,h⟩⟩
inductive tO (K:PySem.W.Frag) (t:jd) (vs:List V) (H:Hp) (Q:VK) (E:XK):Prop where
 | mk:∀(A:mJ) (ls:List aH) (ps:List PD) (S:FS) (p:PD),vs=[.ref A.f,.str p.name]->fY K t H A.n ls ps->dI K t H A ls ps S->p∈ps->(∀H',aK H H'->Q (dU p.kind p.ins (bz S p)) H')->tO K t vs H Q E
theorem tX (T:Txt w K mg t):FO P w K mg base 4 t.o9 ["self", "name"] (tO K t):=by
 have sc:=T.jV.sc ["self", "name", "part", "place"]
 refine T.jV.F.ok sc ln (fun _ _ _ _ H vs Q E hr h=>?_)
 obtain⟨A,ls,ps,S,p,rfl,N,W,hp,k⟩:=h
 refine⟨_,(ao (sN sc 2 (vJ (aY (pv 0) rfl) T.aU T.aU.me.2.2.2.2.2.2.2.2.2.2.2.1 (pP T) T.jm hr (aa (pv 1) ak aj)))
  (ao (sN sc 3 (yR (CX:=Fw) (k:=2) (E:=E0) (pv 2) (hr.mono (by decide)) ik (aa (vJ (pv 0) T.aQ T.aQ.me.2.2.2.2.2.1 (xm T) T.nW hr (aa (pv 2) ak aj)) ak bf)))
  (aA (aO (pC (gY (zR (pv 3))) uf (aR cj (aY (pv 2) rfl) (pv 3) (fun _ _=>rfl))))))),?_⟩
 obtain⟨dxn,fsn,R,F,Pd,Gn,Tk,FL,PL,Wn⟩:=id N
 have F:=Wn.fit
 obtain⟨dx,fs,h1,h2⟩:=id W.at'.ex
 have hh1:∀{H':Hp},aK H H'->(∀x∈p.ins,∃(l:Addr) (vs':List V) (g:Nat),bY (Ux A.ea ls) (Sum.inr x)=some (.ref l)/\bY (dj S.g ls) (Sum.inr x)=some (.int g)/\bH K H' l vs'/\qz S x=(vs'[g]?).getD .non):=fun s x hx=>by
  obtain⟨l,hl,rfl⟩:=F.inL hp (List.mem_append.mpr (.inl hx))
  exact⟨A.ea l.name,_,S.g l.name,yQ F.whole.nod hl,rR F.whole.nod hl,bH.of (s _ _ (W.lists l hl)),by unfold qz;rw [List.getElem?_map]⟩
 refine⟨_,rfl,A.f,_,dx,fs,_,rfl,h1,T.aQ.c,T.aQ.na.1,h2.has ("net",.ref A.n) (by simp),A.n,dxn,fsn,rfl,Wn.obj,Wn.fl.no _ (by decide +kernel),_,rfl,A.n,ls,ps,p.name,rfl,N,.inl ⟨p,hp,rfl,fun H1 q s1 P1=>?_⟩⟩
 obtain⟨dxp,tn,ti,to,p1,p2,p3,p4⟩:=id P1.ex
 have W1:=W.same s1
 have hI:=(F.pok p hp).2.2.1
 have hO:=uU S p (F.pok p hp)
 refine⟨_,rfl,q,cls t p.kind,dxp,_,ym K t p.kind,rfl,p1,wj _ _ _ _ (by decide +kernel) (by decide +kernel) (by decide +kernel) (by decide +kernel),RD T p.kind,?_⟩
 refine⟨_,rfl,A.f,dx,fs,rfl,s1 _ _ h1,h2.no _ (by decide +kernel),_,rfl,A.f,A.n,A.E,A.G,A.Kp,A.D,A.Rw,q,_,_,p.kind,_,_,_,p.ins,qz S,rfl,W1.at',W1.ever,W1.gone,P1,(by have:=Hm p.kind;omega),hh1 s1,fun d hd=>?_⟩
 have s2:aK H1 (upd H1 d (.lst (p.ins.map (qz S)))):=aB hd
 refine⟨q,d,_,_,_,_,bz S p,rfl,P1.same s2,by rw [lM];exact hI,bH.of az,hO,fun H3 s3=>?_⟩
 have s23:=s2.trans s3
 have k':=k H3 (s1.trans s23)
 have hlt:=j5 hO
 unfold dU at k'
 unfold O8
 cases hf:(places p.kind (bz S p)).find? (xG (bz S p)) with
 | none=>
  rw [hf] at k'
  exact⟨_,rfl,_,rfl,gh k'⟩
 | some j=>
  rw [hf] at k'
  have hq:j <p.ins.length:=by have:=hlt j (List.mem_of_find?_eq_some hf);unfold bz at this;rwa [lM] at this
  have k':Q (V.str p.ins[j]) H3:=by simpa only [List.getElem?_eq_getElem hq,Option.map_some,Option.getD_some] using k'
  exact⟨_,rfl,_,rfl,cB ⟨_,rfl,q,_,dxp,_,_,rfl,s23 _ _ p1,iJ T p.kind,zQ T p.kind,vD _ _ _ _,_,rfl,ti,p.ins.map V.str,j,_,rfl,rfl,s23.seqT p3,aN (j:=j) (by rw [List.getElem?_map,List.getElem?_eq_getElem hq];rfl),k'⟩⟩
theorem Qt (T:Txt w K mg t) {i:Nat} (hi:i <11):MethAt P w K mg base Fw 2 (cls t i) "worked" (eU K t i):=match i,hi with
 | 0,_=>⟨_,_,_,T.iH.c,(T.kI.me T.iH.me.2.2.2.2.1),T.kI.b,iK.mono (k:=2) (Dj T) (by decide)⟩
 | 1,_=>⟨_,_,_,T.iD.c,(T.lB.me T.iD.me.2.2.2.2.1),T.lB.b,iK.mono (k:=2) (DX T) (by decide)⟩
 | 2,_=>⟨_,_,_,T.iG.c,(T.km.me T.iG.me.2.2.2.2.1),T.km.b,iK.mono (k:=2) (FZ T) (by decide)⟩
 | 3,_=>⟨_,_,_,T.iQ.c,(T.kJ.me T.iQ.me.2.2.2.2.1),T.kJ.b,iK.mono (k:=2) (Dk T) (by decide)⟩
 | 4,_=>⟨_,_,_,T.iI.c,(T.lz.me T.iI.me.2.2.2.2.1),T.lz.b,iK.mono (k:=2) (FJ T) (by decide)⟩
 | 5,_=>⟨_,_,_,T.iY.c,(T.lg.me T.iY.me.2.2.2.2.1),T.lg.b,iK.mono (k:=2) (Fj T) (by decide)⟩
 | 6,_=>⟨_,_,_,T.lG.c,(T.nH.me T.lG.me.2.2.2.2.1),T.nH.b,iK.mono (k:=2) (Gp T) (by decide)⟩
 | 7,_=>⟨_,_,_,T.iW.c,(T.lu.me T.iW.me.2.2.2.2.1),T.lu.b,iK.mono (k:=2) (Ga T) (by decide)⟩
 | 8,_=>⟨_,_,_,T.fM.c,(T.jN.me T.fM.me.2.2.2.2.1),T.jN.b,iK.mono (k:=2) (Ck T) (by decide)⟩
 | 9,_=>⟨_,_,_,T.eG.c,(T.jB.me T.eG.me.2.2.2.2.1),T.jB.b,iK.mono (k:=2) (zK T) (by decide)⟩
 | 10,_=>⟨_,_,_,T.fP.c,(T.jQ.me T.fP.me.2.2.2.2.1),T.jQ.b,iK.mono (k:=2) (Cq T) (by decide)⟩
theorem Ze (ns ws:List Int) (kp:Int):∀pv∈cY 0 ns ws kp,∃q:Nat,pv.1=(q:Int)/\q <cO 0:=by
 intro pv h
 simp [cY] at h
 subst h
 exact⟨0,rfl,by decide⟩
theorem Y8 (ns ws:List Int) (kp:Int):∀pv∈cY 1 ns ws kp,∃q:Nat,pv.1=(q:Int)/\q <cO 1:=by
 intro pv h
 simp [cY] at h
theorem ZM (ns ws:List Int) (kp:Int):∀pv∈cY 2 ns ws kp,∃q:Nat,pv.1=(q:Int)/\q <cO 2:=by
 intro pv h
 simp [cY] at h
 subst h
 exact⟨0,rfl,by decide⟩
theorem Yy (ns ws:List Int) (kp:Int):∀pv∈cY 3 ns ws kp,∃q:Nat,pv.1=(q:Int)/\q <cO 3:=by
 intro pv h
 simp [cY] at h
 rcases h with rfl | rfl
 ·exact⟨0,rfl,by decide⟩
 ·exact⟨1,rfl,by decide⟩
theorem Zf (ns ws:List Int) (kp:Int):∀pv∈cY 4 ns ws kp,∃q:Nat,pv.1=(q:Int)/\q <cO 4:=by
 intro pv h
 simp [cY] at h
 subst h
 exact⟨0,rfl,by decide⟩
theorem Yq (ns ws:List Int) (kp:Int):∀pv∈cY 5 ns ws kp,∃q:Nat,pv.1=(q:Int)/\q <cO 5:=by
 intro pv h
 simp [cY] at h
 subst h
 exact⟨0,rfl,by decide⟩
theorem Zh (ns ws:List Int) (kp:Int):∀pv∈cY 6 ns ws kp,∃q:Nat,pv.1=(q:Int)/\q <cO 6:=by
 intro pv h
 simp [cY] at h
 subst h
 exact⟨0,rfl,by decide⟩
theorem Yz (ns ws:List Int) (kp:Int):∀pv∈cY 7 ns ws kp,∃q:Nat,pv.1=(q:Int)/\q <cO 7:=by
 intro pv h
 simp [cY] at h
 subst h
 exact⟨0,rfl,by decide⟩
theorem Yv (ns ws:List Int) (kp:Int):∀pv∈cY 8 ns ws kp,∃q:Nat,pv.1=(q:Int)/\q <cO 8:=by
 intro pv h
 simp [cY] at h
 rcases h with rfl | rfl
 ·exact⟨0,rfl,by decide⟩
 ·exact⟨1,rfl,by decide⟩
theorem Zq (ns ws:List Int) (kp:Int):∀pv∈cY 9 ns ws kp,∃q:Nat,pv.1=(q:Int)/\q <cO 9:=by
 intro pv h
 simp [cY] at h
 subst h
 exact⟨0,rfl,by decide⟩
theorem Xi (ns ws:List Int) (kp:Int):∀pv∈cY 10 ns ws kp,∃q:Nat,pv.1=(q:Int)/\q <cO 10:=by
 intro pv h
 simp [cY] at h
 subst h
 have h0:=Int.emod_nonneg (g0 ws) (show(2:Int)≠0 by decide)
 have h1:=Int.emod_lt_of_pos (g0 ws) (show(0:Int) <2 by decide)
 exact⟨(g0 ws % 2).toNat,by show g0 ws % 2=_;omega,by show(g0 ws % 2).toNat <2;omega⟩
theorem Pr {i:Nat} (hi:i<=10) (ns ws:List Int) (kp:Int):∀pv∈cY i ns ws kp,∃q:Nat,pv.1=(q:Int)/\q <cO i:=by
 match i,hi with
 | 0,_=>exact Ze ns ws kp
 | 1,_=>exact Y8 ns ws kp
 | 2,_=>exact ZM ns ws kp
 | 3,_=>exact Yy ns ws kp
 | 4,_=>exact Zf ns ws kp
 | 5,_=>exact Yq ns ws kp
 | 6,_=>exact Zh ns ws kp
 | 7,_=>exact Yz ns ws kp
 | 8,_=>exact Yv ns ws kp
 | 9,_=>exact Zq ns ws kp
 | 10,_=>exact Xi ns ws kp
 | (n+11),z=>exact absurd z (by omega)
theorem Ke (i:Nat) (ns ws:List Int) (kp:Int):(cY i ns ws kp).length<=2:=match i with
 | 0=>by simp [cY]
 | 1=>by simp [cY]
 | 2=>by simp [cY]
 | 3=>by simp [cY]
 | 4=>by simp [cY]
 | 5=>by simp [cY]
 | 6=>by simp [cY]
 | 7=>by simp [cY]
 | 8=>by simp [cY]
 | 9=>by simp [cY]
 | n+10=>by simp [cY]
noncomputable def nameAt (xs:List Str) (q:Nat):V:=V.str ((xs[q]?).getD Str.empty)
theorem Oh {H:Hp} {Q:VK} {Ex:XK} {f n E G Kp D Rw:Addr} {rd dd:List (Key×V)} {y:Str} (N:oN K t H f n E G Kp D Rw) (hR:H Rw=some (.dK rd)) (hD:H D=some (.dK dd))
  (k:(bY rd (Sum.inr y)=none/\Q (.bl false) H)∨∃(l:Addr) (vs':List V) (g:Nat),bY rd (Sum.inr y)=some (.ref l)/\bY dd (Sum.inr y)=some (.int g)/\bH K H l vs'/\Q (.bl (decide (g=vs'.length))) H):dG K t [.ref f,.str y] H Q Ex:=by
 unfold dG
 exact⟨f,n,E,G,Kp,D,Rw,rd,dd,y,rfl,N,hR,hD,k⟩
theorem Zx {i:Nat} (h0:i≠0) (hi:i <11) (h9:i≠9):cV i=cI i:=by
 match i,h0,hi with
 | 1,_,_=>rfl
 | 2,_,_=>rfl
 | 3,_,_=>rfl
 | 4,_,_=>rfl
 | 5,_,_=>rfl
 | 6,_,_=>rfl
 | 7,_,_=>rfl
 | 8,_,_=>rfl
 | 9,_,_=>exact absurd rfl h9
 | 10,_,_=>rfl
theorem Vz {S:FS} {p:PD} (ok:uK p) (hl:dU p.kind p.ins (bz S p)=.non):∀q∈places p.kind (bz S p),∃x n,p.ins[q]?=some x/\(bz S p)[q]?=some (.int n)/\(S.ev x)[S.g x]?=some n:=by
 have hO:=uU S p ok
 have hf:(places p.kind (bz S p)).find? (xG (bz S p))=none:=by
  cases hf:(places p.kind (bz S p)).find? (xG (bz S p)) with
  | none=>rfl
  | some j=>
   unfold dU at hl
   rw [hf] at hl
   have hq:j <p.ins.length:=by have:=j5 hO j (List.mem_of_find?_eq_some hf);unfold bz at this;rwa [lM] at this
   simp only [List.getElem?_eq_getElem hq,Option.map_some,Option.getD_some] at hl
   cases hl
 intro q hq
 have h1:=List.find?_eq_none.mp hf q hq
 have hlt:=j5 hO q hq
 have hlt':q <p.ins.length:=by unfold bz at hlt;rwa [lM] at hlt
 have e:(bz S p)[q]?=some (qz S p.ins[q]):=by unfold bz;rw [List.getElem?_map,List.getElem?_eq_getElem hlt'];rfl
 refine⟨p.ins[q],?_⟩
 unfold xG at h1
 rw [e] at h1 ⊢
 unfold qz at h1 ⊢
 cases h0:(S.ev p.ins[q])[S.g p.ins[q]]? with
 | none=>rw [h0] at h1;exact absurd (by simp) h1
 | some n=>exact⟨n,List.getElem?_eq_getElem hlt',by simp,rfl⟩
theorem Wt {b:Nat} {ls:List aH} {ps:List PD} {S:FS} (F:Cd ls ps) (O:DR b ls ps S) {p:PD} (hp:p∈ps) (hl:dU p.kind p.ins (bz S p)=.non) (he:ue S p=false):(CJ S p).length=cV p.kind/\Ym (CJ S p)/\
  (p.kind≠0->(places p.kind (bz S p)).map (fun q=>((bz S p)[q]?).getD .non)=(CJ S p).map V.int)/\(p.kind=0->∃w,(S.r p.name)[S.d p.name]?=some w/\CJ S p=[w]):=by
 have ok:=F.pok p hp
 have hn:=Vz ok hl
 by_cases h0:p.kind=0
 ·have hd:=O.dl p hp h0
  have hlt:S.d p.name <(S.r p.name).length:=by
   unfold ue at he
   simp [h0] at he
   omega
  have e:=List.getElem?_eq_getElem hlt
  have ew:CJ S p=[(S.r p.name)[S.d p.name]]:=by unfold CJ;rw [if_pos h0,e];rfl
  refine⟨by rw [ew,h0];rfl,fun w hw=>?_,fun z=>absurd h0 z,fun _=>⟨_,e,ew⟩⟩
  rw [ew,List.mem_singleton] at hw
  subst hw
  exact O.rb p hp h0 _ (List.getElem_mem hlt)
 ·have ew:CJ S p=(places p.kind (bz S p)).map fun q=>Xc (((bz S p)[q]?).getD .non):=by unfold CJ;rw [if_neg h0]
  refine⟨?_,fun w hw=>?_,fun _=>?_,fun z=>absurd z h0⟩
  ·rw [ew,lM]
   by_cases h9:p.kind=9
   ·have h3:=hn
    unfold places at h3 ⊢
    rw [if_pos h9] at h3 ⊢
    split
    ·rw [h9];rfl
    ·rename_i hno
     obtain⟨x,n,_,h3,_⟩:=h3 0 (by split <;> simp)
     cases hs:bz S p with
     | nil=>rw [hs] at h3;cases h3
     | cons a r=>
      rw [hs] at h3
      have:a=.int n:=by simpa using h3
      exact absurd (by rw [hs,this]) (hno n r)
   ·unfold places
    rw [if_neg h9,List.length_range,(uU S p ok).1,Zx h0 ok.1 h9]
  ·rw [ew] at hw
   obtain⟨q,hq,rfl⟩:=List.mem_map.mp hw
   obtain⟨x,n,hx,h3,h4⟩:=hn q hq
   rw [h3]
   show 0<=n/\n <1000000000
   obtain⟨l,hll,rfl⟩:=F.inL hp (List.mem_append.mpr (.inl (List.mem_of_getElem? hx)))
   exact O.vb l hll n (List.mem_of_getElem? h4)
  ·rw [ew,List.map_map]
   refine List.map_congr_left fun q hq=>?_
   obtain⟨x,n,_,h3,_⟩:=hn q hq
   show _=V.int (Xc _)
   rw [h3]
   rfl
theorem CZ {S:FS} {p:PD} (h:dU p.kind p.ins (bz S p)≠.non):jw S p=none:=by unfold jw;rw [if_pos h]
theorem Ht {S:FS} {p:PD} (h:ue S p=true):jw S p=none:=by unfold jw;split <;> simp [h]
inductive wJ (K:PySem.W.Frag) (t:jd) (vs:List V) (H:Hp) (Q:VK):Prop where
 | mk:∀(b:Nat) (A:mJ) (ls:List aH) (ps:List PD) (S:FS) (p:PD),vs=[.ref A.f,.str p.name]->fY K t H A.n ls ps->dI K t H A ls ps S->p∈ps->DR b ls ps S->((jw S p=none->∀H',aK H H'->Q .non H'))->(∀dd,jw S p=some dd->∀H' U,aK H H'->H U=none->mV (A.cells ls ps) H' U dd->Q (.ref U) H')->wJ K t vs H Q
@[irreducible] noncomputable def jM (K:PySem.W.Frag) (t:jd):Sp:=fun vs H Q _=>wJ K t vs H Q
noncomputable abbrev p8:List Str:=["self", "name", "part", "heads", "places", "values", "answer", "given"]
theorem zb (T:Txt w K mg t):FO P w K mg base 5 t.uC ["self", "name"] (jM K t):=by
 have sc:=T.qj.sc p8
 refine T.qj.F.ok sc (fun vs H Q E h=>?_) (fun cdv A outer s H vs Q E hr h=>?_)
 ·unfold jM at h
  obtain⟨b,A,ls,ps,S,p,rfl,_⟩:=h
  rfl
 ·unfold jM at h
  obtain⟨b,A,ls,ps,S,p,rfl,N,W,hp,O,kn,k⟩:=h
  refine⟨_,(ao (bO (PW.pt (vp (gY (vW (vJ (pv 0) T.aQ T.aQ.me.2.2.2.2.2.2.1 (tX T) T.jV hr (aa (pv 1) ak aj)))) (oJ (gB (vJ (pv 0) T.aQ T.aQ.me.2.2.2.2.1 (qx T) T.je hr (aa (pv 1) ak aj))))))
    (aA (aO uf))
    bu)
   (ao (sN sc 2 (vJ (aY (pv 0) rfl) T.aU T.aU.me.2.2.2.2.2.2.2.2.2.2.2.1 (pP T) T.jm hr (aa (pv 1) ak aj)))
   (ao (sN sc 3 (vJ (pv 0) T.aQ T.aQ.me.2.2.2.2.2.1 (xm T) T.nW hr (aa (pv 2) ak aj)))
   (ao (sN sc 4 (yR (CX:=Fw) (k:=1) (E:=E0) (pv 2) (hr.mono (by decide)) ik (aa (pv 3) ak aj)))
   (ao (jX (i:=5) [3] p8 (aV (inClass (top 64) 9)) rfl sc.nd rfl (bT (pv 4)) (fun _ _ _ _ _=>gM) (fun _ _ _ _ _=>(aR (CV (K:=K) rfl) (pv 1) (pv 0) (fun _ _=>rfl))))
   (ao (fQ (bO (gY (z6 hr.u1 (pv 1) (aY (pv 0) rfl)))
    (aA (sN sc 5 (bB (aa (aR aW (bZ hr.u1 (aY (pv 0) rfl) (pv 1) (fun _ _=>rfl)) (bZ hr.u1 (aY (pv 0) rfl) (pv 1) (fun _ _=>rfl)) (fun _ _=>rfl)) ak aF))))
    bu))
   (ao (sN sc 6 (yR (CX:=Fw) (k:=2) (E:=E0) (pv 2) (hr.mono (by decide)) ik (aa (pv 5) (aa (bZ hr.u1 (aY (pv 0) rfl) (pv 1) (fun _ _=>rfl)) ak aF) aj)))
   (ao (Sx (i:=7) ["place", "value"] [2] p8 (aV (inClass (top 64) 9)) rfl sc.nd rfl (bT (aR cj (pv 6) aq (fun _ _=>rfl))) (fun _ _ _ _ _=>Oz (K:=K) (n:=2) rfl rfl (il (wu (i:=0) (show(["place", "value", "part"]:List Str).Nodup by decide +kernel) rfl (Or.inl rfl) (.inr rfl)) (il (wu (i:=1) (show(["place", "value", "part"]:List Str).Nodup by decide +kernel) rfl (Or.inl rfl) (.inr rfl)) vZ))) (fun _ _ _ _ _=>gM) (fun _ _ _ _ _=>(cM (aa (aR (nQ (K:=K) rfl) (JQ (K:=K) rfl (pv 2) rfl) (pv 0) (fun _ _=>rfl)) (aa (pv 1) ak aj) aF))))
   (aA (aO (cM (aa (eN [2] p8 (aV (inClass (top 64) 9)) rfl (bT (pv 4)) (fun _ _ _ _ _=>gM) (fun _ _ _ _ _=>(aR (nQ (K:=K) rfl) (JQ (K:=K) rfl (pv 1) rfl) (pv 0) (fun _ _=>rfl)))) (aa (pv 7) (aa (aR cj (pv 6) aq (fun _ _=>rfl)) ak aF) aj) fB)))))))))))),?_⟩
  obtain⟨dxn,fsn,R,F,Pd,Gn,Tk,FL,PL,Wn⟩:=id N
  have F:=Wn.fit
  obtain⟨dx,fs,h1,h2⟩:=id W.at'.ex
  have ok:=F.pok p hp
  have hO:=uU S p ok
  have hI:=ok.2.2.1
  have hh1:∀{H':Hp},aK H H'->(∀x∈p.ins,∃(l:Addr) (vs':List V) (g:Nat),bY (Ux A.ea ls) (Sum.inr x)=some (.ref l)/\bY (dj S.g ls) (Sum.inr x)=some (.int g)/\bH K H' l vs'/\qz S x=(vs'[g]?).getD .non):=fun s x hx=>by
   obtain⟨l,hl,rfl⟩:=F.inL hp (List.mem_append.mpr (.inl hx))
   exact⟨A.ea l.name,_,S.g l.name,yQ F.whole.nod hl,rR F.whole.nod hl,bH.of (s _ _ (W.lists l hl)),by unfold qz;rw [List.getElem?_map]⟩
  have hz:sizeLine=16777216:=sizeLine_eq
  have hpl:(places p.kind (bz S p)).length<=3:=places_len hO
  refine⟨_,rfl,A.f,dx,fs,rfl,h1,h2.no _ (by decide +kernel),_,rfl,A,ls,ps,S,p,rfl,N,W,hp,fun H1 s1=>?_⟩
  by_cases hlk:dU p.kind p.ins (bz S p)≠.non
  ·have e:(!decide (dU p.kind p.ins (bz S p)=V.non))=true:=by simp [hlk]
   refine⟨_,rfl,?_⟩
   rw [e]
   exact gh (gh (kn (CZ hlk) H1 s1))
  have hlk:=Classical.not_not.mp hlk
  rw [hlk]
  have W1:=W.same s1
  refine⟨_,rfl,cB ⟨_,rfl,A.f,dx,fs,rfl,s1 _ _ h1,h2.no _ (by decide +kernel),_,rfl,?_⟩⟩
  have vd:=rH (k:=fun x=>(S.d x:Int)) F.pnd hp
  cases he:ue S p with
  | true=>
   have h0:p.kind=0/\S.d p.name=(S.r p.name).length:=by unfold ue at he;simpa using he
   refine Oh W1.at' W1.rows W1.done (.inr ⟨_,_,S.d p.name,oX F.pnd hp h0.1,vd,bH.of (W1.rlst p hp h0.1),?_⟩)
   rw [decide_eq_true (by rw [lM];exact h0.2)]
   exact⟨_,rfl,gh (kn (Ht he) H1 s1)⟩
  | false=>
  obtain⟨lw,hB,hv,hw0⟩:=Wt F O hp hlk he
  have k':=k _ (show jw S p=some _ by unfold jw;rw [if_neg (by simp [hlk]),if_neg (by simp [he])])
  have hwl:=Pr (show p.kind<=10 by have:=ok.1;omega) p.nums (CJ S p) (S.k p.name)
  have hw2:=Ke p.kind p.nums (CJ S p) (S.k p.name)
  have pick:∀(Q':VK) (E':XK),Q' (.bl false) H1->dG K t [.ref A.f,.str p.name] H1 Q' E':=by
   intro Q' E' z
   refine Oh W1.at' W1.rows W1.done ?_
   by_cases h0:p.kind=0
   ·refine .inr ⟨_,_,S.d p.name,oX F.pnd hp h0,vd,bH.of (W1.rlst p hp h0),?_⟩
    obtain⟨w,ew,_⟩:=hw0 h0
    have:=(List.getElem?_eq_some_iff.mp ew).1
    rw [decide_eq_false (by rw [lM];omega)]
    exact z
   ·exact .inl ⟨J3 F.pnd hp h0,z⟩
  refine pick _ _ ?_
  clear pick
  refine⟨_,rfl,cB ?_⟩
  have Wn1:=Wn.same s1
  refine⟨_,rfl,A.f,_,dx,fs,_,rfl,s1 _ _ h1,T.aQ.c,T.aQ.na.1,h2.has ("net",.ref A.n) (by simp),A.n,dxn,fsn,rfl,Wn1.obj,Wn1.fl.no _ (by decide +kernel),_,rfl,A.n,ls,ps,p.name,rfl,Wn1.s,.inl ⟨p,hp,rfl,fun H2 q s2' hP=>?_⟩⟩
  have s2:=s1.trans s2'
  have W2:=W.same s2
  obtain⟨dxp,tn,ti,to,p1,p2,p3,p4⟩:=id hP.ex
  clear s2' W1 Wn1
  refine⟨_,rfl,A.f,dx,fs,rfl,s2 _ _ h1,h2.no _ (by decide +kernel),_,rfl,A.f,A.n,A.E,A.G,A.Kp,A.D,A.Rw,q,_,_,p.kind,_,_,_,p.ins,qz S,rfl,W2.at',W2.ever,W2.gone,hP,(by have:=Hm p.kind;omega),hh1 s2,fun d hd=>?_⟩
  have s3':=aB (o:=.lst (bz S p)) hd
  have ed3:(upd H2 d (.lst (p.ins.map (qz S)))) d=some (.lst (bz S p)):=az
  change aK H2 (upd H2 d (.lst (p.ins.map (qz S)))) at s3'
  generalize upd H2 d (.lst (p.ins.map (qz S)))=H3 at s3' ed3 ⊢
  have s3:=s2.trans s3'
  refine⟨_,rfl,q,cls t p.kind,dxp,_,oG K t p.kind,rfl,s3' _ _ p1,wj _ _ _ _ (by decide +kernel) (by decide +kernel) (by decide +kernel) (by decide +kernel),Hs T p.kind,_,rfl,q,d,_,_,_,_,bz S p,rfl,hP.same s3',by rw [lM];exact hI,bH.of ed3,hO,fun H4 L s4' nL eL=>?_⟩
  have s24:=s3'.trans s4'
  have s4:=s3.trans s4'
  have ed4:=s4' _ _ ed3
  refine⟨_,rfl,L,rfl,⟨_,bH.of eL⟩,eE (K:=K) (a:=L) (xs:=(places p.kind (bz S p)).map nV) (fun j ys H'=>H'=H4/\ys=((places p.kind (bz S p)).take j).map (fun q=>((bz S p)[q]?).getD .non)) (by rw [lM];omega) ⟨rfl,rfl⟩ (fun j ys H' ⟨_,e⟩=>by rw [e,lM,List.length_take];omega) (fun j ys H' _ ⟨e,_⟩=>by rw [e];exact bH.of eL) ?_ ?_⟩
  ·rintro j v ys H' hv' ⟨e',rfl⟩
   subst e'
   rw [List.getElem?_map] at hv'
   obtain⟨r,hr',rfl⟩:=Option.map_eq_some_iff.mp hv'
   have hql:r <(bz S p).length:=j5 hO r (List.mem_of_getElem? hr')
   refine yes ⟨_,rfl,_,rfl,d,bz S p,r,_,rfl,rfl,bH.of ed4,aN (j:=r) (List.getElem?_eq_getElem hql),rfl,?_⟩
   rw [List.take_succ,hr',Option.toList_some,List.map_append,List.map_cons,List.map_nil,List.getElem?_eq_getElem hql]
   rfl
  rintro ys H' ⟨e',rfl⟩ V1 hV1
  subst e'
  rw [lM,List.take_length]
  have s5':=aB (o:=.lst ((places p.kind (bz S p)).map fun q=>((bz S p)[q]?).getD .non)) hV1
  have eV:(upd H' V1 (.lst ((places p.kind (bz S p)).map fun q=>((bz S p)[q]?).getD .non))) V1=some (.lst ((places p.kind (bz S p)).map fun q=>((bz S p)[q]?).getD .non)):=az
  generalize upd H' V1 (.lst ((places p.kind (bz S p)).map fun q=>((bz S p)[q]?).getD .non))=H5 at s5' eV ⊢
  have s25:=s24.trans s5'
  have s5:=s4.trans s5'
  have W5:=W.same s5
  refine⟨fun σ' H6=>∃V2,aK H H6/\aK H2 H6/\aK H' H6/\σ'=[some (.ref A.f),some (.str p.name),some (.ref q),some (.ref d),some (.ref L),some (.ref V2),none,none]/\H6 V2=some (.lst ((CJ S p).map V.int)),?_,?_⟩
  ·refine⟨_,rfl,_,rfl,A.f,_,dx,fs,_,rfl,s5 _ _ h1,T.aQ.c,T.aQ.na.2.2.2.2.2.1,h2.has ("rows",.ref A.Rw) (by simp),A.Rw,_,rfl,dM.k (k:=Sum.inr p.name) W5.rows,?_⟩
   by_cases h0:p.kind=0
   ·obtain⟨w,ew,eW⟩:=hw0 h0
    have v1:=oX (ra:=A.ra) F.pnd hp h0
    rw [v1,eW]
    refine⟨_,rfl,gh ?_⟩
    refine⟨_,rfl,A.f,_,dx,fs,_,rfl,s5 _ _ h1,T.aQ.c,T.aQ.na.2.2.2.2.2.1,h2.has ("rows",.ref A.Rw) (by simp),_,rfl,A.Rw,_,rfl,(by rw [<-v1];exact dM.k (k:=Sum.inr p.name) W5.rows),?_⟩
    refine⟨_,rfl,A.f,_,dx,fs,_,rfl,s5 _ _ h1,T.aQ.c,T.aQ.na.2.2.2.2.1,h2.has ("done",.ref A.D) (by simp),_,rfl,A.D,_,rfl,(by rw [<-vd];exact dM.k (k:=Sum.inr p.name) W5.done),?_⟩
    refine⟨A.ra p.name,_,S.d p.name,_,rfl,rfl,bH.of (W5.rlst p hp h0),aN (j:=S.d p.name) (by rw [List.getElem?_map,ew];rfl),iZ,fun V2 hV2=>?_⟩
    exact⟨V2,s5.trans (aB hV2),s25.trans (aB hV2),s5'.trans (aB hV2),rfl,az⟩
   ·rw [J3 F.pnd hp h0]
    exact⟨_,rfl,cB ⟨V1,s5,s25,s5',rfl,by rw [<-hv h0];exact eV⟩⟩
  rintro σ' H6 ⟨V2,s6,s26,s46,rfl,eV2⟩
  clear W5 W2 s25 s24 s5 s5' s4 s3 s3' eV ed4 ed3
  have W6:=W.same s6
  have hkp:=rH (k:=S.k) F.pnd hp
  refine⟨_,rfl,q,cls t p.kind,dxp,_,eU K t p.kind,rfl,s26 _ _ p1,wj _ _ _ _ (by decide +kernel) (by decide +kernel) (by decide +kernel) (by decide +kernel),Qt T ok.1,_,rfl,_,rfl,A.f,_,dx,fs,_,rfl,s6 _ _ h1,T.aQ.c,T.aQ.na.2.2.2.1,h2.has ("kept",.ref A.Kp) (by simp),_,rfl,A.Kp,_,rfl,(by rw [<-hkp];exact dM.k (k:=Sum.inr p.name) W6.kept),?_⟩
  refine⟨q,V2,_,p.nums,_,_,CJ S p,S.k p.name,rfl,hP.same s26,ok.2.1,bH.of eV2,lw,hB,fun H7 U0 L0 rs s7 nL0 eU0 eL0 tU=>?_⟩
  have s57:=s6.trans s7
  have s27:=s26.trans s7
  have eL7:=s7 _ _ (s46 _ _ eL)
  have hlr:rs.length=(cY p.kind p.nums (CJ S p) (S.k p.name)).length:=by have:=Paired.length tU;unfold J9 at this;rw [lM] at this;exact this
  clear W6
  refine⟨_,rfl,U0,_,0,_,rfl,rfl,fH.of eU0,aN (j:=0) rfl,L0,rfl,⟨_,bH.of eL0⟩,?_⟩
  refine FW (K:=K) (a:=L0) (xs:=rs.map V.ref) (fun j ys H8=>aK H7 H8/\∃qs:List Addr,ys=qs.map V.ref/\dz H8 qs (((cY p.kind p.nums (CJ S p) (S.k p.name)).take j).map fun pv=>[.str (strAt p.outs pv.1.toNat),.int pv.2])) (by rw [lM];omega) ⟨aK.refl _,[],rfl,.nil⟩ ?_ (fun j ys H8 _ ⟨e,_⟩=>e.seq (bH.of eL0)) ?_ ?_
  ·rintro j ys H8 ⟨_,qs,rfl,tq⟩
   have:=Paired.length tq
   rw [lM,List.length_take] at this
   rw [lM]
   omega
  ·rintro j v ys H8 hj ⟨s8,qs,rfl,tq⟩
   rw [List.getElem?_map] at hj
   obtain⟨r,hr',rfl⟩:=Option.map_eq_some_iff.mp hj
   have hjl:j <(cY p.kind p.nums (CJ S p) (S.k p.name)).length:=by have:=(List.getElem?_eq_some_iff.mp hr').1;omega
   obtain⟨pv,hpv⟩:∃pv,(cY p.kind p.nums (CJ S p) (S.k p.name))[j]?=some pv:=⟨_,List.getElem?_eq_getElem hjl⟩
   have hr2:H7 r=some (.tup [.int pv.1,.int pv.2]):=by
    obtain⟨vs2,z1,z2⟩:=lQ tU hr'
    unfold J9 at z1
    rw [List.getElem?_map,hpv] at z1
    cases z1
    exact z2
   obtain⟨o,ho1,ho2⟩:=hwl _ (List.mem_of_getElem? hpv)
   have ho3:o <p.outs.length:=by rw [ok.2.2.2.1];exact ho2
   have hn:strAt p.outs o=p.outs[o]:=by unfold strAt;rw [List.getElem?_eq_getElem ho3];rfl
   refine⟨r,_,rfl,fH.of (s8 _ _ hr2),rfl,_,_,rfl,_,_,rfl,rfl,rfl,?_⟩
   refine yes ⟨_,rfl,q,_,dxp,_,_,rfl,s8 _ _ (s27 _ _ p1),iJ T p.kind,JS T p.kind,GJ _ _ _ _,_,rfl,to,p.outs.map V.str,_,.str (strAt p.outs o),rfl,rfl,s8.seqT (s27.seqT p4),?_,_,rfl,iZ,fun u hu=>⟨s8.trans (aB hu),qs ++ [u],by simp,?_⟩⟩
   ·rw [ho1,hn]
    exact aN (j:=o) (by rw [List.getElem?_map,List.getElem?_eq_getElem ho3];rfl)
   ·rw [List.take_succ,hpv,Option.toList_some,List.map_append]
    refine(dz.same (aB hu) tq).append (.cons ?_ .nil)
    show upd H8 u _ u=some (HO.tup [V.str (strAt p.outs pv.1.toNat),V.int pv.2])
    rw [ho1,Int.toNat_natCast]
    exact az
  rintro ys H8 ⟨s8,qs,rfl,tq⟩ Lg hLg
  rw [lM,hlr,List.take_length] at tq
  have t9:=aB (o:=.lst (qs.map V.ref)) hLg
  have s9':=s8.trans t9
  have tq9:=dz.same t9 tq
  have eLg:(upd H8 Lg (.lst (qs.map V.ref))) Lg=some (.lst (qs.map V.ref)):=az
  generalize upd H8 Lg (.lst (qs.map V.ref))=H9 at t9 s9' tq9 eLg ⊢
  have s9:=s57.trans s9'
  have s29:=s27.trans s9'
  have eL9:=s9' _ _ eL7
  have eU9:=s9' _ _ eU0
  refine⟨_,rfl,L,rfl,⟨_,bH.of eL9⟩,eE (K:=K) (a:=L) (xs:=(places p.kind (bz S p)).map nV) (fun j ys H'=>H'=H9/\ys=((places p.kind (bz S p)).take j).map (fun q=>V.str (strAt p.ins q))) (by rw [lM];omega) ⟨rfl,rfl⟩ (fun j ys H' ⟨_,e⟩=>by rw [e,lM,List.length_take];omega) (fun j ys H' _ ⟨e,_⟩=>by rw [e];exact bH.of eL9) ?_ ?_⟩
  ·rintro j v ys HX hv' ⟨e',rfl⟩
   subst e'
   rw [List.getElem?_map] at hv'
   obtain⟨r,hr',rfl⟩:=Option.map_eq_some_iff.mp hv'
   have hql:r <p.ins.length:=by have:=j5 hO r (List.mem_of_getElem? hr');unfold bz at this;rwa [lM] at this
   have hn:strAt p.ins r=p.ins[r]:=by unfold strAt;rw [List.getElem?_eq_getElem hql];rfl
   refine yes ⟨_,rfl,q,_,dxp,_,_,rfl,s29 _ _ p1,iJ T p.kind,zQ T p.kind,vD _ _ _ _,_,rfl,ti,p.ins.map V.str,r,.str (strAt p.ins r),rfl,rfl,s29.seqT p3,by rw [hn];exact aN (j:=r) (by rw [List.getElem?_map,List.getElem?_eq_getElem hql];rfl),rfl,?_⟩
   rw [List.take_succ,hr',Option.toList_some,List.map_append]
   rfl
  rintro ys H10 ⟨e',rfl⟩ La hLa
  subst e'
  rw [lM,List.take_length]
  have s10':=aB (o:=.lst ((places p.kind (bz S p)).map fun q=>V.str (strAt p.ins q))) hLa
  refine⟨_,rfl,_,rfl,U0,_,1,_,rfl,rfl,fH.of (s10' _ _ eU9),aN (j:=1) rfl,iZ,fun U hU=>?_⟩
  refine k' _ U ((s9.trans s10').trans (aB hU)) ((s9.trans s10').free hU) ⟨La,Lg,qs,az,?_,aB hU _ _ (s10' _ _ eLg),?_,W.cell (s9.free hLa),W.cell ((s57.trans s8).free hLg)⟩
  ·rw [List.map_map]
   exact aB hU _ _ az
  ·rw [List.map_map]
   exact dz.same (s10'.trans (aB hU)) tq9
theorem QF (g:Str->Nat) {ls:List aH} {x:Str} (hx:x∈ls.map (·.name)) (v:Nat):putK (dj g ls) (Sum.inr x) (.int (v:Nat))=dj (fun y=>if y=x then v else g y) ls:=by
 unfold putK
 rw [if_pos (by
  obtain⟨l,hl,rfl⟩:=List.mem_map.mp hx
  exact List.any_eq_true.mpr ⟨_,List.mem_map.mpr ⟨l,hl,rfl⟩,by simp⟩)]
 unfold dj
 rw [List.map_map]
 refine List.map_congr_left fun l _=>?_
 by_cases h:l.name=x
 ·simp [h]
 ·simp [h]
theorem HY (g:Str->Int) {ps:List PD} {x:Str} (hx:x∈ps.map (·.name)) (v:Int):putK (b8 g ps) (Sum.inr x) (.int v)=b8 (fun y=>if y=x then v else g y) ps:=by
 unfold putK
 rw [if_pos (by
  obtain⟨l,hl,rfl⟩:=List.mem_map.mp hx
  exact List.any_eq_true.mpr ⟨_,List.mem_map.mpr ⟨l,hl,rfl⟩,by simp⟩)]
 unfold b8
 rw [List.map_map]
 refine List.map_congr_left fun l _=>?_
 by_cases h:l.name=x
 ·simp [h]
 ·simp [h]
noncomputable def Gg (S:FS) (x:Str) (dd:mF):FS:=⟨fun y=>S.ev y ++ (dd.gv.filter fun q=>decide (q.1=y)).map (·.2),fun y=>if y∈dd.tk then S.g y+1 else S.g y,fun y=>if y=x then dd.kv else S.k y,fun y=>if y=x then S.d y+1 else S.d y,S.r⟩
noncomputable def Gq (M:List Addr) (H H':Hp):Prop:=∀b,b∉M->H' b=H b
structure IK (ls:List aH) (dd:mF):Prop where
 ntk:dd.tk.Nodup
 tin:∀x∈dd.tk,x∈ls.map (·.name)
 gin:∀q∈dd.gv,q.1∈ls.map (·.name)
 g2:dd.gv.length<=2
inductive Ak (K:PySem.W.Frag) (t:jd) (vs:List V) (H:Hp) (Q:VK):Prop where
 | mk:∀(b:Nat) (A:mJ) (ls:List aH) (ps:List PD) (S:FS) (p:PD) (U:Addr) (dd:mF),vs=[.ref A.f,.str p.name,.ref U]->Cd ls ps->dI K t H A ls ps S->p∈ps->((∀l∈ls,(S.ev l.name).length<=b))->b<=100000->mV (A.cells ls ps) H U dd->IK ls dd->(∀H',Gq (A.cells ls ps) H H'->dI K t H' A ls ps (Gg S p.name dd)->Q .non H')->Ak K t vs H Q
@[irreducible] noncomputable def oR (K:PySem.W.Frag) (t:jd):Sp:=fun vs H Q _=>Ak K t vs H Q
theorem M9 (T:Txt w K mg t):FO P w K mg base 1 t.zW ["self", "name", "deed"] (oR K t):=by
 have sc:=T.Ab.sc ["self", "name", "deed", "lane", "value"]
 refine T.Ab.F.ok sc (fun vs H Q E h=>?_) (fun cdv A outer s H vs Q E hr h=>?_)
 ·unfold oR at h
  obtain⟨b,A,ls,ps,S,p,U,dd,rfl,_⟩:=h
  rfl
 ·unfold oR at h
  obtain⟨b,A,ls,ps,S,p,U,dd,rfl,F,W,hp,O,hb,⟨La,Lg,rs,hU,hLa,hLg,hT,na,ng⟩,⟨ntk,hin,hout,hg2⟩,k⟩:=h
  refine⟨_,(ao (dq PassesOwn.never rfl (bT (aR cj (pv 2) aq (fun _ _=>rfl))) (gN sc 3)
    (aA (Ol hr.u1 (aY (pv 0) rfl) (pv 3) aq J4 (fun _ _ _=>rfl))))
   (ao (dq PassesOwn.never rfl (bT (aR cj (pv 2) aq (fun _ _=>rfl))) (Dv rfl (il (gN sc 3) (il (gN sc 4) vZ)))
    (aA (bI (JL (bZ hr.u1 (aY (pv 0) rfl) (pv 3) (fun _ _=>rfl)) (aa (pv 4) ak aj)))))
   (ao (fW hr.u1 (aY (pv 0) rfl) (pv 1) (aR cj (pv 2) aq (fun _ _=>rfl)) rfl)
   (aA (Ol hr.u1 (aY (pv 0) rfl) (pv 1) aq J4 (fun _ _ _=>rfl)))))),?_⟩
  have hl:sizeLine=16777216:=sizeLine_eq
  have l24:=F.l24
  have p16:=F.p16
  obtain⟨dx,fs,h1,h2⟩:=id W.at'.ex
  have hG:=W.gone
  have hn:=W.nod
  unfold mJ.cells at hn na ng
  simp only [List.nodup_cons,List.mem_cons,List.mem_append,not_or] at hn na ng
  obtain⟨⟨nEG,nEK,nED,nER,nEE,nE2⟩,⟨nGK,nGD,nGR,nGE,nG2⟩,⟨nKD,nKR,nKE,nK2⟩,⟨nDR,nDE,nD2⟩,⟨nRE,nR2⟩,nA⟩:=hn
  obtain⟨nE1,nR1,nER1⟩:=List.nodup_append.mp nA
  refine⟨_,rfl,U,_,0,_,rfl,rfl,fH.of hU,aN (j:=0) rfl,La,rfl,⟨_,bH.of hLa⟩,dD (K:=K) (a:=La) (xs:=dd.tk.map V.str) (fun j σ H'=>H'=upd H A.G (.dK (dj (fun x=>if x∈dd.tk.take j then S.g x+1 else S.g x) ls))/\∃v3,σ=[some (.ref A.f),some (.str p.name),some (.ref U),v3,none]) ⟨?_,none,rfl⟩ ?_ ?_ ?_⟩
  ·have:dj (fun x=>if x∈dd.tk.take 0 then S.g x+1 else S.g x) ls=dj S.g ls:=by simp
   rw [this,JN hG]
  ·rintro j σ H' _ ⟨rfl,_⟩
   exact bH.of (jG hG hLa (by intro _ z;cases z))
  ·rintro j x σ H' hx ⟨rfl,v3,rfl⟩
   rw [List.getElem?_map] at hx
   obtain⟨y,hy,rfl⟩:=Option.map_eq_some_iff.mp hx
   have hym:=hin y (List.mem_of_getElem? hy)
   have nin:y∉dd.tk.take j:=by
    have:=lV (f:=id) (xs:=dd.tk) (by rw [List.map_id];exact ntk) hy
    rwa [List.map_id] at this
   have vg:bY (dj (fun x=>if x∈dd.tk.take j then S.g x+1 else S.g x) ls) (Sum.inr y)=some (.int ((S.g y:Nat):Int)):=by
    obtain⟨l,hl',rfl⟩:=List.mem_map.mp hym
    rw [rR F.whole.nod hl',if_neg nin]
   refine⟨_,rfl,A.f,_,dx,fs,_,rfl,jG hG h1 (by intro _ z;cases z),T.aQ.c,T.aQ.na.2.2.1,h2.has ("gone",.ref A.G) (by simp),_,rfl,A.G,.int ((S.g y:Nat):Int),rfl,(by rw [<-vg];exact dM.k (k:=Sum.inr y) az),_,_,rfl,rfl,_,n6.k (k:=Sum.inr y) az (by unfold dj;rw [lM];omega),?_,_,rfl⟩
   rw [qH]
   show upd H A.G (.dK (putK _ (Sum.inr y) (.int ((S.g y+1:Nat):Int))))=_
   rw [QF _ hym (S.g y+1)]
   have:(fun z=>if z=y then S.g y+1 else if z∈dd.tk.take j then S.g z+1 else S.g z)=fun z=>if z∈dd.tk.take (j+1) then S.g z+1 else S.g z:=by
    funext z
    simp only [List.take_succ,hy,Option.toList_some,List.mem_append,List.mem_singleton]
    by_cases h3:z=y <;> by_cases h4:z∈dd.tk.take j <;> simp [h3,h4]
   rw [this]
  rintro σ H' ⟨rfl,v3,rfl⟩
  rw [lM,List.take_length]
  have m1:Gq [A.G] H (upd H A.G (.dK (dj (Gg S p.name dd).g ls))):=fun b hb=>aM (by simpa using hb)
  have gG:upd H A.G (.dK (dj (Gg S p.name dd).g ls)) A.G=some (.dK (dj (Gg S p.name dd).g ls)):=az
  change yN _ _ _ _ (upd H A.G (.dK (dj (Gg S p.name dd).g ls)))
  generalize upd H A.G (.dK (dj (Gg S p.name dd).g ls))=H1 at m1 gG ⊢
  have g1:∀{b:Addr} {u:HO},H b=some u->(∀ks,u≠.dK ks)->H1 b=some u:=fun {b u} h hu=>by
   rw [m1 b (by rw [List.mem_singleton];rintro rfl;rw [hG] at h;exact hu _ (Option.some.inj h).symm)]
   exact h
  have hlr:rs.length=dd.gv.length:=by have:=Paired.length hT;rw [lM] at this;exact this
  have eE1:H1 A.E=some (.dK (Ux A.ea ls)):=by rw [m1 A.E (by simpa using nEG)];exact W.ever
  have lists1:∀l∈ls,H1 (A.ea l.name)=some (.lst ((S.ev l.name).map V.int)):=fun l hl=>g1 (W.lists l hl) (by intro _ z;cases z)
  have nM:∀{b:Addr} {u:HO},H1 b=some u->(∀ks,u≠.lst ks)->b∉ls.map (fun l=>A.ea l.name):=fun {b u} h hu hm=>by
   obtain⟨l,hl,rfl⟩:=List.mem_map.mp hm
   rw [lists1 l hl] at h
   exact hu _ (Option.some.inj h).symm
  refine⟨_,rfl,U,_,1,_,rfl,rfl,fH.of (g1 hU (by intro _ z;cases z)),aN (j:=1) rfl,Lg,rfl,⟨_,bH.of (g1 hLg (by intro _ z;cases z))⟩,dD (K:=K) (a:=Lg) (xs:=rs.map V.ref) (fun j σ H'=>(Gq (ls.map (fun l=>A.ea l.name)) H1 H'/\∀l∈ls,H' (A.ea l.name)=some (.lst ((S.ev l.name ++ ((dd.gv.take j).filter fun q=>decide (q.1=l.name)).map (·.2)).map V.int)))/\∃v3 v4,σ=[some (.ref A.f),some (.str p.name),some (.ref U),v3,v4]) ⟨⟨fun _ _=>rfl,fun l hl=>?_⟩,v3,none,rfl⟩ ?_ ?_ ?_⟩
  ·rw [lists1 l hl]
   simp
  ·rintro j σ H' _ ⟨⟨m2,_⟩,_⟩
   exact bH.of (by rw [m2 Lg ng.2.2.2.2.2.1];exact g1 hLg (by intro _ z;cases z))
  ·rintro j x σ H' hx ⟨⟨m2,l2⟩,v3,v4,rfl⟩
   rw [List.getElem?_map] at hx
   obtain⟨r,hr',rfl⟩:=Option.map_eq_some_iff.mp hx
   obtain⟨vs2,z1,z2⟩:=lQ hT hr'
   rw [List.getElem?_map] at z1
   obtain⟨w,ew,rfl⟩:=Option.map_eq_some_iff.mp z1
   have hj:=(List.getElem?_eq_some_iff.mp ew).1
   have er:=g1 z2 (by intro _ z;cases z)
   have er':H' r=some (.tup [.str w.1,.int w.2]):=by rw [m2 r (nM er (by intro _ z;cases z))];exact er
   have fe:H' A.f=some (.ins t.b7 dx fs):=by
    have e1:=g1 h1 (by intro _ z;cases z)
    rw [m2 A.f (nM e1 (by intro _ z;cases z))]
    exact e1
   have ee:H' A.E=some (.dK (Ux A.ea ls)):=by rw [m2 A.E nEE];exact eE1
   obtain⟨l,hl',hln⟩:=List.mem_map.mp (hout w (List.mem_of_getElem? ew))
   have va:=yQ (ea:=A.ea) F.whole.nod hl'
   have ea:=l2 _ hl'
   rw [hln] at va
   refine⟨r,_,rfl,fH.of er',rfl,_,_,rfl,_,_,rfl,rfl,?_⟩
   refine⟨_,rfl,A.f,_,dx,fs,_,rfl,fe,T.aQ.c,T.aQ.na.2.1,h2.has ("ever",.ref A.E) (by simp),_,rfl,A.E,.ref (A.ea w.1),rfl,(by rw [<-va];exact dM.k (k:=Sum.inr w.1) ee),.inl ⟨rfl,_,bH.of (by rw [<-hln];exact ea)⟩,?_⟩
   refine⟨_,rfl,A.ea w.1,_,.int w.2,rfl,rfl,by rw [<-hln];exact ea,?_,⟨fun b hb=>?_,fun l1 hl1=>?_⟩,some (.str w.1),some (.int w.2),rfl⟩
   ·have h3:=O l hl'
    have h4:=List.length_filter_le (fun q:Str×Int=>decide (q.1=l.name)) (dd.gv.take j)
    rw [List.length_take] at h4
    rw [lM,lP,lM]
    omega
   ·rw [aM (fun z=>hb (by rw [z,<-hln];exact List.mem_map.mpr ⟨l,hl',rfl⟩))]
    exact m2 b hb
   ·rw [List.take_succ,ew,Option.toList_some,List.filter_append,List.map_append]
    by_cases h:w.1=l1.name
    ·have e:l1=l:=by
      have a1:=find_name F.whole.nod hl1
      have a2:=find_name F.whole.nod hl'
      rw [<-h,<-hln,a2] at a1
      exact(Option.some.inj a1).symm
     subst e
     rw [<-hln,az]
     simp [h]
    ·have hne:A.ea l1.name≠A.ea w.1:=fun z=>by
      rw [<-hln] at z
      have:=M4 nE1 hl1 hl' z
      exact h (by rw [this,hln])
     rw [aM hne,l2 l1 hl1]
     simp [h]
  rintro σ H2 ⟨⟨m2,l2⟩,v5,v6,rfl⟩
  rw [lM,hlr,List.take_length] at l2
  have fe:H2 A.f=some (.ins t.b7 dx fs):=by
   have e1:=g1 h1 (by intro _ z;cases z)
   rw [m2 A.f (nM e1 (by intro _ z;cases z))]
   exact e1
  have uE:H2 U=some (.tup [.ref La,.ref Lg,.int dd.kv]):=by
   have e1:=g1 hU (by intro _ z;cases z)
   rw [m2 U (nM e1 (by intro _ z;cases z))]
   exact e1
  have kE:H2 A.Kp=some (.dK (b8 S.k ps)):=by rw [m2 A.Kp nKE,m1 A.Kp (by simpa using Ne.symm nGK)];exact W.kept
  have dE:H2 A.D=some (.dK (b8 (fun x=>(S.d x:Int)) ps)):=by rw [m2 A.D nDE,m1 A.D (by simpa using Ne.symm nGD)];exact W.done
  have lk:∀k1:Str->Int,(b8 k1 ps).length <sizeLine:=fun k1=>by unfold b8;rw [lM];omega
  have hpn:p.name∈ps.map (·.name):=List.mem_map.mpr ⟨p,hp,rfl⟩
  refine⟨_,rfl,U,_,2,_,rfl,rfl,fH.of uE,aN (j:=2) rfl,_,rfl,A.f,_,dx,fs,_,rfl,fe,T.aQ.c,T.aQ.na.2.2.2.1,h2.has ("kept",.ref A.Kp) (by simp),_,rfl,A.Kp,_,rfl,n6.k (k:=Sum.inr p.name) kE (lk _),?_⟩
  rw [HY S.k hpn]
  have m3:Gq [A.Kp] H2 (upd H2 A.Kp (.dK (b8 (fun y=>if y=p.name then dd.kv else S.k y) ps))):=fun b hb=>aM (by simpa using hb)
  have kE3:upd H2 A.Kp (.dK (b8 (fun y=>if y=p.name then dd.kv else S.k y) ps)) A.Kp=some (.dK (b8 (fun y=>if y=p.name then dd.kv else S.k y) ps)):=az
  generalize upd H2 A.Kp (.dK (b8 (fun y=>if y=p.name then dd.kv else S.k y) ps))=H3 at m3 kE3 ⊢
  have fe3:H3 A.f=some (.ins t.b7 dx fs):=by rw [m3 A.f (by simpa using xg fe kE (by intro z;cases z))];exact fe
  have dE3:H3 A.D=some (.dK (b8 (fun x=>(S.d x:Int)) ps)):=by rw [m3 A.D (by simpa using Ne.symm nKD)];exact dE
  have vd:=rH (k:=fun x=>(S.d x:Int)) F.pnd hp
  refine⟨_,rfl,A.f,_,dx,fs,_,rfl,fe3,T.aQ.c,T.aQ.na.2.2.2.2.1,h2.has ("done",.ref A.D) (by simp),_,rfl,A.D,.int (S.d p.name:Int),rfl,(by rw [<-vd];exact dM.k (k:=Sum.inr p.name) dE3),_,_,rfl,rfl,_,n6.k (k:=Sum.inr p.name) dE3 (lk _),?_⟩
  rw [HY (fun x=>(S.d x:Int)) hpn]
  have eD:(fun y=>if y=p.name then(S.d p.name:Int)+1 else(S.d y:Int))=fun x=>(((Gg S p.name dd).d x:Nat):Int):=by
   funext y
   unfold Gg
   by_cases h:y=p.name
   ·subst h;simp
   ·simp [h]
  change Q .non (upd H3 A.D (.dK (b8 (fun y=>if y=p.name then(S.d p.name:Int)+1 else(S.d y:Int)) ps)))
  rw [eD]
  have m4:Gq [A.D] H3 (upd H3 A.D (.dK (b8 (fun x=>(((Gg S p.name dd).d x:Nat):Int)) ps))):=fun b hb=>aM (by simpa using hb)
  have dE4:upd H3 A.D (.dK (b8 (fun x=>(((Gg S p.name dd).d x:Nat):Int)) ps)) A.D=some (.dK (b8 (fun x=>(((Gg S p.name dd).d x:Nat):Int)) ps)):=az
  generalize upd H3 A.D (.dK (b8 (fun x=>(((Gg S p.name dd).d x:Nat):Int)) ps))=H4 at m4 dE4 ⊢
  have mv:∀b,b≠A.D->b≠A.Kp->H4 b=H2 b:=fun b a1 a2=>by rw [m4 b (by simpa using a1),m3 b (by simpa using a2)]
  have fe4:H4 A.f=some (.ins t.b7 dx fs):=by rw [m4 A.f (by simpa using xg fe3 dE3 (by intro z;cases z))];exact fe3
  refine k H4 (fun b hb=>?_) ⟨⟨dx,fs,fe4,h2⟩,?_,?_,?_,?_,dE4,?_,?_,W.nod⟩
  ·unfold mJ.cells at hb
   simp only [List.mem_cons,List.mem_append,not_or] at hb
   rw [mv b hb.2.2.2.1 hb.2.2.1,m2 b hb.2.2.2.2.2.1,m1 b (by simpa using hb.2.1)]
  ·rw [mv A.E nED nEK,m2 A.E nEE,eE1]
  ·intro l hl
   have a2:=l2 l hl
   rw [mv _ (xg a2 dE (by intro z;cases z)) (xg a2 kE (by intro z;cases z))]
   exact a2
  ·rw [mv A.G nGD nGK,m2 A.G nGE,gG]
  ·rw [m4 A.Kp (by simpa using nKD)]
   exact kE3
  ·rw [mv A.Rw (Ne.symm nDR) (Ne.symm nKR),m2 A.Rw nRE,m1 A.Rw (by simpa using Ne.symm nGR)]
   exact W.rows
  ·intro p' hp' h0
   have hm:A.ra p'.name∈(jF ps).map (fun p=>A.ra p.name):=List.mem_map.mpr ⟨p',List.mem_filter.mpr ⟨hp',by simp [h0]⟩,rfl⟩
   rw [mv _ (fun z=>nD2 (by rw [<-z];exact hm)) (fun z=>nK2 (by rw [<-z];exact hm)),m2 _ (fun z=>nER1 _ z _ hm rfl),m1 _ (by simpa using fun z=>nG2 (by rw [<-z];exact hm))]
   exact W.rlst p' hp' h0
theorem TJ (T:Txt w K mg t) (i:Nat):MethAt P w K mg base Fw 1 (cls t i) "start" (ug K t i):=match i with
 | 0=>⟨_,_,_,T.iH.c,(T.bJ.me T.iH.me.2.2.2.2.2.1),T.bJ.b,(dC T).imp fun _ _ _ _ h=>⟨_,by omega,h⟩⟩
 | 1=>⟨_,_,_,T.iD.c,(T.bJ.me T.iD.me.2.2.2.2.2.1),T.bJ.b,(dC T).imp fun _ _ _ _ h=>⟨_,by omega,h⟩⟩
 | 2=>⟨_,_,_,T.iG.c,(T.bJ.me T.iG.me.2.2.2.2.2.1),T.bJ.b,(dC T).imp fun _ _ _ _ h=>⟨_,by omega,h⟩⟩
 | 3=>⟨_,_,_,T.iQ.c,(T.bJ.me T.iQ.me.2.2.2.2.2.1),T.bJ.b,(dC T).imp fun _ _ _ _ h=>⟨_,by omega,h⟩⟩
 | 4=>⟨_,_,_,T.iI.c,(T.bJ.me T.iI.me.2.2.2.2.2.1),T.bJ.b,(dC T).imp fun _ _ _ _ h=>⟨_,by omega,h⟩⟩
 | 5=>⟨_,_,_,T.iY.c,(T.nC.me T.iY.me.2.2.2.2.2.1),T.nC.b,GC T⟩
 | 6=>⟨_,_,_,T.lG.c,(T.bJ.me T.lG.me.2.2.2.2.2.1),T.bJ.b,(dC T).imp fun _ _ _ _ h=>⟨_,by omega,h⟩⟩
 | 7=>⟨_,_,_,T.iW.c,(T.bJ.me T.iW.me.2.2.2.2.2.1),T.bJ.b,(dC T).imp fun _ _ _ _ h=>⟨_,by omega,h⟩⟩
 | 8=>⟨_,_,_,T.fM.c,(T.bJ.me T.fM.me.2.2.2.2.2.1),T.bJ.b,(dC T).imp fun _ _ _ _ h=>⟨_,by omega,h⟩⟩
 | 9=>⟨_,_,_,T.eG.c,(T.bJ.me T.eG.me.2.2.2.2.2.1),T.bJ.b,(dC T).imp fun _ _ _ _ h=>⟨_,by omega,h⟩⟩
 | n+10=>⟨_,_,_,T.fP.c,(T.bJ.me T.fP.me.2.2.2.2.2.1),T.bJ.b,(dC T).imp fun _ _ _ _ h=>⟨_,by omega,h⟩⟩
theorem U3:∀i,i <11->fc i= "give" ->i=0:=by decide +kernel
theorem QW (p:PD) (h:uK p):J7 p.kind (p.nums.map V.int)=.int (Jp p):=by
 unfold J7 Jp
 by_cases h5:p.kind=5
 ·rw [if_pos h5,if_pos h5]
  have hl:p.nums.length=1:=by rw [h.2.1,h5];rfl
  match p.nums,hl with
  | [m],_=>rfl
 ·rw [if_neg h5,if_neg h5]
noncomputable def Om (ls:List aH) (x:Str):List Int:=((ls.find? fun l=>decide (l.name=x)).map (·.first)).getD []
theorem Ep {ls:List aH} (nd:(ls.map (·.name)).Nodup) {l:aH} (hl:l∈ls):Om ls l.name=l.first:=by
 unfold Om
 rw [find_name nd hl]
 rfl
noncomputable def f9 (RW:List (Str×Addr×List Int)):List (Key×V):=RW.map fun q=>((Sum.inr q.1:Key),V.ref q.2.1)
noncomputable def wI (RW:List (Str×Addr×List Int)) (x:Str):List Int:=((RW.find? fun q=>decide (q.1=x)).map (·.2.2)).getD []
structure oZ (H:Hp) (rw:Addr) (RW:List (Str×Addr×List Int)):Prop where
 dict:H rw=some (.dK (f9 RW))
 lists:∀q∈RW,H q.2.1=some (.lst (q.2.2.map V.int))
 nd:(RW.map (·.1)).Nodup
 len:∀q∈RW,q.2.2.length<=300
theorem oZ.same {H H':Hp} {rw:Addr} {RW:List (Str×Addr×List Int)} (h:oZ H rw RW) (s:aK H H'):oZ H' rw RW:=⟨s _ _ h.dict,fun q hq=>s _ _ (h.lists q hq),h.nd,h.len⟩
theorem xN (RW:List (Str×Addr×List Int)):(f9 RW).map (·.1)=(RW.map (·.1)).map (fun x=>(Sum.inr x:Key)):=by unfold f9;rw [List.map_map,List.map_map];rfl
theorem oZ.get {H:Hp} {rw:Addr} {RW:List (Str×Addr×List Int)} (h:oZ H rw RW) (x:Str):(bY (f9 RW) (Sum.inr x)=none/\wI RW x=[])∨∃a,bY (f9 RW) (Sum.inr x)=some (.ref a)/\H a=some (.lst ((wI RW x).map V.int))/\(wI RW x).length<=300:=by
 by_cases hx:x∈RW.map (·.1)
 ·obtain⟨q,hq,rfl⟩:=List.mem_map.mp hx
  have e:wI RW q.1=q.2.2:=by unfold wI;rw [find_name (f:=fun q:Str×Addr×List Int=>q.1) h.nd hq];rfl
  refine .inr ⟨q.2.1,iR (by rw [xN];exact gK h.nd) (List.mem_map.mpr ⟨q,hq,rfl⟩),?_,?_⟩
  ·rw [e];exact h.lists q hq
  ·rw [e];exact h.len q hq
 ·refine .inl ⟨ir (by rw [xN];intro z;obtain⟨b,hb,e⟩:=List.mem_map.mp z;cases e;exact hx hb),?_⟩
  unfold wI
  rw [List.find?_eq_none.mpr fun q hq=>by simpa using fun e=>hx (List.mem_map.mpr ⟨q,hq,e⟩)]
  rfl
noncomputable def mD (ls:List aH) (ps:List PD) (RW:List (Str×Addr×List Int)):FS:=⟨Om ls,fun _=>0,gq ps,fun _=>0,wI RW⟩
noncomputable def Kr (RW:List (Str×Addr×List Int)) (RL:List (PD×Addr)):List (Addr×HO):=RL.map fun q=>(q.2,HO.lst ((wI RW q.1.name).map V.int))
theorem NZ {ps:List PD} (h:∀p∈ps,uK p):(ps.filter fun p=>decide (fc p.kind= "give"))=jF ps:=by
 unfold jF
 refine List.filter_congr fun p hp=>?_
 by_cases h0:p.kind=0
 ·rw [h0];rfl
 ·have:¬fc p.kind= "give" :=fun z=>h0 (U3 _ (h p hp).1 z)
  simp [h0,this]
noncomputable def xH {α:Type} (f:α->Str) (L:List (α×Addr)) (x:Str):Addr:=((L.find? fun q=>decide (f q.1=x)).map (·.2)).getD 0
theorem pR {α:Type} {f:α->Str} {L:List (α×Addr)} (nd:(L.map fun q=>f q.1).Nodup) {q:α×Addr} (hq:q∈L):xH f L (f q.1)=q.2:=by
 unfold xH
 rw [find_name (f:=fun q:α×Addr=>f q.1) nd hq]
 rfl
theorem Hj {α:Type} {f:α->Str} {L:List (α×Addr)} (nd:(L.map fun q=>f q.1).Nodup):(L.map (·.1)).map (fun a=>xH f L (f a))=L.map (·.2):=by
 rw [List.map_map]
 exact List.map_congr_left fun q hq=>pR nd hq
inductive pY (K:PySem.W.Frag) (t:jd) (vs:List V) (H:Hp) (Q:VK):Prop where
 | mk:∀(H0:Hp) (f dx n rw:Addr) (ls:List aH) (ps:List PD) (RW:List (Str×Addr×List Int)),vs=[.ref f,.ref n,.ref rw]->H f=some (.ins t.b7 dx [])->aK H0 H->H0 f=none->fY K t H0 n ls ps->oZ H0 rw RW->(∀H' A,A.f=f->A.n=n->lH f H H'->dI K t H' A ls ps (mD ls ps RW)->(∀a∈A.cells ls ps,H a=none)->Q .non H')->pY K t vs H Q
@[irreducible] noncomputable def gO (K:PySem.W.Frag) (t:jd):Sp:=fun vs H Q _=>pY K t vs H Q
theorem Ag (T:Txt w K mg t):FO P w K mg base 4 t.mL ["self", "net", "rows"] (gO K t):=by
 have sc:=T.jy.sc ["self", "net", "rows", "lane", "name", "door"]
 refine T.jy.F.ok sc (fun vs H Q E h=>?_) (fun cdv A outer s H vs Q E hr h=>?_)
 ·unfold gO at h
  obtain⟨H0,f,dx,n,rw,ls,ps,RW,rfl,_⟩:=h
  rfl
 ·unfold gO at h
  obtain⟨H0,f,dx,n,rw,ls,ps,RW,rfl,hf,s0,nf0,N,hrw,k⟩:=h
  refine⟨_,(ao (iy (pv 0) (pv 1) rfl)
   (ao (iy (pv 0) fD rfl)
   (ao (iy (pv 0) fD rfl)
   (ao (dq PassesOwn.never rfl (bT (Nh (pv 1) T.aU T.aU.me.2.1 (p7 T) T.jg hr)) (gN sc 3)
    (ao (fW hr.u1 (aY (pv 0) rfl) (pv 3) (vJ (pv 1) T.aU T.aU.me.2.2.2.2.2.2.2.2.1 (Ca T) T.pQ hr (aa (pv 3) ak aj)) rfl)
    (aA (fW hr.u1 (aY (pv 0) rfl) (pv 3) aq rfl))))
   (ao (iy (pv 0) fD rfl)
   (ao (iy (pv 0) fD rfl)
   (ao (dq PassesOwn.never rfl (bT (Nh (pv 1) T.aU T.aU.me.2.2.1 (dH T) T.cJ hr)) (gN sc 4)
    (ao (fW hr.u1 (aY (pv 0) rfl) (pv 4) (Hh (CX:=Fw) (k:=1) (E:=E0) (vJ (pv 1) T.aU T.aU.me.2.2.2.2.2.2.2.2.2.2.2.1 (pP T) T.jm hr (aa (pv 4) ak aj)) (hr.mono (by decide)) ik) rfl)
    (aA (fW hr.u1 (aY (pv 0) rfl) (pv 4) aq rfl))))
   (ao (iy (pv 0) fD rfl)
   (aA (dq PassesOwn.never rfl (bT (Nh (pv 1) T.aU T.aU.me.2.2.2.2.1 (mW T) T.jK hr)) (gN sc 5)
    (aA (fW hr.u1 (aY (pv 0) rfl) (pv 5) (fL yt (by rfl) T.xZ sy (aa (RM hr.u1 (pv 2) (pv 5) (bB ak) ⟨rfl,rfl,rfl,rfl⟩) ak bf)) rfl)))))))))))),?_⟩
  obtain⟨dxn,fsn,R,F,Pd,Gn,Tk,FL,PL,W⟩:=id N
  have hl:sizeLine=16777216:=sizeLine_eq
  have l24:=W.fit.l24
  have p16:=W.fit.p16
  have sk:∀{Hk:Hp},lH f H Hk->aK H0 Hk:=fun b x o e=>b x o (aD e nf0) (s0 x o e)
  have T0:=Tr.start hf
  refine⟨_,rfl,_,rfl,f,_,dx,[],rfl,hf,T.aQ.c,T.aQ.na.1,by show 0 <1000;decide,?_⟩
  have T1:=T0.put (L1:=[]) (L2:=[]) (o':=.ins t.b7 dx (aJ "net" (.ref n) []))
  generalize upd H f (.ins t.b7 dx (aJ "net" (.ref n) []))=H1 at T1 ⊢
  refine fun E nE=>?_
  have T2:=T1.new (o:=.dK []) nE
  generalize upd H1 E (.dK [])=H2 at T2 ⊢
  refine⟨_,rfl,f,_,dx,_,rfl,T2.all (f,_) (.head _),T.aQ.c,T.aQ.na.2.1,Nat.lt_of_le_of_lt (ie (Nat.zero_le 0)) (by decide),?_⟩
  have T3:=T2.put (L1:=[]) (o':=.ins t.b7 dx (aJ "ever" (.ref E) (aJ "net" (.ref n) [])))
  generalize upd H2 f (.ins t.b7 dx (aJ "ever" (.ref E) (aJ "net" (.ref n) [])))=H3 at T3 ⊢
  refine fun G nG=>?_
  have T4:=T3.new (o:=.dK []) nG
  generalize upd H3 G (.dK [])=H4 at T4 ⊢
  refine⟨_,rfl,f,_,dx,_,rfl,T4.all (f,_) (.head _),T.aQ.c,T.aQ.na.2.2.1,Nat.lt_of_le_of_lt (ie (ie (Nat.zero_le 0))) (by decide),?_⟩
  have T5:=T4.put (L1:=[]) (o':=.ins t.b7 dx (aJ "gone" (.ref G) (aJ "ever" (.ref E) (aJ "net" (.ref n) []))))
  generalize upd H4 f (.ins t.b7 dx (aJ "gone" (.ref G) (aJ "ever" (.ref E) (aJ "net" (.ref n) []))))=H5 at T5 ⊢
  have W5:=W.same (sk T5.but)
  refine⟨_,rfl,n,dxn,fsn,rfl,W5.obj,W5.fl.no _ (by decide +kernel),n,ls,ps,rfl,W5.s,fun l nl=>?_⟩
  have T6:Tr H f ((f,.ins t.b7 dx (aJ "gone" (.ref G) (aJ "ever" (.ref E) (aJ "net" (.ref n) [])))):: (E,.dK (bL [])):: (G,.dK (dj (fun _=>0) [])):: (l,.lst (ls.map fun x:aH=>V.str x.name)):: jZ []) (upd H5 l (.lst (ls.map fun x:aH=>V.str x.name))):=T5.new nl
  generalize upd H5 l (.lst (ls.map fun x:aH=>V.str x.name))=H6 at T6 ⊢
  clear T0 T1 T2 T3 T4 T5 W5
  refine⟨l,rfl,⟨_,bH.of (T6.all (l,.lst (ls.map fun x:aH=>V.str x.name)) (by simp))⟩,dD (K:=K) (a:=l) (xs:=ls.map fun x:aH=>V.str x.name) (fun j σ H'=>(∃v3,σ=[some (.ref f),some (.ref n),some (.ref rw),v3,none,none])/\∃EL:List (aH×Addr),EL.map (·.1)=ls.take j/\Tr H f ((f,.ins t.b7 dx (aJ "gone" (.ref G) (aJ "ever" (.ref E) (aJ "net" (.ref n) [])))):: (E,.dK (bL EL)):: (G,.dK (dj (fun _=>0) (ls.take j))):: (l,.lst (ls.map fun x:aH=>V.str x.name)):: jZ EL) H') ⟨⟨none,rfl⟩,[],rfl,T6⟩ (fun j σ H' _ ⟨_,_,_,T'⟩=>bH.of (T'.all (l,.lst (ls.map fun x:aH=>V.str x.name)) (by simp))) ?_ ?_⟩
  ·rintro j x σ H' hx ⟨⟨v3,rfl⟩,EL,eEL,T7⟩
   rw [List.getElem?_map] at hx
   obtain⟨ln,hlj,rfl⟩:=Option.map_eq_some_iff.mp hx
   have hm:=List.mem_of_getElem? hlj
   have hj:=(List.getElem?_eq_some_iff.mp hlj).1
   have nin:=lV W.fit.whole.nod hlj
   have vE:bY (bL EL) (Sum.inr ln.name)=none:=ir (by rw [sI,eEL];intro z;obtain⟨b,hb,e⟩:=List.mem_map.mp z;cases e;exact nin hb)
   have vG:bY (dj (fun _=>0) (ls.take j)) (Sum.inr ln.name)=none:=ir (by rw [Et];intro z;obtain⟨b,hb,e⟩:=List.mem_map.mp z;cases e;exact nin hb)
   have tk:ls.take (j+1)=ls.take j ++ [ln]:=by rw [List.take_succ,hlj];rfl
   have lEL:EL.length<=24:=by have:=congrArg List.length eEL;rw [lM,List.length_take] at this;omega
   have W7:=W.same (sk T7.but)
   refine⟨_,rfl,n,dxn,fsn,rfl,W7.obj,W7.fl.no _ (by decide +kernel),_,rfl,n,ls,ps,ln.name,rfl,W7.s,.inl ⟨ln,hm,rfl,fun H8 le s8 nle ele=>?_⟩⟩
   have T8:Tr H f ((f,.ins t.b7 dx (aJ "gone" (.ref G) (aJ "ever" (.ref E) (aJ "net" (.ref n) [])))):: (E,.dK (bL EL)):: (G,.dK (dj (fun _=>0) (ls.take j))):: (l,.lst (ls.map fun x:aH=>V.str x.name)):: jZ (EL ++ [(ln,le)])) H8:=by
    unfold jZ
    rw [List.map_append]
    exact T7.got s8 nle ele
   refine⟨_,rfl,f,_,dx,_,_,rfl,T8.all (f,_) (.head _),T.aQ.c,T.aQ.na.2.1,(by (repeat first | (rw [aC,if_pos rfl];done) | rw [aC,if_neg (by decide +kernel)])),_,rfl,E,_,rfl,n6.k (k:=Sum.inr ln.name) (T8.all (E,.dK (bL EL)) (by simp)) (by unfold bL;rw [lM];omega),?_⟩
   have e8:putK (bL EL) (Sum.inr ln.name) (.ref le)=bL (EL ++ [(ln,le)]):=by rw [jt _ vE];unfold bL;rw [List.map_append];rfl
   rw [e8]
   have T9:=T8.put (L1:=[_]) (o':=.dK (bL (EL ++ [(ln,le)])))
   generalize upd H8 E (.dK (bL (EL ++ [(ln,le)])))=H9 at T9 ⊢
   refine⟨_,rfl,f,_,dx,_,_,rfl,T9.all (f,_) (.head _),T.aQ.c,T.aQ.na.2.2.1,(by (repeat first | (rw [aC,if_pos rfl];done) | rw [aC,if_neg (by decide +kernel)])),_,rfl,G,_,rfl,n6.k (k:=Sum.inr ln.name) (T9.all (G,.dK (dj (fun _=>0) (ls.take j))) (by simp)) (by unfold dj;rw [lM,List.length_take];omega),?_⟩
   have e9:putK (dj (fun _=>0) (ls.take j)) (Sum.inr ln.name) (.int 0)=dj (fun _=>0) (ls.take (j+1)):=by rw [jt _ vG,tk];unfold dj;rw [List.map_append];rfl
   rw [e9]
   have TA:=T9.put (L1:=[_,_]) (o':=.dK (dj (fun _=>0) (ls.take (j+1))))
   exact⟨⟨_,rfl⟩,EL ++ [(ln,le)],by rw [List.map_append,eEL,tk];rfl,TA⟩
  rintro σ H7 ⟨⟨v3,rfl⟩,EL,eEL,T7⟩
  rw [lM,List.take_length] at eEL T7
  have T7:Tr H f ((f,.ins t.b7 dx (aJ "gone" (.ref G) (aJ "ever" (.ref E) (aJ "net" (.ref n) [])))):: (E,.dK (bL EL)):: (G,.dK (dj (fun _=>0) ls)):: jZ EL) H7:=T7.sub (.cons₂ _ (.cons₂ _ (.cons₂ _ (.cons _ (List.Sublist.refl _))))) ⟨_,.head _⟩
  clear T6
  refine fun Kp nKp=>?_
  have T8:Tr H f ((f,.ins t.b7 dx (aJ "gone" (.ref G) (aJ "ever" (.ref E) (aJ "net" (.ref n) [])))):: (E,.dK (bL EL)):: (G,.dK (dj (fun _=>0) ls)):: (Kp,.dK []):: jZ EL) (upd H7 Kp (.dK [])):=(T7.new nKp).perm (.cons _ (.cons _ (.cons _ (List.perm_append_singleton _ _))))
  generalize upd H7 Kp (.dK [])=H8 at T8 ⊢
  refine⟨_,rfl,f,_,dx,_,rfl,T8.all (f,_) (.head _),T.aQ.c,T.aQ.na.2.2.2.1,Nat.lt_of_le_of_lt (ie (ie (ie (Nat.zero_le 0)))) (by decide),?_⟩
  have T9:=T8.put (L1:=[]) (o':=.ins t.b7 dx (aJ "kept" (.ref Kp) (aJ "gone" (.ref G) (aJ "ever" (.ref E) (aJ "net" (.ref n) [])))))
  generalize upd H8 f (.ins t.b7 dx (aJ "kept" (.ref Kp) (aJ "gone" (.ref G) (aJ "ever" (.ref E) (aJ "net" (.ref n) [])))))=H9 at T9 ⊢
  refine fun D nD=>?_
  have TA:Tr H f ((f,.ins t.b7 dx (aJ "kept" (.ref Kp) (aJ "gone" (.ref G) (aJ "ever" (.ref E) (aJ "net" (.ref n) []))))):: (E,.dK (bL EL)):: (G,.dK (dj (fun _=>0) ls)):: (Kp,.dK []):: (D,.dK []):: jZ EL) (upd H9 D (.dK [])):=(T9.new nD).perm (.cons _ (.cons _ (.cons _ (.cons _ (List.perm_append_singleton _ _)))))
  generalize upd H9 D (.dK [])=HA at TA ⊢
  refine⟨_,rfl,f,_,dx,_,rfl,TA.all (f,_) (.head _),T.aQ.c,T.aQ.na.2.2.2.2.1,Nat.lt_of_le_of_lt (ie (ie (ie (ie (Nat.zero_le 0))))) (by decide),?_⟩
  have TB:=TA.put (L1:=[]) (o':=.ins t.b7 dx (aJ "done" (.ref D) (aJ "kept" (.ref Kp) (aJ "gone" (.ref G) (aJ "ever" (.ref E) (aJ "net" (.ref n) []))))))
  generalize upd HA f (.ins t.b7 dx (aJ "done" (.ref D) (aJ "kept" (.ref Kp) (aJ "gone" (.ref G) (aJ "ever" (.ref E) (aJ "net" (.ref n) []))))))=HB at TB ⊢
  have WB:=W.same (sk TB.but)
  refine⟨_,rfl,n,dxn,fsn,rfl,WB.obj,WB.fl.no _ (by decide +kernel),n,ls,ps,rfl,WB.s,fun m nm=>?_⟩
  have TC:Tr H f ((f,.ins t.b7 dx (aJ "done" (.ref D) (aJ "kept" (.ref Kp) (aJ "gone" (.ref G) (aJ "ever" (.ref E) (aJ "net" (.ref n) [])))))):: (E,.dK (bL EL)):: (G,.dK (dj (fun _=>0) ls)):: (Kp,.dK (b8 (gq ps) [])):: (D,.dK (b8 (fun _=>0) [])):: (m,.lst (ps.map fun x:PD=>V.str x.name)):: jZ EL) (upd HB m (.lst (ps.map fun x:PD=>V.str x.name))):=(TB.new nm).perm (.cons _ (.cons _ (.cons _ (.cons _ (.cons _ (List.perm_append_singleton _ _))))))
  generalize upd HB m (.lst (ps.map fun x:PD=>V.str x.name))=HC at TC ⊢
  clear T7 T8 T9 TA TB WB
  refine⟨m,rfl,⟨_,bH.of (TC.all (m,.lst (ps.map fun x:PD=>V.str x.name)) (by simp))⟩,dD (K:=K) (a:=m) (xs:=ps.map fun x:PD=>V.str x.name) (fun j σ H'=>(∃v4,σ=[some (.ref f),some (.ref n),some (.ref rw),v3,v4,none])/\Tr H f ((f,.ins t.b7 dx (aJ "done" (.ref D) (aJ "kept" (.ref Kp) (aJ "gone" (.ref G) (aJ "ever" (.ref E) (aJ "net" (.ref n) [])))))):: (E,.dK (bL EL)):: (G,.dK (dj (fun _=>0) ls)):: (Kp,.dK (b8 (gq ps) (ps.take j))):: (D,.dK (b8 (fun _=>0) (ps.take j))):: (m,.lst (ps.map fun x:PD=>V.str x.name)):: jZ EL) H') ⟨⟨none,rfl⟩,TC⟩ (fun j σ H' _ ⟨_,T'⟩=>bH.of (T'.all (m,.lst (ps.map fun x:PD=>V.str x.name)) (by simp))) ?_ ?_⟩
  ·rintro j x σ H' hx ⟨⟨v4,rfl⟩,T7⟩
   rw [List.getElem?_map] at hx
   obtain⟨p,hpj,rfl⟩:=Option.map_eq_some_iff.mp hx
   have hm:=List.mem_of_getElem? hpj
   have hj:=(List.getElem?_eq_some_iff.mp hpj).1
   have nin:=lV W.fit.pnd hpj
   have vK:∀k0:Str->Int,bY (b8 k0 (ps.take j)) (Sum.inr p.name)=none:=fun k0=>ir (by rw [Gb];intro z;obtain⟨b,hb,e⟩:=List.mem_map.mp z;cases e;exact nin hb)
   have tk:ps.take (j+1)=ps.take j ++ [p]:=by rw [List.take_succ,hpj];rfl
   have so:gq ps p.name=Jp p:=by unfold gq Jp;rw [find_name W.fit.pnd hm];rfl
   have W7:=W.same (sk T7.but)
   refine⟨_,rfl,n,dxn,fsn,rfl,W7.obj,W7.fl.no _ (by decide +kernel),_,rfl,n,ls,ps,p.name,rfl,W7.s,.inl ⟨p,hm,rfl,fun H8 q s8 P8=>?_⟩⟩
   have T8:=T7.same s8
   obtain⟨dxp,tn,ti,to,p1,p2,p3,p4⟩:=id P8.ex
   refine⟨q,cls t p.kind,dxp,_,ug K t p.kind,rfl,p1,wj _ _ _ _ (by decide +kernel) (by decide +kernel) (by decide +kernel) (by decide +kernel),TJ T p.kind,q,_,_,_,_,rfl,P8,by rw [lM];exact(W.fit.pok p hm).2.1,?_⟩
   rw [QW p (W.fit.pok p hm),<-so]
   refine⟨_,rfl,f,_,dx,_,_,rfl,T8.all (f,_) (.head _),T.aQ.c,T.aQ.na.2.2.2.1,(by (repeat first | (rw [aC,if_pos rfl];done) | rw [aC,if_neg (by decide +kernel)])),_,rfl,Kp,_,rfl,n6.k (k:=Sum.inr p.name) (T8.all (Kp,.dK (b8 (gq ps) (ps.take j))) (by simp)) (by unfold b8;rw [lM,List.length_take];omega),?_⟩
   have e8:∀k0:Str->Int,putK (b8 k0 (ps.take j)) (Sum.inr p.name) (.int (k0 p.name))=b8 k0 (ps.take (j+1)):=fun k0=>by rw [jt _ (vK k0),tk];unfold b8;rw [List.map_append];rfl
   rw [e8]
   have T9:=T8.put (L1:=[_,_,_]) (o':=.dK (b8 (gq ps) (ps.take (j+1))))
   generalize upd H8 Kp (.dK (b8 (gq ps) (ps.take (j+1))))=H9 at T9 ⊢
   refine⟨_,rfl,f,_,dx,_,_,rfl,T9.all (f,_) (.head _),T.aQ.c,T.aQ.na.2.2.2.2.1,(by (repeat first | (rw [aC,if_pos rfl];done) | rw [aC,if_neg (by decide +kernel)])),_,rfl,D,_,rfl,n6.k (k:=Sum.inr p.name) (T9.all (D,.dK (b8 (fun _=>0) (ps.take j))) (by simp)) (by unfold b8;rw [lM,List.length_take];omega),?_⟩
   rw [e8 fun _=>0]
   exact⟨⟨_,rfl⟩,T9.put (L1:=[_,_,_,_])⟩
  rintro σ HD ⟨⟨v4,rfl⟩,TD⟩
  rw [lM,List.take_length] at TD
  have TD:Tr H f ((f,.ins t.b7 dx (aJ "done" (.ref D) (aJ "kept" (.ref Kp) (aJ "gone" (.ref G) (aJ "ever" (.ref E) (aJ "net" (.ref n) [])))))):: (E,.dK (bL EL)):: (G,.dK (dj (fun _=>0) ls)):: (Kp,.dK (b8 (gq ps) ps)):: (D,.dK (b8 (fun _=>0) ps)):: jZ EL) HD:=TD.sub (.cons₂ _ (.cons₂ _ (.cons₂ _ (.cons₂ _ (.cons₂ _ (.cons _ (List.Sublist.refl _))))))) ⟨_,.head _⟩
  clear TC
  refine fun Rw nRw=>?_
  have TE:Tr H f ((f,.ins t.b7 dx (aJ "done" (.ref D) (aJ "kept" (.ref Kp) (aJ "gone" (.ref G) (aJ "ever" (.ref E) (aJ "net" (.ref n) [])))))):: (E,.dK (bL EL)):: (G,.dK (dj (fun _=>0) ls)):: (Kp,.dK (b8 (gq ps) ps)):: (D,.dK (b8 (fun _=>0) ps)):: (Rw,.dK []):: jZ EL) (upd HD Rw (.dK [])):=(TD.new nRw).perm (.cons _ (.cons _ (.cons _ (.cons _ (.cons _ (List.perm_append_singleton _ _))))))
  generalize upd HD Rw (.dK [])=HE at TE ⊢
  refine⟨_,rfl,f,_,dx,_,rfl,TE.all (f,_) (.head _),T.aQ.c,T.aQ.na.2.2.2.2.2.1,Nat.lt_of_le_of_lt (ie (ie (ie (ie (ie (Nat.zero_le 0)))))) (by decide),?_⟩
  have TF:=TE.put (L1:=[]) (o':=.ins t.b7 dx (aJ "rows" (.ref Rw) (aJ "done" (.ref D) (aJ "kept" (.ref Kp) (aJ "gone" (.ref G) (aJ "ever" (.ref E) (aJ "net" (.ref n) [])))))))
  generalize upd HE f (.ins t.b7 dx (aJ "rows" (.ref Rw) (aJ "done" (.ref D) (aJ "kept" (.ref Kp) (aJ "gone" (.ref G) (aJ "ever" (.ref E) (aJ "net" (.ref n) [])))))))=HF at TF ⊢
  have WF:=W.same (sk TF.but)
  refine⟨_,rfl,n,dxn,fsn,rfl,WF.obj,WF.fl.no _ (by decide +kernel),n,ls,ps,rfl,WF.s,fun d nd=>?_⟩
  have TG:Tr H f ((f,.ins t.b7 dx (aJ "rows" (.ref Rw) (aJ "done" (.ref D) (aJ "kept" (.ref Kp) (aJ "gone" (.ref G) (aJ "ever" (.ref E) (aJ "net" (.ref n) []))))))):: (E,.dK (bL EL)):: (G,.dK (dj (fun _=>0) ls)):: (Kp,.dK (b8 (gq ps) ps)):: (D,.dK (b8 (fun _=>0) ps)):: (Rw,.dK []):: (d,.lst (dX ps "give")):: jZ EL) (upd HF d (.lst (dX ps "give"))):=(TF.new nd).perm (.cons _ (.cons _ (.cons _ (.cons _ (.cons _ (.cons _ (List.perm_append_singleton _ _)))))))
  generalize upd HF d (.lst (dX ps "give"))=HG at TG ⊢
  clear TD TE TF WF
  have lgv:=zE ps "give"
  have ndg:((ps.filter fun p=>decide (fc p.kind= "give")).map (·.name)).Nodup:=W.fit.pnd.sublist ((List.filter_sublist).map _)
  rw [NZ W.fit.pok] at ndg
  have ePg:dX ps "give" =(jF ps).map fun p=>V.str p.name:=by unfold dX;rw [NZ W.fit.pok]
  rw [ePg] at TG
  have lgP:(jF ps).length<=16:=by have:=List.length_filter_le (fun p:PD=>decide (p.kind=0)) ps;unfold jF;omega
  have TG:Tr H f ((f,.ins t.b7 dx (aJ "rows" (.ref Rw) (aJ "done" (.ref D) (aJ "kept" (.ref Kp) (aJ "gone" (.ref G) (aJ "ever" (.ref E) (aJ "net" (.ref n) []))))))):: (E,.dK (bL EL)):: (G,.dK (dj (fun _=>0) ls)):: (Kp,.dK (b8 (gq ps) ps)):: (D,.dK (b8 (fun _=>0) ps)):: (Rw,.dK []):: (d,.lst ((jF ps).map fun p=>V.str p.name)):: (jZ EL ++ Kr RW [])) HG:=by
   unfold Kr
   rw [List.map_nil,List.append_nil]
   exact TG
  refine⟨d,rfl,⟨_,bH.of (TG.all (d,.lst ((jF ps).map fun p=>V.str p.name)) (by simp))⟩,dD (K:=K) (a:=d) (xs:=(jF ps).map fun p=>V.str p.name) (fun j σ H'=>(∃v5,σ=[some (.ref f),some (.ref n),some (.ref rw),v3,v4,v5])/\∃RL:List (PD×Addr),RL.map (·.1)=(jF ps).take j/\Tr H f ((f,.ins t.b7 dx (aJ "rows" (.ref Rw) (aJ "done" (.ref D) (aJ "kept" (.ref Kp) (aJ "gone" (.ref G) (aJ "ever" (.ref E) (aJ "net" (.ref n) []))))))):: (E,.dK (bL EL)):: (G,.dK (dj (fun _=>0) ls)):: (Kp,.dK (b8 (gq ps) ps)):: (D,.dK (b8 (fun _=>0) ps)):: (Rw,.dK (RL.map fun q=>((Sum.inr q.1.name:Key),V.ref q.2))):: (d,.lst ((jF ps).map fun p=>V.str p.name)):: (jZ EL ++ Kr RW RL)) H') ⟨⟨none,rfl⟩,[],rfl,TG⟩ (fun j σ H' _ ⟨_,_,_,T7⟩=>bH.of (T7.all (d,.lst ((jF ps).map fun p=>V.str p.name)) (by simp))) ?_ ?_⟩
  ·rintro j x σ H' hx ⟨⟨v5,rfl⟩,RL,eRL,T7⟩
   rw [List.getElem?_map] at hx
   obtain⟨p,hpj,rfl⟩:=Option.map_eq_some_iff.mp hx
   have nin:=lV ndg hpj
   have tk:(jF ps).take (j+1)=(jF ps).take j ++ [p]:=by rw [List.take_succ,hpj];rfl
   have vR:bY (RL.map fun q=>((Sum.inr q.1.name:Key),V.ref q.2)) (Sum.inr p.name)=none:=ir (by
    rw [List.map_map]
    intro z
    obtain⟨q,hq,e⟩:=List.mem_map.mp z
    have hm:q.1∈RL.map (·.1):=List.mem_map.mpr ⟨q,hq,rfl⟩
    rw [eRL] at hm
    exact nin (List.mem_map.mpr ⟨q.1,hm,by injection e⟩))
   have lRL:RL.length<=16:=by
    have:=congrArg List.length eRL
    rw [lM,List.length_take] at this
    omega
   have rw7:=hrw.same (sk T7.but)
   refine⟨_,rfl,rw,rfl,.inl ⟨_,.inl rw7.dict⟩,_,rfl,iZ,fun u nu=>?_⟩
   have tu:=aB (o:=.lst []) nu
   have xu:upd H' u (.lst []) u=some (.lst []):=az
   generalize upd H' u (.lst [])=H8 at tu xu ⊢
   have rw8:=rw7.same tu
   refine⟨_,dM.k (k:=Sum.inr p.name) rw8.dict,?_⟩
   obtain⟨y,ey,hy⟩:∃y:Addr,(bY (f9 RW) (Sum.inr p.name)).getD (V.ref u)=.ref y/\H8 y=some (.lst ((wI RW p.name).map V.int)):=by
    rcases rw8.get p.name with ⟨e1,e2⟩ | ⟨a,e1,e2,_⟩
    ·rw [e1,e2]
     exact⟨u,rfl,xu⟩
    ·rw [e1]
     exact⟨a,rfl,e2⟩
   refine⟨y,(wI RW p.name).map V.int,by rw [ey],.inl (bH.of hy),fun r nr=>?_⟩
   have T9:Tr H f ((f,.ins t.b7 dx (aJ "rows" (.ref Rw) (aJ "done" (.ref D) (aJ "kept" (.ref Kp) (aJ "gone" (.ref G) (aJ "ever" (.ref E) (aJ "net" (.ref n) []))))))):: (E,.dK (bL EL)):: (G,.dK (dj (fun _=>0) ls)):: (Kp,.dK (b8 (gq ps) ps)):: (D,.dK (b8 (fun _=>0) ps)):: (Rw,.dK (RL.map fun q=>((Sum.inr q.1.name:Key),V.ref q.2))):: (d,.lst ((jF ps).map fun p=>V.str p.name)):: (jZ EL ++ Kr RW (RL ++ [(p,r)]))) (upd H8 r (.lst ((wI RW p.name).map V.int))):=by
    unfold Kr
    rw [List.map_append,<-List.append_assoc]
    exact(T7.same tu).new nr
   generalize upd H8 r (.lst ((wI RW p.name).map V.int))=H9 at T9 ⊢
   refine⟨_,rfl,f,_,dx,_,_,rfl,T9.all (f,_) (.head _),T.aQ.c,T.aQ.na.2.2.2.2.2.1,(by (repeat first | (rw [aC,if_pos rfl];done) | rw [aC,if_neg (by decide +kernel)])),_,rfl,Rw,_,rfl,n6.k (k:=Sum.inr p.name) (T9.all (Rw,.dK (RL.map fun q=>((Sum.inr q.1.name:Key),V.ref q.2))) (by simp)) (by rw [lM];omega),?_⟩
   rw [jt _ vR]
   refine⟨⟨_,rfl⟩,RL ++ [(p,r)],by rw [List.map_append,eRL,tk];rfl,?_⟩
   rw [List.map_append]
   exact T9.put (L1:=[_,_,_,_,_])
  rintro σ HH ⟨⟨v5,rfl⟩,RL,eRL,TH⟩
  rw [lM,List.take_length] at eRL
  have eo:=TH.all (f,.ins t.b7 dx (aJ "rows" (.ref Rw) (aJ "done" (.ref D) (aJ "kept" (.ref Kp) (aJ "gone" (.ref G) (aJ "ever" (.ref E) (aJ "net" (.ref n) []))))))) (.head _)
  have nod:=TH.nod
  have fre:=TH.fre
  have nE:(EL.map fun q=>q.1.name).Nodup:=by
   have:(EL.map (·.1)).map (·.name)=EL.map fun q=>q.1.name:=by rw [List.map_map];rfl
   rw [<-this,eEL]
   exact W.fit.whole.nod
  have nR:(RL.map fun q=>q.1.name).Nodup:=by
   have:(RL.map (·.1)).map (·.name)=RL.map fun q=>q.1.name:=by rw [List.map_map];rfl
   rw [<-this,eRL]
   exact ndg
  let A:mJ:=⟨f,n,E,G,Kp,D,Rw,xH (·.name) EL,xH (·.name) RL⟩
  have mE:ls.map (fun l=>A.ea l.name)=EL.map (·.2):=by rw [<-eEL];exact Hj nE
  have mR:(jF ps).map (fun p=>A.ra p.name)=RL.map (·.2):=by rw [<-eRL];exact Hj nR
  have eC:A.cells ls ps=E:: G:: Kp:: D:: Rw:: (EL.map (·.2) ++ RL.map (·.2)):=by unfold mJ.cells;rw [mE,mR]
  have e2:(jZ EL ++ Kr RW RL).map Prod.fst=EL.map (·.2) ++ RL.map (·.2):=by unfold jZ Kr;rw [List.map_append,List.map_map,List.map_map];rfl
  refine k HH A rfl rfl TH.but ⟨⟨dx,_,eo,⟨?_,?_⟩⟩,?_,fun l hl=>?_,TH.all (G,.dK (dj (fun _=>0) ls)) (by simp),TH.all (Kp,.dK (b8 (gq ps) ps)) (by simp),TH.all (D,.dK (b8 (fun _=>0) ps)) (by simp),?_,fun p hp h0=>?_,?_⟩ ?_
  ·intro q hq
   simp only [List.mem_cons,List.not_mem_nil,or_false] at hq
   rcases hq with rfl | rfl | rfl | rfl | rfl | rfl <;> (dsimp only;(repeat first | (rw [aC,if_pos rfl];done) | rw [aC,if_neg (by decide +kernel)]))
  ·intro m hm
   have hne:∀m∈(["holds", "held_now", "gone_by", "row_left", "head", "heads", "lacking", "row_ended", "deed", "do"]:List Str),∀g∈(["rows", "done", "kept", "gone", "ever", "net"]:List Str),¬m=g:=by decide +kernel
   have h:=hne m hm
   rw [aC,if_neg (h _ (by simp)),aC,if_neg (h _ (by simp)),aC,if_neg (h _ (by simp)),aC,if_neg (h _ (by simp)),aC,if_neg (h _ (by simp)),aC,if_neg (h _ (by simp))]
   rfl
  ·have:Ux A.ea ls=bL EL:=by
    unfold Ux bL
    rw [<-eEL,List.map_map]
    refine List.map_congr_left fun q hq=>?_
    show((Sum.inr q.1.name:Key),V.ref (A.ea q.1.name))=_
    rw [show A.ea q.1.name=q.2 from pR nE hq]
   rw [this]
   exact TH.all (E,.dK (bL EL)) (by simp)
  ·rw [<-eEL] at hl
   obtain⟨q,hq,rfl⟩:=List.mem_map.mp hl
   rw [show A.ea q.1.name=q.2 from pR nE hq]
   have hm:q.1∈ls:=by rw [<-eEL];exact List.mem_map.mpr ⟨q,hq,rfl⟩
   show HH q.2=some (.lst ((Om ls q.1.name).map V.int))
   rw [Ep W.fit.whole.nod hm]
   exact TH.all (q.2,.lst (q.1.first.map V.int)) (GQ (List.mem_append.mpr (.inl (List.mem_map.mpr ⟨q,hq,rfl⟩))))
  ·have:El A.ra ps=RL.map fun q=>((Sum.inr q.1.name:Key),V.ref q.2):=by
    unfold El
    rw [<-eRL,List.map_map]
    refine List.map_congr_left fun q hq=>?_
    show((Sum.inr q.1.name:Key),V.ref (A.ra q.1.name))=_
    rw [show A.ra q.1.name=q.2 from pR nR hq]
   rw [this]
   exact TH.all (Rw,.dK (RL.map fun q=>((Sum.inr q.1.name:Key),V.ref q.2))) (by simp)
  ·have hm:p∈RL.map (·.1):=by rw [eRL];exact List.mem_filter.mpr ⟨hp,by simp [h0]⟩
   obtain⟨q,hq,rfl⟩:=List.mem_map.mp hm
   rw [show A.ra q.1.name=q.2 from pR nR hq]
   exact TH.all (q.2,.lst ((wI RW q.1.name).map V.int)) (GQ (List.mem_append.mpr (.inr (List.mem_map.mpr ⟨q,hq,rfl⟩))))
  ·rw [eC,<-e2]
   exact nod.sublist (List.Sublist.cons _ (.cons₂ _ (.cons₂ _ (.cons₂ _ (.cons₂ _ (.cons₂ _ (.cons _ (List.Sublist.refl _))))))))
  ·intro a ha
   rw [eC,<-e2] at ha
   have h2:a∈(((E,.dK (bL EL)):: (G,.dK (dj (fun _=>0) ls)):: (Kp,.dK (b8 (gq ps) ps)):: (D,.dK (b8 (fun _=>0) ps)):: (Rw,.dK (RL.map fun q=>((Sum.inr q.1.name:Key),V.ref q.2))):: (d,.lst ((jF ps).map fun p=>V.str p.name)):: (jZ EL ++ Kr RW RL):List (Addr×HO))).map Prod.fst:=
    (List.Sublist.cons₂ E (.cons₂ G (.cons₂ Kp (.cons₂ D (.cons₂ Rw (.cons d (List.Sublist.refl _))))))).subset ha
   have hne:a≠f:=fun z=>by
    rw [List.map_cons,List.nodup_cons] at nod
    exact nod.1 (by rw [<-z];exact h2)
   obtain⟨q,hq,hqa⟩:=List.mem_map.mp h2
   have:=fre q (List.mem_cons_of_mem _ hq)
   rw [hqa] at this
   exact this.resolve_left hne
theorem Qi {α:Type} {p:α->Bool} {xs:List α} {j:Nat} {x:α} (h:(xs.take j).find? p=none) (hx:xs[j]?=some x):if p x=true then xs.find? p=some x else(xs.take (j+1)).find? p=none:=by
 split
 ·rename_i e
  have hj:=(List.getElem?_eq_some_iff.mp hx)
  have e2:xs=xs.take j ++ x:: xs.drop (j+1):=by
   rw [<-hj.2,<-List.drop_eq_getElem_cons hj.1,List.take_append_drop]
  rw [e2,List.find?_append,h,List.find?_cons_of_pos e]
  rfl
 ·rename_i e
  rw [List.take_succ,hx,Option.toList_some,List.find?_append,h,List.find?_cons_of_neg e]
  rfl
noncomputable def roomF (ls:List aH) (x:Str):Int:=((ls.find? fun l=>decide (l.name=x)).map (·.room)).getD 0
theorem Ru {ls:List aH} (nd:(ls.map (·.name)).Nodup) {l:aH} (hl:l∈ls):roomF ls l.name=l.room:=by
 unfold roomF
 rw [find_name nd hl]
 rfl
noncomputable def tQ (ls:List aH) (S:FS) (q:Str×Int):Bool:=decide (roomF ls q.1<=((S.ev q.1).length:Int) - (S.g q.1:Int))
noncomputable def yV (ls:List aH) (S:FS) (dd:mF):V:=match dd.gv.find? (tQ ls S) with
 | some q=>.str q.1
 | none=>.non
inductive rF (K:PySem.W.Frag) (t:jd) (vs:List V) (H:Hp) (Q:VK) (E:XK):Prop where
 | mk:∀(r:Addr) (n:Nat) (A:mJ) (ls:List aH) (ps:List PD) (S:FS) (M:List Addr) (U:Addr) (dd:mF),vs=[.ref r,.ref U]->lC t H r A.n A.f n->fY K t H A.n ls ps->dI K t H A ls ps S->mV M H U dd->((∀q∈dd.gv,q.1∈ls.map (·.name)))->(∀H',aK H H'->Q (yV ls S dd) H')->rF K t vs H Q E
theorem rB (T:Txt w K mg t):FO P w K mg base 4 t.mq ["self", "deed"] (rF K t):=by
 have sc:=T.jx.sc ["self", "deed", "lane", "value"]
 refine T.jx.F.ok sc ln (fun _ _ _ _ H vs Q E hr h=>?_)
 obtain⟨r,n,A,ls,ps,S,M,U,dd,rfl,hR,N,W,⟨La,Lg,rs,hU,_,hLg,hT,_,_⟩,hout,k⟩:=h
 refine⟨_,(ao (dq PassesOwn.never rfl (bT (aR cj (pv 1) aq (fun _ _=>rfl))) (Dv rfl (il (gN sc 2) (il (gN sc 3) vZ)))
   (aA (bO (aZ ZC (vJ (aY (pv 0) rfl) T.aQ T.aQ.me.2.1 (wY T) T.m5 hr (aa (pv 2) ak aj)) (vJ (aY (pv 0) rfl) T.aU T.aU.me.2.2.2.2.2.2.2.1 (Dc T) T.rm hr (aa (pv 2) ak aj)) (bF _))
    (aA (aO (pv 2)))
    bu)))
  (aA (aO uf))),?_⟩
 have hl:sizeLine=16777216:=sizeLine_eq
 have hlr:rs.length=dd.gv.length:=by have:=Paired.length hT;rw [lM] at this;exact this
 refine⟨_,rfl,U,_,1,_,rfl,rfl,fH.of hU,aN (j:=1) rfl,Lg,rfl,⟨_,bH.of hLg⟩,dD (K:=K) (a:=Lg) (xs:=rs.map V.ref) (fun j σ H'=>aK H H'/\(∃v2 v3,σ=[some (.ref r),some (.ref U),v2,v3])/\(dd.gv.take j).find? (tQ ls S)=none) ⟨aK.refl _,⟨_,_,rfl⟩,rfl⟩ (fun j σ H' _ h=>bH.of (h.1 _ _ hLg)) ?_ ?_⟩
 ·rintro j x σ H1 hx ⟨s1,⟨v2,v3,rfl⟩,hf⟩
  rw [List.getElem?_map] at hx
  obtain⟨u,hu,rfl⟩:=Option.map_eq_some_iff.mp hx
  obtain⟨vs2,z1,z2⟩:=lQ hT hu
  rw [List.getElem?_map] at z1
  obtain⟨w,ew,rfl⟩:=Option.map_eq_some_iff.mp z1
  have ft:=Qi hf ew
  obtain⟨dxn,fsn,R,F0,Pd,Gn,Tk,FL,PL,Wn⟩:=N.same s1
  have F:=Wn.fit
  obtain⟨dxr,fsr,R1⟩:=hR.same s1
  have W1:=W.same s1
  obtain⟨dx,fs,h1,h2⟩:=id W1.at'.ex
  obtain⟨l,hl',hln⟩:=List.mem_map.mp (hout w (List.mem_of_getElem? ew))
  have va:=yQ (ea:=A.ea) F.whole.nod hl'
  have vg:=rR (g:=S.g) F.whole.nod hl'
  have fb:tQ ls S w=decide (l.room<=((S.ev l.name).length:Int) - (S.g l.name:Int)):=by unfold tQ;rw [<-hln,Ru F.whole.nod hl']
  rw [hln] at va vg
  refine⟨u,_,rfl,fH.of (s1 _ _ z2),rfl,_,_,rfl,_,_,rfl,rfl,?_⟩
  refine⟨_,rfl,r,_,dxr,fsr,_,rfl,R1.1.1,T.bN.c,T.bN.na.2.1,R1.2.has ("flow",.ref A.f) (by simp),A.f,dx,fs,rfl,h1,h2.no _ (by decide +kernel),_,rfl,A.f,A.n,A.E,A.G,A.Kp,A.D,A.Rw,A.ea w.1,_,_,w.1,_,S.g w.1,rfl,W1.at',W1.ever,W1.gone,va,vg,bH.of (by rw [<-hln];exact W1.lists l hl'),?_⟩
  refine⟨_,rfl,r,_,dxr,fsr,_,rfl,R1.1.1,T.bN.c,T.bN.na.1,R1.2.has ("net",.ref A.n) (by simp),A.n,dxn,fsn,rfl,Wn.obj,Wn.fl.no _ (by decide +kernel),_,rfl,A.n,ls,ps,w.1,rfl,Wn.s,.inl ⟨l,hl',hln,fun H2 s2=>?_⟩⟩
  refine⟨_,_,rfl,rfl,_,rfl,?_⟩
  have e2:decide (l.room<=((((S.ev l.name).map V.int).length:Nat):Int) - ((S.g w.1:Nat):Int))=tQ ls S w:=by rw [fb,lM,hln]
  rw [e2]
  cases hb:tQ ls S w with
  | true=>
   rw [if_pos hb] at ft
   refine gh ⟨_,rfl,?_⟩
   have k':=k H2 (s1.trans s2)
   unfold yV at k'
   rw [ft] at k'
   exact k'
  | false=>
   rw [if_neg (by simp [hb])] at ft
   exact cB ⟨s1.trans s2,⟨_,_,rfl⟩,ft⟩
 rintro σ H1 ⟨s1,⟨v2,v3,rfl⟩,hf⟩
 rw [lM,hlr,List.take_length] at hf
 have k':=k H1 s1
 unfold yV at k'
 rw [hf] at k'
 exact k'
theorem Oe {H:Hp} {Q:VK} {Ex:XK} {b:Nat} {A:mJ} {ls:List aH} {ps:List PD} {S:FS} {p:PD} (N:fY K t H A.n ls ps) (W:dI K t H A ls ps S) (hp:p∈ps) (O:DR b ls ps S) (kn:jw S p=none->∀H',aK H H'->Q .non H')
  (k:∀dd,jw S p=some dd->∀H' U,aK H H'->H U=none->mV (A.cells ls ps) H' U dd->Q (.ref U) H'):jM K t [.ref A.f,.str p.name] H Q Ex:=by
 unfold jM
 exact⟨b,A,ls,ps,S,p,rfl,N,W,hp,O,kn,k⟩
noncomputable def fj (ls:List aH) (S:FS) (p:PD):Option mF:=match jw S p with
 | none=>none
 | some dd=>if yV ls S dd=.non then some dd else none
theorem xU {S:FS} {p:PD} {dd:mF} (h:jw S p=some dd):dU p.kind p.ins (bz S p)=.non/\ue S p=false/\dd=⟨(places p.kind (bz S p)).map (strAt p.ins),(cY p.kind p.nums (CJ S p) (S.k p.name)).map fun pv=>(strAt p.outs pv.1.toNat,pv.2),gf p.kind (CJ S p) (S.k p.name)⟩:=by
 unfold jw at h
 split at h
 ·cases h
 ·rename_i h1
  split at h
  ·cases h
  ·rename_i h2
   exact⟨Classical.not_not.mp h1,by simpa using h2,(Option.some.inj h).symm⟩
theorem G3 {xs:List Str} {q:Nat} (h:q <xs.length):strAt xs q∈xs:=by unfold strAt;rw [List.getElem?_eq_getElem h];exact List.getElem_mem h
theorem Lj {xs:List Str} {q:Nat} (h:q <xs.length):strAt xs q=xs[q]:=by unfold strAt;rw [List.getElem?_eq_getElem h];rfl
theorem Qm {i:Nat} {hs:List V}:(places i hs).Nodup:=by
 unfold places
 split
 ·split
  ·rename_i n _
   have h0:=Int.emod_nonneg n (show(2:Int)≠0 by decide)
   simp
   omega
  ·simp
 ·exact List.nodup_range
theorem Ve {xs:List Str} (nd:xs.Nodup) {l:List Nat} (hl:l.Nodup) (h:∀q∈l,q <xs.length):(l.map (strAt xs)).Nodup:=by
 unfold List.Nodup at hl ⊢
 rw [List.pairwise_map]
 refine hl.imp_of_mem fun {a b} ha hb hne e=>hne ?_
 rw [Lj (h a ha),Lj (h b hb)] at e
 exact(List.getElem_inj nd).mp e
theorem Qa {f:PD->List Str}:∀{ps:List PD},(ps.flatMap f).Nodup->∀{p:PD},p∈ps->(f p).Nodup
 | q:: r,nd,p,hp=>by
  rw [List.flatMap_cons,List.nodup_append] at nd
  rcases List.mem_cons.mp hp with h | h
  ·rw [h];exact nd.1
  ·exact Qa nd.2.1 h
theorem vN {ls:List aH} {ps:List PD} {S:FS} (F:Cd ls ps) {p:PD} (hp:p∈ps) {dd:mF} (h:jw S p=some dd):IK ls dd:=by
 obtain⟨hl,he,rfl⟩:=xU h
 have ok:=F.pok p hp
 have hO:=uU S p ok
 have hlt:∀q∈places p.kind (bz S p),q <p.ins.length:=fun q hq=>by
  have:=j5 hO q hq
  unfold bz at this
  rwa [lM] at this
 have inL:∀x∈p.ins ++ p.outs,x∈ls.map (·.name):=fun x hx=>by
  obtain⟨l,hl,rfl⟩:=F.inL hp hx
  exact List.mem_map.mpr ⟨l,hl,rfl⟩
 refine⟨?_,fun x hx=>?_,fun q hq=>?_,?_⟩
 ·exact Ve (Qa (F.whole.ins.nodup_iff.mpr F.whole.nod) hp) Qm hlt
 ·obtain⟨q,hq,rfl⟩:=List.mem_map.mp hx
  exact inL _ (List.mem_append.mpr (.inl (G3 (hlt q hq))))
 ·obtain⟨pv,hpv,rfl⟩:=List.mem_map.mp hq
  obtain⟨o,ho1,ho2⟩:=Pr (show p.kind<=10 by have:=ok.1;omega) _ _ _ _ hpv
  refine inL _ (List.mem_append.mpr (.inr (G3 ?_)))
  rw [ho1,Int.toNat_natCast,ok.2.2.2.1]
  exact ho2
 ·show(List.map _ _).length<=2
  rw [lM]
  exact Ke ..
inductive qb (K:PySem.W.Frag) (t:jd) (vs:List V) (H:Hp) (Q:VK):Prop where
 | mk:∀(b:Nat) (r:Addr) (n:Nat) (A:mJ) (ls:List aH) (ps:List PD) (S:FS) (p:PD),vs=[.ref r,.str p.name]->lC t H r A.n A.f n->fY K t H A.n ls ps->dI K t H A ls ps S->DR b ls ps S->p∈ps->((fj ls S p=none->∀H',aK H H'->Q .non H'))->(∀dd,fj ls S p=some dd->∀H' U,aK H H'->H U=none->mV (A.cells ls ps) H' U dd->Q (.ref U) H')->qb K t vs H Q
@[irreducible] noncomputable def gA (K:PySem.W.Frag) (t:jd):Sp:=fun vs H Q _=>qb K t vs H Q
theorem rP (T:Txt w K mg t):FO P w K mg base 6 t.mH ["self", "name"] (gA K t):=by
 have sc:=T.jC.sc ["self", "name", "deed"]
 refine T.jC.F.ok sc (fun vs H Q E h=>?_) (fun cdv A outer s H vs Q E hr h=>?_)
 ·unfold gA at h
  obtain⟨b,r,n,A,ls,ps,S,p,rfl,_⟩:=h
  rfl
 ·unfold gA at h
  obtain⟨b,r,n,A,ls,ps,S,p,rfl,hR,N,W,O,hp,kn,k⟩:=h
  refine⟨_,(ao (sN sc 2 (vJ (aY (pv 0) rfl) T.aQ T.aQ.me.2.2.2.2.2.2.2.1 (zb T) T.qj hr (aa (pv 1) ak aj)))
   (aA (aO (pC (PW.pt (vp (gY (zR (pv 2))) (oJ (gY (vW (vJ (pv 0) T.bN T.bN.me.2.1 (rB T) T.jx hr (aa (pv 2) ak aj))))))) uf (pv 2))))),?_⟩
  obtain⟨dxr,fsr,R0⟩:=id hR
  obtain⟨dx,fs,h1,h2⟩:=id W.at'.ex
  have F:Cd ls ps:=by obtain⟨_,_,_,_,_,_,_,_,_,Wn⟩:=N;exact Wn.fit
  refine⟨_,rfl,r,_,dxr,fsr,_,rfl,R0.1.1,T.bN.c,T.bN.na.2.1,R0.2.has ("flow",.ref A.f) (by simp),A.f,dx,fs,rfl,h1,h2.no _ (by decide +kernel),_,rfl,?_⟩
  refine Oe N W hp O (fun hd H1 s1=>?_) (fun dd hd H1 U s1 nU DA=>?_)
  ·exact⟨_,rfl,_,rfl,gh (gh (kn (by unfold fj;rw [hd]) _ s1))⟩
  ·obtain⟨dxr,fsr,R1⟩:=hR.same s1
   have nx:fj ls S p=if yV ls S dd=.non then some dd else none:=by unfold fj;rw [hd]
   refine⟨_,rfl,_,rfl,cB ?_⟩
   refine⟨_,rfl,r,dxr,fsr,rfl,R1.1.1,R1.2.no _ (by decide +kernel),_,rfl,r,n,A,ls,ps,S,_,U,dd,rfl,⟨dxr,fsr,R1⟩,N.same s1,W.same s1,DA,(vN F hp hd).gin,fun H2 s2=>?_⟩
   by_cases hf:yV ls S dd=.non
   ·rw [hf]
    exact⟨_,rfl,cB ⟨_,rfl,k dd (by rw [nx,if_pos hf]) H2 U (s1.trans s2) nU (DA.same s2)⟩⟩
   ·rw [decide_eq_false hf]
    exact⟨_,rfl,gh (kn (by rw [nx,if_neg hf]) H2 (s1.trans s2))⟩
theorem OJ {H:Hp} {Q:VK} {Ex:XK} {b:Nat} {r:Addr} {n:Nat} {A:mJ} {ls:List aH} {ps:List PD} {S:FS} {p:PD} (hR:lC t H r A.n A.f n) (N:fY K t H A.n ls ps) (W:dI K t H A ls ps S) (O:DR b ls ps S) (hp:p∈ps) (kn:fj ls S p=none->∀H',aK H H'->Q .non H')
  (k:∀dd,fj ls S p=some dd->∀H' U,aK H H'->H U=none->mV (A.cells ls ps) H' U dd->Q (.ref U) H'):gA K t [.ref r,.str p.name] H Q Ex:=by
 unfold gA
 exact⟨b,r,n,A,ls,ps,S,p,rfl,hR,N,W,O,hp,kn,k⟩
inductive tM (K:PySem.W.Frag) (t:jd) (vs:List V) (H:Hp) (Q:VK) (E:XK):Prop where
 | mk:∀(b:Nat) (r:Addr) (n:Nat) (A:mJ) (ls:List aH) (ps:List PD) (S:FS) (p:PD),vs=[.ref r,.str p.name]->lC t H r A.n A.f n->fY K t H A.n ls ps->dI K t H A ls ps S->DR b ls ps S->p∈ps->(∀H',aK H H'->Q (.bl (fj ls S p).isSome) H')->tM K t vs H Q E
theorem BV (T:Txt w K mg t):FO P w K mg base 7 t.ph ["self", "name"] (tM K t):=by
 have sc:=T.oM.sc ["self", "name"]
 refine T.oM.F.ok sc ln (fun _ _ _ _ H vs Q E hr h=>?_)
 obtain⟨b,r,n,A,ls,ps,S,p,rfl,hR,N,W,O,hp,k⟩:=h
 refine⟨_,(aA (aO (Eh (vW (vJ (pv 0) T.bN T.bN.me.2.2.1 (rP T) T.jC hr (aa (pv 1) ak aj)))))),?_⟩
 obtain⟨dxr,fsr,R0⟩:=id hR
 refine⟨_,rfl,r,dxr,fsr,rfl,R0.1.1,R0.2.no _ (by decide +kernel),_,rfl,?_⟩
 refine OJ hR N W O hp (fun hd H1 s1=>?_) (fun dd hd H1 U s1 nU DA=>?_)
 ·have:=k H1 s1
  rw [hd] at this
  exact this
 ·have:=k H1 s1
  rw [hd] at this
  exact this
inductive tR (K:PySem.W.Frag) (t:jd) (vs:List V) (H:Hp) (Q:VK) (E:XK):Prop where
 | mk:∀(r:Addr) (n:Nat) (A:mJ) (ls:List aH) (ps:List PD) (S:FS) (l:aH),vs=[.ref r,.str l.name]->lC t H r A.n A.f n->fY K t H A.n ls ps->dI K t H A ls ps S->l∈ls->(∀H' p,aK H H'->H p=none->H' p=some (.lst (((S.ev l.name).drop (S.g l.name)).map V.int))->Q (.ref p) H')->tR K t vs H Q E
theorem BW (T:Txt w K mg t):FO P w K mg base 3 t.o7 ["self", "name"] (tR K t):=by
 have sc:=T.pF.sc ["self", "name"]
 refine T.pF.F.ok sc ln (fun _ _ _ _ H vs Q E hr h=>?_)
 obtain⟨r,n,A,ls,ps,S,l,rfl,hR,N,W,hl,k⟩:=h
 refine⟨_,(ao (bI (vJ (aY (pv 0) rfl) T.aU T.aU.me.2.2.2.2.2.2.1 (dZ T) T.cD hr (aa (pv 1) ak aj)))
  (aA (aO (vJ (aY (pv 0) rfl) T.aQ T.aQ.me.2.2.1 (z7 T) T.mK hr (aa (pv 1) ak aj))))),?_⟩
 obtain⟨dxn,fsn,R,F0,Pd,Gn,Tk,FL,PL,Wn⟩:=id N
 obtain⟨dxr,fsr,R0⟩:=id hR
 refine⟨_,rfl,r,_,dxr,fsr,_,rfl,R0.1.1,T.bN.c,T.bN.na.1,R0.2.has ("net",.ref A.n) (by simp),A.n,dxn,fsn,rfl,Wn.obj,Wn.fl.no _ (by decide +kernel),_,rfl,A.n,ls,ps,l.name,rfl,N,.inl ⟨List.mem_map.mpr ⟨l,hl,rfl⟩,fun H1 s1=>?_⟩⟩
 obtain⟨dxr,fsr,R1⟩:=hR.same s1
 have W1:=W.same s1
 obtain⟨dx,fs,h1,h2⟩:=id W1.at'.ex
 refine⟨_,rfl,r,_,dxr,fsr,_,rfl,R1.1.1,T.bN.c,T.bN.na.2.1,R1.2.has ("flow",.ref A.f) (by simp),A.f,dx,fs,rfl,h1,h2.no _ (by decide +kernel),_,rfl,A.f,A.n,A.E,A.G,A.Kp,A.D,A.Rw,A.ea l.name,_,_,l.name,_,_,rfl,W1.at',W1.ever,W1.gone,yQ Wn.fit.whole.nod hl,rR Wn.fit.whole.nod hl,bH.of (W1.lists l hl),fun p hp=>?_⟩
 rw [<-List.map_drop]
 exact k _ p (s1.trans (aB hp)) (s1.free hp) az
theorem RK {x:V} {xs:List V} (h:x∈xs) (f:Mf x x=true):inV x xs=true:=List.any_eq_true.mpr ⟨x,h,f⟩
inductive qg (K:PySem.W.Frag) (t:jd) (vs:List V) (H:Hp) (Q:VK) (E:XK):Prop where
 | mk:∀(r:Addr) (n:Nat) (A:mJ) (ls:List aH) (ps:List PD) (S:FS) (L:Addr) (xs:List Str),vs=[.ref r,.ref L]->lC t H r A.n A.f n->fY K t H A.n ls ps->dI K t H A ls ps S->bH K H L (xs.map V.str)->((∀x∈xs,V.str x∈dX ps "give" ++ dX ps "take"))->(∀H',aK H H'->Q .non H')->qg K t vs H Q E
theorem yd (T:Txt w K mg t):FO P w K mg base 4 t.j9 ["self", "names"] (qg K t):=by
 have sc:=T.j7.sc ["self", "names", "doors", "name"]
 refine T.j7.F.ok sc ln (fun _ _ _ _ H vs Q E hr h=>?_)
 obtain⟨r,n,A,ls,ps,S,L,xs,rfl,hR,N,W,hL,hx,k⟩:=h
 refine⟨_,(ao (sN sc 2 (bc NK (Nh (aY (pv 0) rfl) T.aU T.aU.me.2.2.2.2.1 (mW T) T.jK hr) (Nh (aY (pv 0) rfl) T.aU T.aU.me.2.2.2.2.2.1 (Je T) T.uQ hr)))
  (aA (dq PassesOwn.never rfl (bT (pv 1)) (gN sc 3)
   (aA (bO (aZ jf (pv 3) (pv 2) (by with_unfolding_all rfl))
    (aA dW)
    bu))))),?_⟩
 have hz:sizeLine=16777216:=sizeLine_eq
 obtain⟨dxn,fsn,R,F0,Pd,Gn,Tk,FL,PL,Wn⟩:=id N
 have p16:=Wn.fit.p16
 obtain⟨dxr,fsr,R0⟩:=id hR
 have g1:=zE ps "give"
 have g2:=zE ps "take"
 refine⟨_,rfl,r,_,dxr,fsr,_,rfl,R0.1.1,T.bN.c,T.bN.na.1,R0.2.has ("net",.ref A.n) (by simp),A.n,dxn,fsn,rfl,Wn.obj,Wn.fl.no _ (by decide +kernel),A.n,ls,ps,rfl,N,fun l nl=>?_⟩
 have s1:=aB (o:=.lst (dX ps "give")) nl
 obtain⟨dxr,fsr,R1⟩:=hR.same s1
 have Wn1:=Wn.same s1
 refine⟨_,rfl,r,_,dxr,fsr,_,rfl,R1.1.1,T.bN.c,T.bN.na.1,R1.2.has ("net",.ref A.n) (by simp),A.n,dxn,fsn,rfl,Wn1.obj,Wn1.fl.no _ (by decide +kernel),A.n,ls,ps,rfl,Wn1.s,fun l2 nl2=>?_⟩
 have s2:=aB (o:=.lst (dX ps "take")) nl2
 have e1:=s2 _ _ (az (H:=H) (a:=l) (o:=.lst (dX ps "give")))
 refine⟨l,l2,_,_,rfl,rfl,e1,az,by omega,fun l3 nl3=>?_⟩
 have s13:=s1.trans (s2.trans (aB (o:=.lst (dX ps "give" ++ dX ps "take")) nl3))
 have e3:upd (upd (upd H l (.lst (dX ps "give"))) l2 (.lst (dX ps "take"))) l3 (.lst (dX ps "give" ++ dX ps "take")) l3=some (.lst (dX ps "give" ++ dX ps "take")):=az
 generalize upd (upd (upd H l (.lst (dX ps "give"))) l2 (.lst (dX ps "take"))) l3 (.lst (dX ps "give" ++ dX ps "take"))=H3 at s13 e3 ⊢
 have fl:(dX ps "give" ++ dX ps "take").all mU=true:=by
  rw [List.all_eq_true]
  intro v hv
  rcases List.mem_append.mp hv with h | h <;> (obtain⟨p,_,rfl⟩:=List.mem_map.mp h;rfl)
 refine⟨_,rfl,L,rfl,⟨_,s13.seq hL⟩,dD (K:=K) (a:=L) (xs:=xs.map V.str) (fun j σ H'=>H'=H3/\∃v3,σ=[some (.ref r),some (.ref L),some (.ref l3),v3]) ⟨rfl,none,rfl⟩ (fun j σ H' _ ⟨e,_⟩=>by rw [e];exact s13.seq hL) ?_ ?_⟩
 ·rintro j x σ H' hx' ⟨rfl,v3,rfl⟩
  rw [List.getElem?_map] at hx'
  obtain⟨y,hy,rfl⟩:=Option.map_eq_some_iff.mp hx'
  refine⟨_,rfl,_,rfl,l3,_,rfl,.inl (bH.of e3),rfl,fl,_,rfl,?_⟩
  rw [RK (hx y (List.mem_of_getElem? hy)) (by simp [Mf])]
  exact cB ⟨rfl,_,rfl⟩
 ·rintro σ H' ⟨rfl,v3,rfl⟩
  exact k _ s13
theorem U5 (y:Str) (xs:List Str):inV (.str y) (xs.map V.str)=decide (y∈xs):=by
 rw [Bool.eq_iff_iff,decide_eq_true_iff]
 unfold inV
 rw [List.any_eq_true]
 constructor
 ·rintro⟨v,hv,e⟩
  obtain⟨z,hz,rfl⟩:=List.mem_map.mp hv
  have:z=y:=by simpa [Mf] using e
  rw [<-this];exact hz
 ·intro h
  exact⟨.str y,List.mem_map.mpr ⟨y,h,rfl⟩,by simp [Mf]⟩
noncomputable def qw (xs:List Str) (p:PD):Bool:=!decide (p.name∈xs)
noncomputable def pW (ls:List aH) (ps:List PD) (S:FS) (xs:List Str):List (PD×mF):=(ps.filter (qw xs)).filterMap fun p=>(fj ls S p).map fun dd=>(p,dd)
noncomputable def lD (S:FS) (ws:List (PD×mF)):FS:=ws.foldl (fun S w=>Gg S w.1.name w.2) S
noncomputable def rD (ls:List aH) (ps:List PD) (S:FS) (xs:List Str):FS:=lD S (pW ls ps S xs)
theorem Mj (S:FS) (ws:List (PD×mF)) (w:PD×mF):lD S (ws ++ [w])=Gg (lD S ws) w.1.name w.2:=by unfold lD;rw [List.foldl_append];rfl
theorem Ad {S:FS} {b:Nat} {x:Str}:∀{ws:List (PD×mF)},(S.ev x).length<=b->(∀w∈ws,w.2.gv.length<=2)->((lD S ws).ev x).length<=b+2 * ws.length
 | [],h,_=>by simpa [lD] using h
 | w:: r,h,g=>by
  have h1:=g w List.mem_cons_self
  have h2:((Gg S w.1.name w.2).ev x).length<=b+2:=by
   unfold Gg
   rw [lP,lM]
   have:=List.length_filter_le (fun q:Str×Int=>decide (q.1=x)) w.2.gv
   omega
  have h3:=Ad (S:=Gg S w.1.name w.2) (ws:=r) h2 (fun w' hw=>g w' (List.mem_cons_of_mem _ hw))
  show((lD (Gg S w.1.name w.2) r).ev x).length<=_
  rw [List.length_cons]
  omega
theorem Ff {α β:Type} {F:α->β->Prop}:∀{xs:List α} {ys:List β} {j:Nat} {x:α},Paired F xs ys->xs[j]?=some x->∃y,ys[j]?=some y/\F x y
 | _,_,_,_,.nil,e=>by simp at e
 | _,_,0,_,.cons h _,e=>by simp at e;subst e;exact⟨_,rfl,h⟩
 | _,_,j+1,_,.cons _ r,e=>by
  obtain⟨y,h1,h2⟩:=Ff (j:=j) r (by simpa using e)
  exact⟨y,by simpa using h1,h2⟩
theorem Ho {α β:Type} {F:α->β->Prop}:∀{xs:List α} {ys:List β} {y:β},Paired F xs ys->y∈ys->∃x,F x y
 | _,_,_,.nil,e=>by simp at e
 | _,_,_,.cons h r,e=>by
  rcases List.mem_cons.mp e with rfl | e
  ·exact⟨_,h⟩
  ·exact Ho r e
theorem dI.ncell {H:Hp} {A:mJ} {ls:List aH} {ps:List PD} {S:FS} (W:dI K t H A ls ps S) {a:Addr} {u:HO} (h:H a=some u) (h1:∀ks,u≠.dK ks) (h2:∀ks,u≠.lst ks):a∉A.cells ls ps:=by
 intro z
 have no:∀{b:Addr} {v:HO},H b=some v->a=b->u=v:=fun e q=>by rw [<-q,h] at e;exact Option.some.inj e
 unfold mJ.cells at z
 simp only [List.mem_cons,List.mem_append,List.mem_map] at z
 rcases z with z | z | z | z | z | ⟨l,hl,z⟩ | ⟨p,hp,z⟩
 ·exact h1 _ (no W.ever z)
 ·exact h1 _ (no W.gone z)
 ·exact h1 _ (no W.kept z)
 ·exact h1 _ (no W.done z)
 ·exact h1 _ (no W.rows z)
 ·exact h2 _ (no (W.lists l hl) z.symm)
 ·have hf:=List.mem_filter.mp hp
  exact h2 _ (no (W.rlst p hf.1 (by simpa using hf.2)) z.symm)
theorem dI.tupMov {H H':Hp} {A:mJ} {ls:List aH} {ps:List PD} {S:FS} (W:dI K t H A ls ps S) (m:Gq (A.cells ls ps) H H') {a:Addr} {xs:List V} (h:H a=some (.tup xs)):H' a=some (.tup xs):=by
 rw [m a (W.ncell h (by intro _ z;cases z) (by intro _ z;cases z))]
 exact h
theorem mV.mov {H H':Hp} {A:mJ} {ls:List aH} {ps:List PD} {S:FS} {U:Addr} {dd:mF} (h:mV (A.cells ls ps) H U dd) (W:dI K t H A ls ps S) (m:Gq (A.cells ls ps) H H'):mV (A.cells ls ps) H' U dd:=by
 obtain⟨La,Lg,rs,a,b,c,d,e,f⟩:=h
 exact⟨La,Lg,rs,W.tupMov m a,by rw [m La e];exact b,by rw [m Lg f];exact c,Paired.mapP d fun _ _ z=>W.tupMov m z,e,f⟩
theorem lC.mov {H H':Hp} {r a f:Addr} {n:Nat} {M:List Addr} (h:lC t H r a f n) (nr:r∉M) (m:Gq M H H'):lC t H' r a f n:=by
 obtain⟨dx,fs,h1,h2⟩:=h
 exact⟨dx,fs,⟨by rw [m r nr];exact h1.1,h1.2⟩,h2⟩
theorem Zc {H:Hp} {Q:VK} {Ex:XK} {b:Nat} {A:mJ} {ls:List aH} {ps:List PD} {S:FS} {p:PD} {U:Addr} {dd:mF} (F:Cd ls ps) (W:dI K t H A ls ps S) (hp:p∈ps) (hl:∀l∈ls,(S.ev l.name).length<=b) (hb:b<=100000) (d:mV (A.cells ls ps) H U dd) (o:IK ls dd)
  (k:∀H',Gq (A.cells ls ps) H H'->dI K t H' A ls ps (Gg S p.name dd)->Q .non H'):oR K t [.ref A.f,.str p.name,.ref U] H Q Ex:=by
 unfold oR
 exact⟨b,A,ls,ps,S,p,U,dd,rfl,F,W,hp,hl,hb,d,o,k⟩
theorem lC.turned {H:Hp} {r a f:Addr} {n:Nat} {dx:Addr} {fs:List (Str×V)} (h:(H r=some (.ins t.pL dx fs)/\fs.length<=n+3)/\UT ["step", "need_doors", "next_deed", "full_lane", "can_work", "works", "lane_now", "turn", "rows_left"] [("net",.ref a),("flow",.ref f),("turns",.int (n:Nat))] fs):
  lC t (upd H r (.ins t.pL dx (aJ "turns" (.int ((n:Int)+1)) fs))) r a f (n+1):=by
 refine⟨dx,_,⟨az,?_⟩,⟨?_,?_⟩⟩
 ·exact Nat.le_trans (ie h.1.2) (by omega)
 ·intro q hq
  simp only [List.mem_cons,List.not_mem_nil,or_false] at hq
  rcases hq with rfl | rfl | rfl
  ·dsimp only
   rw [aC,if_neg (by decide +kernel)]
   exact h.2.has ("net",.ref a) (by simp)
  ·dsimp only
   rw [aC,if_neg (by decide +kernel)]
   exact h.2.has ("flow",.ref f) (by simp)
  ·dsimp only
   rw [aC,if_pos rfl]
   rfl
 ·intro m hm
  have hne:∀m∈(["step", "need_doors", "next_deed", "full_lane", "can_work", "works", "lane_now", "turn", "rows_left"]:List Str),¬m= "turns" :=by decide +kernel
  rw [aC,if_neg (hne m hm)]
  exact h.2.no m hm
theorem dI.ins {H:Hp} {A:mJ} {ls:List aH} {ps:List PD} {S:FS} (W:dI K t H A ls ps S) {x:Addr} (nx:x∉A.cells ls ps) {o:HO} (nf:x≠A.f):dI K t (upd H x o) A ls ps S:=by
 have st:∀a,a∈A.cells ls ps->upd H x o a=H a:=fun a ha=>aM fun z=>nx (by rw [<-z];exact ha)
 obtain⟨dx,fs,h1,h2⟩:=W.at'.ex
 refine⟨⟨dx,fs,by rw [aM (Ne.symm nf)];exact h1,h2⟩,?_,fun l hl=>?_,?_,?_,?_,?_,fun p hp h0=>?_,W.nod⟩
 ·rw [st _ (by simp [mJ.cells])];exact W.ever
 ·rw [st _ (by unfold mJ.cells;simp only [List.mem_cons,List.mem_append,List.mem_map];exact .inr (.inr (.inr (.inr (.inr (.inl ⟨l,hl,rfl⟩))))))];exact W.lists l hl
 ·rw [st _ (by simp [mJ.cells])];exact W.gone
 ·rw [st _ (by simp [mJ.cells])];exact W.kept
 ·rw [st _ (by simp [mJ.cells])];exact W.done
 ·rw [st _ (by simp [mJ.cells])];exact W.rows
 ·rw [st _ (by unfold mJ.cells;simp only [List.mem_cons,List.mem_append,List.mem_map];exact .inr (.inr (.inr (.inr (.inr (.inr ⟨p,List.mem_filter.mpr ⟨hp,by simp [h0]⟩,rfl⟩))))))];exact W.rlst p hp h0
inductive Ig (M:List Addr) (ls:List aH) (S:FS) (H:Hp) (q:PD×Addr):Prop where
 | mk:∀u,H q.2=some (.tup [.str q.1.name,u])->(((fj ls S q.1=none/\u=.non)∨∃dd U,fj ls S q.1=some dd/\u=.ref U/\mV M H U dd))->Ig M ls S H q
theorem Ig.same {M:List Addr} {ls:List aH} {S:FS} {H H':Hp} {q:PD×Addr} (h:Ig M ls S H q) (s:aK H H'):Ig M ls S H' q:=by
 obtain⟨u,h1,h2⟩:=h
 refine⟨u,s _ _ h1,?_⟩
 rcases h2 with h2 | ⟨dd,U,a,b,c⟩
 ·exact .inl h2
 ·exact .inr ⟨dd,U,a,b,c.same s⟩
theorem Ue {ls:List aH} {S:FS}:∀{qs:List (PD×Addr)},(qs.map (·.1)).filterMap (fun p=>(fj ls S p).map fun dd=>(p,dd))=(qs.filter fun q=>(fj ls S q.1).isSome).filterMap (fun q=>(fj ls S q.1).map fun dd=>(q.1,dd))
 | []=>rfl
 | q:: r=>by
  rw [List.map_cons,List.filterMap_cons,List.filter_cons,Ue (qs:=r)]
  cases h:fj ls S q.1 with
  | none=>simp
  | some dd=>simp [List.filterMap_cons,h]
theorem rT {ls:List aH} {S:FS} {p:PD} {dd:mF} (h:fj ls S p=some dd):jw S p=some dd/\yV ls S dd=.non:=by
 unfold fj at h
 split at h
 ·cases h
 ·rename_i d hd
  split at h
  ·rename_i hf
   cases h
   exact⟨hd,hf⟩
  ·cases h
structure wG (K:PySem.W.Frag) (t:jd) (H:Hp) (r:Addr) (n:Nat) (A:mJ) (ls:List aH) (ps:List PD) (S:FS):Prop where
 run:lC t H r A.n A.f n
 net:fY K t (bA (r:: A.cells ls ps) H) A.n ls ps
 flow:dI K t H A ls ps S
 ne:r≠A.f
theorem wG.netH {H:Hp} {r:Addr} {n:Nat} {A:mJ} {ls:List aH} {ps:List PD} {S:FS} (h:wG K t H r n A ls ps S):fY K t H A.n ls ps:=h.net.same bQ
theorem lC.cell {H:Hp} {r:Addr} {n:Nat} {A:mJ} {ls:List aH} {ps:List PD} {S:FS} {a f:Addr} (hR:lC t H r a f n) (W:dI K t H A ls ps S):r∉A.cells ls ps:=by
 obtain⟨dx,fs,⟨h1,_⟩,_⟩:=hR
 intro z
 have no:∀{b:Addr} {u:HO},H b=some u->(∀C dx fs,u≠.ins C dx fs)->r=b->False:=fun e h q=>by rw [<-q,h1] at e;exact h _ _ _ (Option.some.inj e).symm
 unfold mJ.cells at z
 simp only [List.mem_cons,List.mem_append,List.mem_map] at z
 rcases z with z | z | z | z | z | ⟨l,hl,z⟩ | ⟨p,hp,z⟩
 ·exact no W.ever (by intro _ _ _ z;cases z) z
 ·exact no W.gone (by intro _ _ _ z;cases z) z
 ·exact no W.kept (by intro _ _ _ z;cases z) z
 ·exact no W.done (by intro _ _ _ z;cases z) z
 ·exact no W.rows (by intro _ _ _ z;cases z) z
 ·exact no (W.lists l hl) (by intro _ _ _ z;cases z) z.symm
 ·have hf:=List.mem_filter.mp hp
  exact no (W.rlst p hf.1 (by simpa using hf.2)) (by intro _ _ _ z;cases z) z.symm
theorem X5 {ws:List Int} (h:Ym ws):0<=g0 ws/\g0 ws <1000000000:=by
 unfold g0
 match ws,h with
 | [],_=>exact⟨by decide,by decide⟩
 | w:: r,h=>exact h w List.mem_cons_self
theorem XX {ws:List Int} (h:Ym ws):0<=g1 ws/\g1 ws <1000000000:=by
 unfold g1
 match ws,h with
 | [],_=>exact⟨by decide,by decide⟩
 | [w],_=>exact⟨Int.le_refl 0,by show(0:Int) <1000000000;decide⟩
 | w:: v:: r,h=>exact h v (by simp)
theorem IV (n:Int):0<=n % 1000000000/\n % 1000000000 <1000000000:=⟨Int.emod_nonneg _ (by decide),Int.emod_lt_of_pos _ (by decide)⟩
theorem Ro {i:Nat} (hi:i <11) (ns:List Int) {ws:List Int} (kp:Int) (h:Ym ws):∀pv∈cY i ns ws kp,0<=pv.2/\pv.2 <1000000000:=by
 have a0:=X5 h
 have a1:=XX h
 match i,hi with
 | 0,_=>simp [cY];exact a0
 | 1,_=>simp [cY]
 | 2,_=>simp [cY];exact a0
 | 3,_=>simp [cY];exact a0
 | 4,_=>simp [cY];exact IV _
 | 5,_=>simp [cY];exact IV _
 | 6,_=>simp [cY];exact IV _
 | 7,_=>simp [cY];split <;> decide
 | 8,_=>simp [cY];constructor <;> split <;> omega
 | 9,_=>simp [cY];exact a1
 | 10,_=>simp [cY];exact a1
theorem Ky (x:Str):∀(ws:List (PD×mF)) (S:FS),(lD S ws).ev x=S.ev x ++ ws.flatMap fun w=>(w.2.gv.filter fun q=>decide (q.1=x)).map (·.2)
 | [],S=>by simp [lD]
 | w:: r,S=>by
  show(lD (Gg S w.1.name w.2) r).ev x=_
  rw [Ky x r,List.flatMap_cons,<-List.append_assoc]
  rfl
theorem Cu:∀(ws:List (PD×mF)) (S:FS),(lD S ws).r=S.r
 | [],_=>rfl
 | w:: r,S=>by show(lD (Gg S w.1.name w.2) r).r=_;rw [Cu r];rfl
theorem Pn (x:Str):∀(ws:List (PD×mF)) (S:FS),(lD S ws).d x=S.d x+(ws.filter fun w=>decide (w.1.name=x)).length
 | [],S=>by simp [lD]
 | w:: r,S=>by
  show(lD (Gg S w.1.name w.2) r).d x=_
  rw [Pn x r,List.filter_cons]
  show(if x=w.1.name then S.d x+1 else S.d x)+_=_
  by_cases h:x=w.1.name
  ·rw [if_pos h,if_pos (by simp [h])]
   simp
   omega
  ·rw [if_neg h,if_neg (by simpa using fun e=>h e.symm)]
theorem CN {ls:List aH} {ps:List PD} {S:FS} {xs:List Str} {w:PD×mF} (h:w∈pW ls ps S xs):w.1∈ps/\qw xs w.1=true/\fj ls S w.1=some w.2:=by
 obtain⟨p,hp,e⟩:=List.mem_filterMap.mp h
 obtain⟨dd,hd,rfl⟩:=Option.map_eq_some_iff.mp e
 obtain⟨h1,h2⟩:=List.mem_filter.mp hp
 exact⟨h1,h2,hd⟩
theorem wB {ls:List aH} {S:FS}:∀{qs:List PD},((qs.filterMap fun p=>(fj ls S p).map fun dd=>(p,dd)).map (·.1)).Sublist qs
 | []=>by simp
 | q:: r=>by
  rw [List.filterMap_cons]
  cases fj ls S q with
  | none=>exact wB.cons _
  | some dd=>exact wB.cons₂ _
theorem Xh {ls:List aH} {ps:List PD} {S:FS} {xs:List Str} (nd:(ps.map (·.name)).Nodup):((pW ls ps S xs).map fun w=>w.1.name).Nodup:=by
 have h:((pW ls ps S xs).map (·.1)).Sublist ps:=(wB (qs:=ps.filter (qw xs))).trans List.filter_sublist
 have e:(pW ls ps S xs).map (fun w=>w.1.name)=((pW ls ps S xs).map (·.1)).map (·.name):=by rw [List.map_map];rfl
 rw [e]
 exact nd.sublist (h.map _)
theorem Vr {ls:List aH} {ps:List PD} {S:FS} {xs:List Str}:(pW ls ps S xs).length<=ps.length:=by
 have h:((pW ls ps S xs).map (·.1)).Sublist ps:=(wB (qs:=ps.filter (qw xs))).trans List.filter_sublist
 have:=h.length_le
 rwa [lM] at this
theorem Ua {α:Type} {f:α->Str} {x:Str}:∀{l:List α},(l.map f).Nodup->(l.filter fun a=>decide (f a=x)).length<=1
 | [],_=>by simp
 | a:: r,nd=>by
  rw [List.map_cons,List.nodup_cons] at nd
  rw [List.filter_cons]
  by_cases h:f a=x
  ·rw [if_pos (by simp [h]),List.filter_eq_nil_iff.mpr fun b hb=>by simpa using fun e=>nd.1 (List.mem_map.mpr ⟨b,hb,by rw [e,h]⟩)]
   simp
  ·rw [if_neg (by simp [h])]
   exact Ua nd.2
theorem Ot {b:Nat} {ls:List aH} {ps:List PD} {S:FS} (F:Cd ls ps) (O:DR b ls ps S) (xs:List Str):DR (b+32) ls ps (rD ls ps S xs):=by
 have dk:∀w∈pW ls ps S xs,IK ls w.2:=fun w hw=>vN F (CN hw).1 (rT (CN hw).2.2).1
 refine⟨fun l hl v hv=>?_,fun p hp h0=>?_,fun p hp h0=>?_,fun l hl=>?_,fun p hp h0=>?_⟩
 ·unfold rD at hv
  rw [Ky] at hv
  rcases List.mem_append.mp hv with h | h
  ·exact O.vb l hl v h
  ·obtain⟨w,hw,hv⟩:=List.mem_flatMap.mp h
   obtain⟨q,hq,rfl⟩:=List.mem_map.mp hv
   obtain⟨h1,_,h3⟩:=CN hw
   obtain⟨e1,e2,e3⟩:=xU (rT h3).1
   have hq':=(List.mem_filter.mp hq).1
   rw [e3] at hq'
   obtain⟨pv,hpv,rfl⟩:=List.mem_map.mp hq'
   exact Ro (F.pok _ h1).1 _ _ (Wt F O h1 e1 e2).2.1 pv hpv
 ·unfold rD
  rw [Cu]
  exact O.rb p hp h0
 ·unfold rD
  rw [Cu,Pn]
  have h1:=Ua (x:=p.name) (Xh (ls:=ls) (S:=S) (xs:=xs) F.pnd)
  have h2:=O.dl p hp h0
  by_cases hm:∃w∈pW ls ps S xs,w.1.name=p.name
  ·obtain⟨w,hw,e⟩:=hm
   obtain⟨a1,_,a3⟩:=CN hw
   have ew:w.1=p:=M4 F.pnd a1 hp e
   obtain⟨_,e2,_⟩:=xU (rT a3).1
   rw [ew] at e2
   unfold ue at e2
   simp [h0] at e2
   omega
  ·rw [List.filter_eq_nil_iff.mpr fun w hw=>by simpa using fun e=>hm ⟨w,hw,e⟩]
   simpa using h2
 ·have h1:=Ad (O.len l hl) fun w hw=>(dk w hw).g2
  have h2:=Vr (ls:=ls) (ps:=ps) (S:=S) (xs:=xs)
  have:=F.p16
  unfold rD
  omega
 ·unfold rD
  rw [Cu]
  exact O.rl p hp h0
inductive ye (K:PySem.W.Frag) (t:jd) (vs:List V) (H:Hp) (Q:VK):Prop where
 | mk:∀(b:Nat) (r:Addr) (n:Nat) (A:mJ) (ls:List aH) (ps:List PD) (S:FS) (hd:V) (xs:List Str),vs=[.ref r,hd]->wG K t H r n A ls ps S->DR b ls ps S->b<=90000->n<=900->(((hd=.non/\xs=[])∨∃L,hd=.ref L/\bH K H L (xs.map V.str)/\L∉A.cells ls ps))->((∀x∈xs,V.str x∈dX ps "give" ++ dX ps "take"))->(∀H' p,aK (bA (r:: A.cells ls ps) H) (bA (r:: A.cells ls ps) H')->wG K t H' r (n+1) A ls ps (rD ls ps S xs)->H p=none->H' p=some (.lst ((pW ls ps S xs).map fun w=>V.str w.1.name))->Q (.ref p) H')->ye K t vs H Q
@[irreducible] noncomputable def lE (K:PySem.W.Frag) (t:jd):Sp:=fun vs H Q _=>ye K t vs H Q
noncomputable abbrev sU:List Str:=["self", "held", "back", "deeds", "due", "name", "deed"]
theorem Bt (T:Txt w K mg t):FO P w K mg base 7 t.xW ["self", "held"] (lE K t):=by
 have sc:gm sU ["self", "held"] (aV (inClass (top 70) 1)):=O2
 refine T.pB.F.ok sc (fun vs H Q E h=>?_) (fun cdv A outer s H vs Q E hr h=>?_)
 ·unfold lE at h
  obtain⟨b,r,n,A,ls,ps,S,hd,xs,rfl,_⟩:=h
  rfl
 ·unfold lE at h
  obtain⟨b,r,n,A,ls,ps,S,hd,xs,rfl,⟨hR,Nc,W,nrf⟩,O,hb,hn,hL,hx,k⟩:=h
  refine⟨_,(ao (sN sc 2 (pC (gY (zR (pv 1))) (bB ak) (pv 1)))
   (ao (bI (vJ (pv 0) T.bN T.bN.me.2.2.2.1 (yd T) T.j7 hr (aa (pv 2) ak aj)))
   (ao (jX (i:=3) [0,2] sU (aV (inClass (top 70) 1)) rfl sc.nd rfl (bT (Nh (aY (pv 0) rfl) T.aU T.aU.me.2.2.1 (dH T) T.cJ hr)) (fun _ _ _ _ _=>(vB (aZ (Gu (K:=K) rfl) (pv 0) (pv 2) (by with_unfolding_all rfl)))) (fun _ _ _ _ _=>(cM (aa (pv 0) (aa (vJ (pv 1) T.bN T.bN.me.2.2.1 (rP T) T.jC hr (aa (pv 0) ak aj)) ak bf) aj))))
   (ao (jX (i:=4) [] sU (aV (inClass (top 70) 1)) rfl sc.nd rfl (bT (pv 3)) (fun _ _ _ _ _=>(vB (gY (vW (aR (nQ (K:=K) rfl) (pv 0) aq (fun _ _=>rfl)))))) (fun _ _ _ _ _=>(pv 0)))
   (ao (dq PassesOwn.never rfl (bT (pv 4)) (Dv rfl (il (gN sc 5) (il (gN sc 6) vZ)))
    (aA (bI (vJ (aY (pv 0) rfl) T.aQ T.aQ.me.2.2.2.2.2.2.2.2.1 (M9 T) T.Ab hr (aa (pv 5) (aa (pv 6) ak aj) aj)))))
   (ao (QG (pv 0) aq J4)
   (aA (aO (SM ["name", "deed"] [] sU (aV (inClass (top 70) 1)) rfl (bT (pv 4)) (fun _ _ _ _ _=>Oz (K:=K) (n:=2) rfl rfl (il (wu (i:=0) (show(["name", "deed"]:List Str).Nodup by decide +kernel) rfl (Or.inl rfl) (.inr rfl)) (il (wu (i:=1) (show(["name", "deed"]:List Str).Nodup by decide +kernel) rfl (Or.inl rfl) (.inr rfl)) vZ))) (fun _ _ _ _ _=>gM) (fun _ _ _ _ _=>(pv 0))))))))))),?_⟩
  have hz:sizeLine=16777216:=sizeLine_eq
  rcases hL with ⟨rfl,hxs⟩ | ⟨L,rfl,hL,nL⟩
  refine⟨_,rfl,_,rfl,gh ⟨iZ,fun L nL0=>?_⟩⟩
  have t0:=aB (o:=.lst []) nL0
  have hL:bH K (upd H L (.lst [])) L (xs.map V.str):=by rw [hxs];exact bH.of az
  have nL:L∉A.cells ls ps:=W.cell nL0
  replace k:∀(H':Hp) (p:Addr),aK (bA (r:: A.cells ls ps) (upd H L (.lst []))) (bA (r:: A.cells ls ps) H')->wG K t H' r (n+1) A ls ps (rD ls ps S xs)->upd H L (.lst []) p=none->H' p=some (.lst ((pW ls ps S xs).map fun w=>V.str w.1.name))->Q (.ref p) H':=fun H' p c R' np ep=>k H' p ((vO nL0).trans c) R' (t0.free np) ep
  replace hR:=hR.same t0
  replace Nc:=Nc.same (vO (E:=r:: A.cells ls ps) (o:=.lst []) nL0)
  replace W:=W.same t0
  generalize upd H L (.lst [])=Hb at hR Nc W hL k ⊢
  clear t0
  rotate_left
  refine⟨_,rfl,_,rfl,cB ⟨_,rfl,?_⟩⟩
  obtain⟨Hb,hHb⟩:∃Hb,Hb=H:=⟨_,rfl⟩
  subst hHb
  all_goals (
   have N:fY K t Hb A.n ls ps:=Nc.same bQ
   obtain⟨dxn,fsn,R,F0,Pd,Gn,Tk,FL,PL,Wn⟩:=id N
   have F:=Wn.fit
   have p16:=F.p16
   obtain⟨dxr,fsr,R0⟩:=id hR
   refine⟨_,rfl,r,dxr,fsr,rfl,R0.1.1,R0.2.no _ (by decide +kernel),_,rfl,r,n,A,ls,ps,S,L,xs,rfl,hR,N,W,hL,hx,fun H1 s1=>?_⟩
   obtain⟨dxr,fsr,R1⟩:=hR.same s1
   have Wn1:=Wn.same s1
   refine⟨_,rfl,r,_,dxr,fsr,_,rfl,R1.1.1,T.bN.c,T.bN.na.1,R1.2.has ("net",.ref A.n) (by simp),A.n,dxn,fsn,rfl,Wn1.obj,Wn1.fl.no _ (by decide +kernel),A.n,ls,ps,rfl,Wn1.s,fun l nl=>?_⟩
   have s2:=s1.trans (aB (o:=.lst (ps.map fun x=>V.str x.name)) nl)
   have el:(upd H1 l (.lst (ps.map fun x=>V.str x.name))) l=some (.lst (ps.map fun x=>V.str x.name)):=az
   generalize upd H1 l (.lst (ps.map fun x=>V.str x.name))=H2 at s2 el ⊢
   have hflat:(xs.map V.str).all mU=true:=by simp [mU]
   refine⟨l,rfl,⟨_,bH.of el⟩,eE (K:=K) (a:=l) (xs:=ps.map fun x=>V.str x.name) (fun j ys Hb'=>aK H2 Hb'/\∃qs:List (PD×Addr),ys=qs.map (fun q=>V.ref q.2)/\qs.map (·.1)=(ps.take j).filter (qw xs)/\∀q∈qs,Ig (A.cells ls ps) ls S Hb' q) (by rw [lM];omega) ⟨aK.refl _,[],rfl,rfl,by simp⟩ ?_ (fun j ys Hb' _ h=>h.1.seq (bH.of el)) ?_ ?_⟩
   ·rintro j ys Hb' ⟨_,qs,rfl,e,_⟩
    have h1:=congrArg List.length e
    have h2:=List.length_filter_le (qw xs) (ps.take j)
    rw [lM] at h1
    rw [List.length_take] at h2
    rw [lM]
    omega
   ·rintro j x ys Hb' hj ⟨s3',qs,rfl,eq,hq⟩
    rw [List.getElem?_map] at hj
    obtain⟨p,hp,rfl⟩:=Option.map_eq_some_iff.mp hj
    have hpm:=List.mem_of_getElem? hp
    have s3:=s2.trans s3'
    obtain⟨dxr,fsr,R2⟩:=hR.same s3
    refine⟨_,rfl,_,rfl,L,_,rfl,.inl (s3.seq hL),rfl,hflat,_,rfl,?_⟩
    rw [U5]
    have tk:(ps.take (j+1)).filter (qw xs)=(ps.take j).filter (qw xs) ++ if qw xs p=true then [p] else []:=by
     rw [List.take_succ,hp,Option.toList_some,List.filter_append,List.filter_cons]
     rfl
    refine iu (fun e=>?_) (fun e=>?_)
    ·have e':qw xs p=true:=e
     rw [e',if_pos rfl] at tk
     refine⟨_,rfl,_,rfl,r,dxr,fsr,rfl,R2.1.1,R2.2.no _ (by decide +kernel),_,rfl,?_⟩
     refine OJ (hR.same s3) (N.same s3) (W.same s3) O hpm (fun hd H4 s4=>?_) (fun dd hd H4 U s4 nU DA=>?_)
     ·refine⟨iZ,fun q nq=>⟨s3'.trans (s4.trans (aB nq)),qs ++ [(p,q)],by simp,by rw [List.map_append,eq,tk];rfl,fun q' hq'=>?_⟩⟩
      rcases List.mem_append.mp hq' with h | h
      ·exact(hq q' h).same (s4.trans (aB nq))
      ·rw [List.mem_singleton] at h
       subst h
       exact⟨.non,az,.inl ⟨hd,rfl⟩⟩
     ·refine⟨iZ,fun q nq=>⟨s3'.trans (s4.trans (aB nq)),qs ++ [(p,q)],by simp,by rw [List.map_append,eq,tk];rfl,fun q' hq'=>?_⟩⟩
      rcases List.mem_append.mp hq' with h | h
      ·exact(hq q' h).same (s4.trans (aB nq))
      ·rw [List.mem_singleton] at h
       subst h
       exact⟨.ref U,az,.inr ⟨dd,U,hd,rfl,DA.same (aB nq)⟩⟩
    ·have e':¬qw xs p=true:=e
     rw [if_neg e',List.append_nil] at tk
     exact⟨s3',qs,rfl,by rw [eq,tk],hq⟩
   rintro ys H3 ⟨s3',qs,rfl,eq,hq⟩ D1 nD1
   rw [lM,List.take_length] at eq
   have s4':=aB (o:=.lst (qs.map fun q=>V.ref q.2)) nD1
   have s4:=(s2.trans s3').trans s4'
   have eD1:(upd H3 D1 (.lst (qs.map fun q=>V.ref q.2))) D1=some (.lst (qs.map fun q=>V.ref q.2)):=az
   replace hq:=fun q h=>(hq q h).same s4'
   generalize upd H3 D1 (.lst (qs.map fun q=>V.ref q.2))=H4 at s4 s4' eD1 hq ⊢
   clear s4' nD1 s3' nl el
   have lq:qs.length<=16:=by
    have h1:=congrArg List.length eq
    have h2:=List.length_filter_le (qw xs) ps
    rw [lM] at h1
    omega
   let fS:PD×Addr->Bool:=fun q=>(fj ls S q.1).isSome
   refine⟨_,rfl,D1,rfl,⟨_,bH.of eD1⟩,eE (K:=K) (a:=D1) (xs:=qs.map fun q=>V.ref q.2) (fun j ys Hb'=>Hb'=H4/\ys=((qs.take j).filter fS).map fun q=>V.ref q.2) (by rw [lM];omega) ⟨rfl,rfl⟩ (fun j ys Hb' ⟨_,e⟩=>by rw [e,lM];exact Nat.le_trans (List.length_filter_le _ _) (by rw [List.length_take];omega)) (fun j ys Hb' _ ⟨e,_⟩=>by rw [e];exact bH.of eD1) ?_ ?_⟩
   ·rintro j x ys Hb' hj ⟨rfl,rfl⟩
    rw [List.getElem?_map] at hj
    obtain⟨q,hqj,rfl⟩:=Option.map_eq_some_iff.mp hj
    obtain⟨u,h1,h2⟩:=hq q (List.mem_of_getElem? hqj)
    refine⟨_,rfl,q.2,_,1,_,rfl,rfl,fH.of h1,aN (j:=1) rfl,?_⟩
    rw [List.take_succ,hqj,Option.toList_some,List.filter_append,List.filter_cons,List.map_append]
    rcases h2 with ⟨h2,rfl⟩ | ⟨dd,U,h2,rfl,_⟩
    ·exact⟨_,rfl,cB ⟨rfl,by simp [fS,h2]⟩⟩
    ·exact⟨_,rfl,gh ⟨_,rfl,rfl,by simp [fS,h2]⟩⟩
   rintro ys Hb' ⟨rfl,rfl⟩ D2 nD2
   rw [lM,List.take_length]
   obtain⟨ws,hws⟩:∃ws:List (PD×mF),ws=pW ls ps S xs:=⟨_,rfl⟩
   have ewq:ws=(qs.filter fS).filterMap (fun q=>(fj ls S q.1).map fun dd=>(q.1,dd)):=by rw [hws];unfold pW;rw [<-eq,Ue]
   have hW:Paired (fun(q:PD×Addr) (w:PD×mF)=>q.1=w.1/\fj ls S w.1=some w.2/\w.1∈ps/\∃U,Hb' q.2=some (.tup [.str w.1.name,.ref U])/\mV (A.cells ls ps) Hb' U w.2) (qs.filter fS) ws:=by
    rw [ewq]
    have hall:∀q∈qs.filter fS,Ig (A.cells ls ps) ls S Hb' q/\q.1∈ps/\fS q=true:=fun q h=>by
     have h':=List.mem_filter.mp h
     refine⟨hq q h'.1,?_,h'.2⟩
     have:q.1∈qs.map (·.1):=List.mem_map.mpr ⟨q,h'.1,rfl⟩
     rw [eq] at this
     exact(List.mem_filter.mp this).1
    generalize qs.filter fS=rs at hall
    clear ewq
    induction rs with
    | nil=>exact .nil
    | cons q r ih=>
     obtain⟨⟨u,h1,h2⟩,hp,hf⟩:=hall q List.mem_cons_self
     rcases h2 with ⟨h2,_⟩ | ⟨dd,U,h2,rfl,h3⟩
     ·simp only [fS,h2] at hf
      cases hf
     ·rw [List.filterMap_cons,h2]
      exact .cons ⟨rfl,h2,hp,U,h1,h3⟩ (ih fun q' hq'=>hall q' (List.mem_cons_of_mem _ hq'))
   have lw:(qs.filter fS).length=ws.length:=Paired.length hW
   have lw16:ws.length<=16:=by have:=List.length_filter_le fS qs;omega
   have s5':=aB (o:=.lst ((qs.filter fS).map fun q=>V.ref q.2)) nD2
   have s5:=s4.trans s5'
   have nD2':=(W.same s4).cell nD2
   have eD2:(upd Hb' D2 (.lst ((qs.filter fS).map fun q=>V.ref q.2))) D2=some (.lst ((qs.filter fS).map fun q=>V.ref q.2)):=az
   generalize upd Hb' D2 (.lst ((qs.filter fS).map fun q=>V.ref q.2))=H5 at s5 s5' eD2 ⊢
   generalize qs.filter fS=rs at hW lw eD2 ⊢
   have g2:∀w∈ws,w.2.gv.length<=2:=fun w hw=>by
    obtain⟨q,_,h2,h3,_⟩:=Ho hW hw
    exact(vN F h3 (rT h2).1).g2
   have W5:=W.same s5
   have R5:=hR.same s5
   have nr:=R5.cell W5
   refine⟨_,rfl,D2,rfl,⟨_,bH.of eD2⟩,dD (K:=K) (a:=D2) (xs:=rs.map fun q=>V.ref q.2) (fun j σ H6=>Gq (A.cells ls ps) H5 H6/\dI K t H6 A ls ps (lD S (ws.take j))/\∃v1 v5 v6,σ=[some (.ref r),v1,some (.ref L),some (.ref D1),some (.ref D2),v5,v6]) ⟨fun _ _=>rfl,by simpa [lD] using W5,_,none,none,rfl⟩ (fun j σ H6 _ h=>bH.of (by rw [h.1 D2 nD2'];exact eD2)) ?_ ?_⟩
   ·rintro j x σ H6 hj ⟨m6,W6,v1,v5,v6,rfl⟩
    rw [List.getElem?_map] at hj
    obtain⟨q,hqj,rfl⟩:=Option.map_eq_some_iff.mp hj
    obtain⟨w,hwj,_,h2,hp,U,t1,d1⟩:=Ff hW hqj
    have t6:=W5.tupMov m6 (s5' _ _ t1)
    have d6:=(d1.same s5').mov W5 m6
    obtain⟨dxr,fsr,R3⟩:=R5.mov nr m6
    obtain⟨dxg,fsg,y1,y2⟩:=id W6.at'.ex
    refine⟨q.2,_,rfl,fH.of t6,rfl,_,_,rfl,_,_,rfl,rfl,?_⟩
    refine⟨_,rfl,r,_,dxr,fsr,_,rfl,R3.1.1,T.bN.c,T.bN.na.2.1,R3.2.has ("flow",.ref A.f) (by simp),A.f,dxg,fsg,rfl,y1,y2.no _ (by decide +kernel),_,rfl,_,rfl,?_⟩
    refine Zc F W6 hp (b:=b+2 * (ws.take j).length) (fun l hl=>Ad (O.len l hl) fun w' hw'=>g2 w' (List.mem_of_mem_take hw')) (by rw [List.length_take];omega) d6 (vN F hp (rT h2).1) fun H7 m7 W7=>⟨fun a ha=>by rw [m7 a ha,m6 a ha],?_,_,_,_,rfl⟩
    rw [List.take_succ,hwj,Option.toList_some,Mj]
    exact W7
   rintro σ H6 ⟨m6,W6,v1,v5,v6,rfl⟩
   rw [lM,lw,List.take_length] at W6
   obtain⟨dxr,fsr,R3⟩:=R5.mov nr m6
   refine⟨_,rfl,r,_,dxr,fsr,.int (n:Nat),rfl,R3.1.1,T.bN.c,T.bN.na.2.2.1,R3.2.has ("turns",.int (n:Nat)) (by simp),_,_,rfl,rfl,dxr,fsr,R3.1.1,by have:=R3.1.2;omega,?_⟩
   have R7:=lC.turned R3
   have W7:=W6.ins (x:=r) nr (o:=.ins t.pL dxr (aJ "turns" (.int ((n:Int)+1)) fsr)) nrf
   have m7:∀a,a≠r->a∉A.cells ls ps->upd H6 r (.ins t.pL dxr (aJ "turns" (.int ((n:Int)+1)) fsr)) a=H5 a:=fun a h1 h2=>by rw [aM h1,m6 a h2]
   generalize upd H6 r (.ins t.pL dxr (aJ "turns" (.int ((n:Int)+1)) fsr))=H7 at R7 W7 m7 ⊢
   have nD2r:D2≠r:=fun z=>by
    obtain⟨_,_,y1,_⟩:=R5
    rw [<-z,eD2] at y1
    cases y1.1
   have eD7:H7 D2=some (.lst (rs.map fun q=>V.ref q.2)):=by rw [m7 D2 nD2r nD2'];exact eD2
   have t7:∀{a:Addr} {vs:List V},H5 a=some (.tup vs)->H7 a=some (.tup vs):=fun {a vs} h=>by
    rw [m7 a (fun z=>by obtain⟨_,_,y1,_⟩:=R5;rw [<-z,h] at y1;cases y1.1) (W5.ncell h (by intro _ z;cases z) (by intro _ z;cases z))]
    exact h
   have c7:aK (bA (r:: A.cells ls ps) Hb) (bA (r:: A.cells ls ps) H7):=fun a o e=>by
    have hn:a∉r:: A.cells ls ps:=fun z=>by unfold bA at e;rw [if_pos z] at e;cases e
    have e':=s5 _ _ (bQ a o e)
    unfold bA
    rw [if_neg hn,m7 a (fun z=>hn (by rw [z];exact List.mem_cons_self)) (fun z=>hn (List.mem_cons_of_mem _ z))]
    exact e'
   refine⟨_,rfl,D2,rfl,⟨_,bH.of eD7⟩,?_⟩
   refine FW (K:=K) (a:=D2) (xs:=rs.map fun q=>V.ref q.2) (fun j ys H8=>H8=H7/\ys=(ws.take j).map fun w=>V.str w.1.name) (by rw [lM];omega) ⟨rfl,rfl⟩ ?_ (fun j ys H8 _ ⟨e,_⟩=>by rw [e];exact bH.of eD7) ?_ ?_
   ·rintro j ys H8 ⟨_,rfl⟩
    rw [lM,List.length_take]
    omega
   ·rintro j v ys H8 hj ⟨rfl,rfl⟩
    rw [List.getElem?_map] at hj
    obtain⟨q,hqj,rfl⟩:=Option.map_eq_some_iff.mp hj
    obtain⟨w,hwj,_,_,_,U,t1,_⟩:=Ff hW hqj
    refine⟨q.2,_,rfl,fH.of (t7 (s5' _ _ t1)),rfl,_,_,rfl,_,_,rfl,rfl,rfl,?_⟩
    refine yes ⟨_,rfl,rfl,?_⟩
    rw [List.take_succ,hwj,Option.toList_some,List.map_append]
    rfl
   rintro ys H8 ⟨rfl,rfl⟩ p np
   rw [lM,lw,List.take_length]
   have s8:=aB (o:=.lst (ws.map fun w=>V.str w.1.name)) np
   have np5:H5 p=none:=by
    cases e:H5 p with
    | none=>rfl
    | some o=>
     have h1:p≠r:=fun z=>by
      obtain⟨_,_,y1,_⟩:=R7
      rw [<-z,np] at y1
      cases y1.1
     rw [<-m7 p h1 (W7.cell np),np] at e
     cases e
   have c8:aK (bA (r:: A.cells ls ps) Hb) (bA (r:: A.cells ls ps) (upd H8 p (.lst (ws.map fun w=>V.str w.1.name)))):=c7.trans (vO np)
   refine k _ p c8 ⟨R7.same s8,Nc.same c8,?_,nrf⟩ (s5.free np5) (by rw [az,hws])
   unfold rD
   rw [<-hws]
   exact W7.same s8
  )
inductive Ii (K:PySem.W.Frag) (vs:List V) (H:Hp) (Q:VK) (E:XK):Prop where
 | mk:∀(a:Addr) (ws:List Int),vs=[.ref a]->bH K H a (ws.map V.int)->ws.length<=300->((∀v∈ws,0<=v/\v <1000000000))->(∀H',aK H H'->Q (.bl true) H')->Ii K vs H Q E
theorem Qh (T:Txt w K mg t):FO P w K mg base 3 t.LC ["thing"] (Ii K):=by
 have sc:=T.CW.sc ["thing"]
 refine T.CW.F.ok sc ln (fun _ _ _ _ H vs Q E hr h=>?_)
 obtain⟨a,ws,rfl,hS,hl,hB,k⟩:=h
 refine⟨_,(aA (aO (zP (bw zB (by rfl) T.mX kZ (aa (pv 0) (aa (Cw (by rfl) T.xZ sy) ak aj) aj)) (zP (kW xf (bw bR (by rfl) T.eQ cP (aa (pv 0) ak aj)) (ju (by rfl) T.Gs) (bF _)) (xT (bw (yu rfl) (by rfl) T.Ob Jf (aa (eN [] ["thing"] (aV (top 67)) rfl (bT (pv 0)) (fun _ _ _ _ _=>gM) (fun _ _ _ _ _=>(dJ (vo T) T.pN hr (aa (pv 0) ak aj)))) ak fB))))))),?_⟩
 have hz:sizeLine=16777216:=sizeLine_eq
 refine⟨_,rfl,_,_,_,_,rfl,.inl ⟨rfl,_,hS⟩,by decide,rfl,_,rfl,gh ?_⟩
 refine⟨_,rfl,_,(ws.map V.int).length,rfl,.inl ⟨_,hS,by simp⟩,_,_,rfl,rfl,_,rfl,?_⟩
 rw [lM,decide_eq_true (show(ws.length:Int)<=300 by omega)]
 refine gh ?_
 refine⟨_,rfl,a,rfl,⟨_,hS⟩,eE (K:=K) (a:=a) (xs:=ws.map V.int) (fun j ys H'=>H'=H/\ys=(List.replicate j true).map V.bl) (by rw [lM];omega) ⟨rfl,rfl⟩ (fun j ys H' ⟨_,e⟩=>by rw [e];simp) (fun j ys H' _ ⟨e,_⟩=>by rw [e];exact hS) ?_ ?_⟩
 ·rintro j x ys H' hx ⟨rfl,rfl⟩
  rw [List.getElem?_map] at hx
  obtain⟨n,hn,rfl⟩:=Option.map_eq_some_iff.mp hx
  obtain⟨n0,n1⟩:=hB n (List.mem_of_getElem? hn)
  refine yes ⟨_,rfl,.int n,rfl,.inl ⟨n,rfl,rfl,?_⟩⟩
  rw [decide_eq_true n0,decide_eq_true n1,List.replicate_succ']
  simp
 rintro ys H' ⟨rfl,rfl⟩ D hD
 refine⟨D,List.replicate (ws.map V.int).length true,rfl,bH.of az,?_⟩
 rw [show(List.replicate (ws.map V.int).length true).all id=true by simp]
 exact k _ (aB hD)
structure Ng (ps:List PD) (RW:List (Str×Addr×List Int)):Prop where
 door:∀q∈RW,V.str q.1∈dX ps "give"
 bnd:∀q∈RW,∀v∈q.2.2,0<=v/\v <1000000000
theorem Qw {ls:List aH} {ps:List PD} {RW:List (Str×Addr×List Int)} (F:Cd ls ps) (hl:∀q∈RW,q.2.2.length<=300) (hb:∀q∈RW,∀v∈q.2.2,0<=v/\v <1000000000):DR 199 ls ps (mD ls ps RW):=by
 have rq:∀x,wI RW x=[]∨∃q∈RW,wI RW x=q.2.2:=fun x=>by
  unfold wI
  cases e:RW.find? fun q=>decide (q.1=x) with
  | none=>exact .inl rfl
  | some q=>exact .inr ⟨q,List.mem_of_find?_eq_some e,rfl⟩
 refine⟨fun l h v hv=>?_,fun p hp h0 v hv=>?_,fun p hp h0=>Nat.zero_le _,fun l h=>?_,fun p hp h0=>?_⟩
 ·have e:(mD ls ps RW).ev l.name=l.first:=Ep F.whole.nod h
  rw [e] at hv
  exact(F.lok l h).2.2.2 v hv
 ·rcases rq p.name with e | ⟨q,hq,e⟩
  ·rw [show(mD ls ps RW).r p.name=[] from e] at hv
   cases hv
  ·rw [show(mD ls ps RW).r p.name=q.2.2 from e] at hv
   exact hb q hq v hv
 ·have e:(mD ls ps RW).ev l.name=l.first:=Ep F.whole.nod h
  rw [e]
  have:=F.lok l h
  omega
 ·rcases rq p.name with e | ⟨q,hq,e⟩
  ·rw [show(mD ls ps RW).r p.name=[] from e]
   exact Nat.zero_le _
  ·rw [show(mD ls ps RW).r p.name=q.2.2 from e]
   exact hl q hq
inductive yH (K:PySem.W.Frag) (t:jd) (vs:List V) (H:Hp) (Q:VK) (E:XK):Prop where
 | mk:∀(n rw:Addr) (ls:List aH) (ps:List PD) (RW:List (Str×Addr×List Int)),vs=[.ref n,.ref rw]->fY K t H n ls ps->oZ H rw RW->Ng ps RW->(∀H',aK H H'->Q .non H')->yH K t vs H Q E
theorem Jo (T:Txt w K mg t):FO P w K mg base 4 t.Bq ["net", "rows"] (yH K t):=by
 have sc:=T.uZ.sc ["net", "rows", "doors", "door"]
 refine T.uZ.F.ok sc ln (fun _ _ _ _ H vs Q E hr h=>?_)
 obtain⟨n,rw,ls,ps,RW,rfl,N,hrw,hO,k⟩:=h
 refine⟨_,(ao (sN sc 2 (Nh (pv 0) T.aU T.aU.me.2.2.2.2.1 (mW T) T.jK hr))
  (ao (vf (H0:=H) rfl (dq PassesOwn.never rfl (vV (pv 1)) (gN sc 3)
   (aA (bO (aZ jf (pv 3) (pv 2) (by with_unfolding_all rfl))
    (aA dW)
    bu))))
  (aA (vf (H0:=H) rfl (dq PassesOwn.never rfl (vV (pv 1)) (gN sc 3)
   (aA (bO (jD (gB (dJ (Qh T) T.CW hr (aa (bZ hr.u1 (pv 1) (pv 3) (fun _ _=>rfl)) ak aF))))
    (aA dW)
    bu))))))),?_⟩
 have hz:sizeLine=16777216:=sizeLine_eq
 obtain⟨dxn,fsn,R,F,Pd,Gn,Tk,FL,PL,Wn⟩:=id N
 refine⟨_,rfl,n,dxn,fsn,rfl,Wn.obj,Wn.fl.no _ (by decide +kernel),n,ls,ps,rfl,N,fun l nl=>?_⟩
 have s1:=aB (o:=.lst (dX ps "give")) nl
 have el:upd H l (.lst (dX ps "give")) l=some (.lst (dX ps "give")):=az
 generalize upd H l (.lst (dX ps "give"))=H1 at s1 el ⊢
 have fl:(dX ps "give").all mU=true:=by
  rw [List.all_eq_true]
  intro v hv
  obtain⟨p,_,rfl⟩:=List.mem_map.mp hv
  rfl
 have w1:=hrw.same s1
 have nf:∀(o':Obj) (u':HO),H rw≠some (.frz o' u'):=fun o' u' z=>by rw [hrw.dict] at z;cases z
 refine⟨_,rfl,rw,_,rfl,w1.dict,fun o=>u0 (fun j σ H'=>H'=upd H1 rw (.frz o (.dK (f9 RW)))/\∃v3,σ=[some (.ref n),some (.ref rw),some (.ref l),v3]) ⟨rfl,none,rfl⟩ (fun j σ H' _ ⟨e,_⟩=>by rw [e];exact az) ?_ ?_⟩
 ·rintro j kk v σ H' hj ⟨rfl,v3,rfl⟩
  unfold f9 at hj
  rw [List.getElem?_map] at hj
  obtain⟨q,hq,e⟩:=Option.map_eq_some_iff.mp hj
  cases e
  refine⟨_,rfl,_,rfl,l,_,rfl,.inl (bH.of (jG w1.dict el (by intro _ z;cases z))),rfl,fl,_,rfl,?_⟩
  have hin:inV (kV (Sum.inr q.1)) (dX ps "give")=true:=RK (hO.door q (List.mem_of_getElem? hq)) (by simp [Mf,kV])
  rw [hin]
  exact cB ⟨rfl,_,rfl⟩
 rintro σ H' ⟨rfl,v3,rfl⟩
 refine⟨_,⟨rw,o,_,az,nf,rfl⟩,?_⟩
 rw [qH,JN w1.dict]
 refine⟨_,rfl,rw,_,rfl,w1.dict,fun o=>u0 (fun j σ H'=>aK (upd H1 rw (.frz o (.dK (f9 RW)))) H'/\∃v3,σ=[some (.ref n),some (.ref rw),some (.ref l),v3]) ⟨aK.refl _,v3,rfl⟩ (fun j σ H' _ ⟨e,_⟩=>e _ _ az) ?_ ?_⟩
 ·rintro j kk v σ H' hj ⟨s2,v3,rfl⟩
  unfold f9 at hj
  rw [List.getElem?_map] at hj
  obtain⟨q,hq,e⟩:=Option.map_eq_some_iff.mp hj
  cases e
  have hm:=List.mem_of_getElem? hq
  have vq:bY (f9 RW) (Sum.inr q.1)=some (.ref q.2.1):=iR (by rw [xN];exact gK hrw.nd) (List.mem_map.mpr ⟨q,hm,rfl⟩)
  have eq2:=s2 _ _ (jG w1.dict (w1.lists q hm) (by intro _ z;cases z))
  refine⟨_,rfl,_,rfl,rw,_,rfl,(by rw [<-vq];exact .inl ⟨_,Sum.inr q.1,.inr ⟨o,s2 _ _ az⟩,rfl,rfl⟩),q.2.1,q.2.2,rfl,bH.of eq2,hrw.len q hm,hO.bnd q hm,fun H3 s3=>⟨_,rfl,cB ⟨s2.trans s3,_,rfl⟩⟩⟩
 rintro σ H' ⟨s2,v3,rfl⟩
 refine⟨_,⟨rw,o,_,s2 _ _ az,nf,rfl⟩,?_⟩
 refine k _ fun b u e=>?_
 by_cases hb:b=rw
 ·subst hb
  rw [az]
  rw [hrw.dict] at e
  exact e
 ·rw [aM hb]
  exact s2 _ _ (by rw [aM hb];exact s1 _ _ e)
theorem Uc {H:Hp} {Q:VK} {Ex:XK} {H0:Hp} {f dx n rw:Addr} {ls:List aH} {ps:List PD} {RW:List (Str×Addr×List Int)} (hf:H f=some (.ins t.b7 dx [])) (s0:aK H0 H) (nf:H0 f=none) (N:fY K t H0 n ls ps) (hrw:oZ H0 rw RW)
  (k:∀(H':Hp) (A:mJ),A.f=f->A.n=n->lH f H H'->dI K t H' A ls ps (mD ls ps RW)->(∀a∈A.cells ls ps,H a=none)->Q .non H'):gO K t [.ref f,.ref n,.ref rw] H Q Ex:=by
 unfold gO
 exact⟨H0,f,dx,n,rw,ls,ps,RW,rfl,hf,s0,nf,N,hrw,k⟩
inductive rM (K:PySem.W.Frag) (t:jd) (vs:List V) (H:Hp) (Q:VK):Prop where
 | mk:∀(H0:Hp) (r dx n rw:Addr) (ls:List aH) (ps:List PD) (RW:List (Str×Addr×List Int)),vs=[.ref r,.ref n,.ref rw]->H r=some (.ins t.pL dx [])->aK H0 H->H0 r=none->fY K t H0 n ls ps->oZ H0 rw RW->Ng ps RW->(∀H' A,A.n=n->aK H0 H'->wG K t H' r 0 A ls ps (mD ls ps RW)->(∀a∈A.cells ls ps,H0 a=none)->Q .non H')->rM K t vs H Q
@[irreducible] noncomputable def ig (K:PySem.W.Frag) (t:jd):Sp:=fun vs H Q _=>rM K t vs H Q
theorem BX (T:Txt w K mg t):FO P w K mg base 6 t.pA ["self", "net", "rows"] (ig K t):=by
 have sc:=T.jO.sc ["self", "net", "rows"]
 refine T.jO.F.ok sc (fun vs H Q E h=>?_) (fun cdv A outer s H vs Q E hr h=>?_)
 ·unfold ig at h
  obtain⟨H0,r,dx,n,rw,ls,ps,RW,rfl,_⟩:=h
  rfl
 ·unfold ig at h
  obtain⟨H0,r,dx,n,rw,ls,ps,RW,rfl,hr1,s0,nr0,N,hrw,hO,k⟩:=h
  refine⟨_,(ao (bI (dJ (Jo T) T.uZ hr (aa (pv 1) (aa (pv 2) ak aj) aj)))
   (ao (iy (pv 0) (pv 1) rfl)
   (ao (iy (pv 0) (iB (T.aQ.M T.jy) (Ag T) (hr.mono (by decide)) (by rfl) T.aQ.m T.jy.b .nil ik (aa (pv 1) (aa (pv 2) ak aj) aj)) rfl)
   (aA (iy (pv 0) aq rfl))))),?_⟩
  refine⟨_,rfl,_,rfl,n,rw,ls,ps,RW,rfl,N.same s0,hrw.same s0,hO,fun H1 s1=>?_⟩
  have T0:=(Tr.start hr1).same s1
  refine⟨_,rfl,_,rfl,r,_,dx,[],rfl,s1 _ _ hr1,T.bN.c,T.bN.na.1,by show 0 <1000;decide,?_⟩
  have T1:=T0.put (L1:=[]) (L2:=[]) (o':=.ins t.pL dx (aJ "net" (.ref n) []))
  generalize upd H1 r (.ins t.pL dx (aJ "net" (.ref n) []))=H2 at T1 ⊢
  have s02:aK H0 H2:=fun x o e=>T1.but x o (aD e nr0) (s0 x o e)
  have er2:=T1.all (r,.ins t.pL dx (aJ "net" (.ref n) [])) (.head _)
  refine⟨_,rfl,_,rfl,fun f dxf nf ndf nef=>?_⟩
  have s3:aK H2 (upd (upd H2 dxf (.own f)) f (.ins t.b7 dxf [])):=fun b o e=>by rw [aM (aD e nf),aM (aD e ndf)];exact e
  have ef:(upd (upd H2 dxf (.own f)) f (.ins t.b7 dxf [])) f=some (.ins t.b7 dxf []):=az
  generalize upd (upd H2 dxf (.own f)) f (.ins t.b7 dxf [])=H3 at s3 ef ⊢
  have s03:=s02.trans s3
  have nfr:r≠f:=aD er2 nf
  refine Uc ef s03 (s02.free nf) N hrw fun H4 A eAf eAn b4 W4 fr4=>⟨rfl,?_⟩
  subst eAf
  subst eAn
  have er4:=b4 r _ nfr (s3 _ _ er2)
  have nrc:r∉A.cells ls ps:=W4.ncell er4 (by intro _ z;cases z) (by intro _ z;cases z)
  refine⟨_,rfl,r,_,dx,_,rfl,er4,T.bN.c,T.bN.na.2.1,Nat.lt_of_le_of_lt (ie (Nat.zero_le 0)) (by decide),?_⟩
  have er5:upd H4 r (.ins t.pL dx (aJ "flow" (.ref A.f) (aJ "net" (.ref A.n) []))) r=some (.ins t.pL dx (aJ "flow" (.ref A.f) (aJ "net" (.ref A.n) []))):=az
  refine⟨_,rfl,r,_,dx,_,rfl,er5,T.bN.c,T.bN.na.2.2.1,Nat.lt_of_le_of_lt (ie (ie (Nat.zero_le 0))) (by decide),?_⟩
  rw [qH]
  have s05:∀o:HO,aK H0 (upd H4 r o):=fun o b u e=>by
   rw [aM (aD e nr0)]
   exact b4 b u (aD e (s02.free nf)) (s03 b u e)
  have fr0:∀a∈A.cells ls ps,H0 a=none:=fun a ha=>s03.free (fr4 a ha)
  refine k _ A rfl (s05 _) ⟨⟨dx,_,⟨az,ie (ie (ie (Nat.zero_le 0)))⟩,⟨?_,?_⟩⟩,N.same fun b u e=>?_,W4.ins nrc nfr,nfr⟩ fr0
  ·intro q hq
   simp only [List.mem_cons,List.not_mem_nil,or_false] at hq
   rcases hq with rfl | rfl | rfl
   ·dsimp only;(repeat first | (rw [aC,if_pos rfl];done) | rw [aC,if_neg (by decide +kernel)])
   ·dsimp only;(repeat first | (rw [aC,if_pos rfl];done) | rw [aC,if_neg (by decide +kernel)])
   ·dsimp only
    rw [aC,if_pos rfl]
    rfl
  ·intro m hm
   have hne:∀m∈(["step", "need_doors", "next_deed", "full_lane", "can_work", "works", "lane_now", "turn", "rows_left"]:List Str),∀g∈(["turns", "flow", "net"]:List Str),¬m=g:=by decide +kernel
   have h:=hne m hm
   rw [aC,if_neg (h _ (by simp)),aC,if_neg (h _ (by simp)),aC,if_neg (h _ (by simp))]
   rfl
  ·have hn:b∉r:: A.cells ls ps:=fun z=>by
    rcases List.mem_cons.mp z with z | z
    ·rw [z,nr0] at e;cases e
    ·rw [fr0 b z] at e;cases e
   unfold bA
   rw [if_neg hn]
   exact s05 _ b u e
inductive rK (K:PySem.W.Frag) (t:jd) (vs:List V) (H:Hp) (Q:VK) (E_:XK):Prop where
 | mk:∀(f n E G Kp D Rw l:Addr) (ed gd:List (Key×V)) (x:Str) (vs':List V) (g:Nat),vs=[.ref f,.str x]->oN K t H f n E G Kp D Rw->H Rw=some (.dK ed)->H D=some (.dK gd)->bY ed (Sum.inr x)=some (.ref l)->bY gd (Sum.inr x)=some (.int g)->bH K H l vs'->(∀p,H p=none->Q (.ref p) (upd H p (.lst (vs'.drop g))))->rK K t vs H Q E_
theorem Ah (T:Txt w K mg t):FO P w K mg base 1 t.mQ ["self", "door"] (rK K t):=by
 have sc:=T.lZ.sc ["self", "door"]
 refine T.lZ.F.ok sc ln (fun _ _ _ _ H vs Q E hr h=>?_)
 obtain⟨f,n,E,G,Kp,D,Rw,l,ed,gd,x,vs',g,rfl,N,hE,hG,h3,h4,h5,k⟩:=h
 refine⟨_,(aA (aO (jl qi (bZ hr.u1 (aY (pv 0) rfl) (pv 1) (fun _ _=>rfl)) (jU (bZ hr.u1 (aY (pv 0) rfl) (pv 1) (fun _ _=>rfl))) m8))),?_⟩
 obtain⟨dx,fs,h1,h2⟩:=id N.ex
 refine⟨_,rfl,f,_,dx,fs,_,rfl,h1,T.aQ.c,T.aQ.na.2.2.2.2.2.1,h2.has ("rows",.ref Rw) (by simp),_,rfl,Rw,_,rfl,(by rw [<-h3];exact dM.k (k:=Sum.inr x) hE),?_⟩
 refine⟨_,rfl,f,_,dx,fs,_,rfl,h1,T.aQ.c,T.aQ.na.2.2.2.2.1,h2.has ("done",.ref D) (by simp),_,rfl,D,_,rfl,(by rw [<-h4];exact dM.k (k:=Sum.inr x) hG),?_⟩
 refine⟨_,rfl,l,vs',rfl,h5,fun p hp=>?_⟩
 rw [Kz]
 exact k p hp
structure JV (H:Hp) (D:Addr) (ra:Str->Addr) (ps:List PD) (S:FS):Prop where
 dict:H D=some (.dK (El ra ps))
 lists:∀p∈ps,p.kind=0->H (ra p.name)=some (.lst (((S.r p.name).drop (S.d p.name)).map V.int))
theorem JV.same {H H':Hp} {D:Addr} {ra:Str->Addr} {ps:List PD} {S:FS} (h:JV H D ra ps S) (s:aK H H'):JV H' D ra ps S:=⟨s _ _ h.dict,fun p hp h0=>s _ _ (h.lists p hp h0)⟩
inductive rE (K:PySem.W.Frag) (t:jd) (vs:List V) (H:Hp) (Q:VK) (E:XK):Prop where
 | mk:∀(r:Addr) (n:Nat) (A:mJ) (ls:List aH) (ps:List PD) (S:FS),vs=[.ref r]->lC t H r A.n A.f n->fY K t H A.n ls ps->dI K t H A ls ps S->(∀(H':Hp) (D:Addr) (ra:Str->Addr),aK H H'->JV H' D ra ps S->H D=none->Q (.ref D) H')->rE K t vs H Q E
theorem zX (T:Txt w K mg t):FO P w K mg base 4 t.mz ["self"] (rE K t):=by
 have sc:=T.mO.sc ["self", "left", "door"]
 refine T.mO.F.ok sc ln (fun _ _ _ _ H vs Q E hr h=>?_)
 obtain⟨r,n,A,ls,ps,S,rfl,hR,N,W,k⟩:=h
 refine⟨_,(ao (sN sc 1 fD)
  (ao (dq PassesOwn.never rfl (bT (Nh (aY (pv 0) rfl) T.aU T.aU.me.2.2.2.2.1 (mW T) T.jK hr)) (gN sc 2)
   (aA (fW hr.u1 (pv 1) (pv 2) (vJ (aY (pv 0) rfl) T.aQ T.aQ.me.2.2.2.2.2.2.2.2.2.1 (Ah T) T.lZ hr (aa (pv 2) ak aj)) rfl)))
  (aA (aO (pv 1))))),?_⟩
 have hz:sizeLine=16777216:=sizeLine_eq
 have F:Cd ls ps:=by obtain⟨_,_,_,_,_,_,_,_,_,Wn⟩:=N;exact Wn.fit
 have p16:=F.p16
 refine fun D nD=>?_
 have s1:=aB (o:=.dK []) nD
 have eD:upd H D (.dK []) D=some (.dK []):=az
 have sC:aK H (bA [D] (upd H D (.dK []))):=fun b o e=>dR (s1 _ _ e) (by simpa using aD e nD)
 generalize upd H D (.dK [])=H1 at s1 eD sC ⊢
 obtain⟨dxn,fsn,R,F0,Pd,Gn,Tk,FL,PL,Wn⟩:=N.same s1
 obtain⟨dxr,fsr,R1⟩:=hR.same s1
 refine⟨_,rfl,r,_,dxr,fsr,_,rfl,R1.1.1,T.bN.c,T.bN.na.1,R1.2.has ("net",.ref A.n) (by simp),A.n,dxn,fsn,rfl,Wn.obj,Wn.fl.no _ (by decide +kernel),A.n,ls,ps,rfl,Wn.s,fun l nl=>?_⟩
 have ePg:dX ps "give" =(jF ps).map fun p=>V.str p.name:=by unfold dX;rw [NZ F.pok]
 rw [ePg]
 have lgP:(jF ps).length<=16:=by have:=List.length_filter_le (fun p:PD=>decide (p.kind=0)) ps;unfold jF;omega
 have nlD:l∉[D]:=by simp;intro z;rw [z,eD] at nl;cases nl
 have eD2:upd H1 l (.lst ((jF ps).map fun p=>V.str p.name)) D=some (.dK []):=aB nl _ _ eD
 have el:bA [D] (upd H1 l (.lst ((jF ps).map fun p=>V.str p.name))) l=some (.lst ((jF ps).map fun p=>V.str p.name)):=dR az nlD
 have sC2:=sC.trans (vO (E:=[D]) (o:=.lst ((jF ps).map fun p=>V.str p.name)) nl)
 generalize upd H1 l (.lst ((jF ps).map fun p=>V.str p.name))=H2 at eD2 el sC2 ⊢
 refine⟨l,rfl,⟨_,bH.of (bQ _ _ el)⟩,dD (K:=K) (a:=l) (xs:=(jF ps).map fun p=>V.str p.name) (fun j σ H'=>(∃v2,σ=[some (.ref r),some (.ref D),v2])/\aK (bA [D] H2) (bA [D] H')/\∃RL:List (PD×Addr),RL.map (·.1)=(jF ps).take j/\H' D=some (.dK (RL.map fun q=>((Sum.inr q.1.name:Key),V.ref q.2)))/\∀q∈RL,bA [D] H' q.2=some (.lst (((S.r q.1.name).drop (S.d q.1.name)).map V.int))) ⟨⟨none,rfl⟩,aK.refl _,[],rfl,eD2,by simp⟩ (fun j σ H' _ h=>bH.of (bQ _ _ (h.2.1 _ _ el))) ?_ ?_⟩
 ·rintro j x σ H3 hx ⟨⟨w2,rfl⟩,c3,RL,eRL,eD3,hRL⟩
  rw [List.getElem?_map] at hx
  obtain⟨p,hpj,rfl⟩:=Option.map_eq_some_iff.mp hx
  have hf:=List.mem_filter.mp (List.mem_of_getElem? hpj)
  have h0:p.kind=0:=by simpa using hf.2
  have s3:=(sC2.trans c3).trans bQ
  have W3:=W.same s3
  obtain⟨dxr,fsr,R2⟩:=hR.same s3
  obtain⟨dx,fs,h1,h2⟩:=id W3.at'.ex
  have nin:=lV (JR F.pnd) hpj
  have lRL:RL.length<=16:=by have:=congrArg List.length eRL;rw [lM,List.length_take] at this;omega
  have vR:bY (RL.map fun q=>((Sum.inr q.1.name:Key),V.ref q.2)) (Sum.inr p.name)=none:=ir (by
   rw [List.map_map]
   intro z
   obtain⟨q,hq,e⟩:=List.mem_map.mp z
   have hm:q.1∈RL.map (·.1):=List.mem_map.mpr ⟨q,hq,rfl⟩
   rw [eRL] at hm
   exact nin (List.mem_map.mpr ⟨q.1,hm,by injection e⟩))
  refine⟨_,rfl,r,_,dxr,fsr,_,rfl,R2.1.1,T.bN.c,T.bN.na.2.1,R2.2.has ("flow",.ref A.f) (by simp),A.f,dx,fs,rfl,h1,h2.no _ (by decide +kernel),_,rfl,A.f,A.n,A.E,A.G,A.Kp,A.D,A.Rw,A.ra p.name,_,_,p.name,_,S.d p.name,rfl,W3.at',W3.rows,W3.done,oX F.pnd hf.1 h0,rH (k:=fun x=>(S.d x:Int)) F.pnd hf.1,bH.of (W3.rlst p hf.1 h0),fun u nu=>?_⟩
  rw [<-List.map_drop]
  have nuD:u≠D:=fun z=>by rw [z,eD3] at nu;cases nu
  refine⟨_,rfl,_,rfl,D,_,rfl,n6.k (k:=Sum.inr p.name) (by rw [aM (Ne.symm nuD)];exact eD3) (by rw [lM];omega),?_⟩
  rw [jt _ vR]
  refine⟨⟨_,rfl⟩,by rw [dF (by simp)];exact c3.trans (vO nu),RL ++ [(p,u)],by rw [List.map_append,eRL,List.take_succ,hpj];rfl,by rw [az,List.map_append];rfl,fun q hq=>?_⟩
  rw [dF (by simp)]
  rcases List.mem_append.mp hq with h | h
  ·exact vO nu _ _ (hRL q h)
  ·rw [List.mem_singleton] at h
   subst h
   exact dR az (by simpa using nuD)
 rintro σ H3 ⟨⟨w2,rfl⟩,c3,RL,eRL,eD3,hRL⟩
 rw [lM,List.take_length] at eRL
 have nR:(RL.map fun q=>q.1.name).Nodup:=by
  have:(RL.map (·.1)).map (·.name)=RL.map fun q=>q.1.name:=by rw [List.map_map];rfl
  rw [<-this,eRL]
  exact JR F.pnd
 refine⟨_,rfl,k H3 D (xH (·.name) RL) ((sC2.trans c3).trans bQ) ⟨?_,fun p hp h0=>?_⟩ nD⟩
 ·have:El (xH (·.name) RL) ps=RL.map fun q=>((Sum.inr q.1.name:Key),V.ref q.2):=by
   unfold El
   rw [<-eRL,List.map_map]
   refine List.map_congr_left fun q hq=>?_
   show((Sum.inr q.1.name:Key),V.ref (xH (·.name) RL q.1.name))=_
   rw [show xH (·.name) RL q.1.name=q.2 from pR nR hq]
  rw [this]
  exact eD3
 ·have hm:p∈RL.map (·.1):=by rw [eRL];exact List.mem_filter.mpr ⟨hp,by simp [h0]⟩
  obtain⟨q,hq,rfl⟩:=List.mem_map.mp hm
  rw [show xH (·.name) RL q.1.name=q.2 from pR nR hq]
  exact bQ _ _ (hRL q hq)
theorem Cy (i:Nat) (xs:List Str) (hs:List V):dU i xs hs=.non∨∃x,dU i xs hs=.str x:=by
 unfold dU
 split
 ·rename_i q _
  cases xs[q]? with
  | none=>exact .inl rfl
  | some x=>exact .inr ⟨x,rfl⟩
 ·exact .inl rfl
noncomputable def Vb (S:FS) (p:PD):List (Str×Int):=(cY p.kind p.nums (CJ S p) (S.k p.name)).map fun pv=>(strAt p.outs pv.1.toNat,pv.2)
noncomputable def jo (ls:List aH) (S:FS) (p:PD):Option (Str×Str):=match dU p.kind p.ins (bz S p) with
 | .str x=>some (x,("value" :Str))
 | _=>if ue S p=true then some (("" :Str),("end" :Str)) else match (Vb S p).find? (tQ ls S) with
  | some q=>some (q.1,("room" :Str))
  | none=>none
theorem Cr {ls:List aH} {S:FS} {p:PD} {x:Str} (h:dU p.kind p.ins (bz S p)=.str x):jo ls S p=some (x,("value" :Str)):=by unfold jo;rw [h]
theorem Il {ls:List aH} {S:FS} {p:PD} (h:dU p.kind p.ins (bz S p)=.non) (he:ue S p=true):jo ls S p=some (("" :Str),("end" :Str)):=by unfold jo;rw [h];exact if_pos he
theorem CP {ls:List aH} {S:FS} {p:PD} (h:dU p.kind p.ins (bz S p)=.non) (he:ue S p=false):jo ls S p=match (Vb S p).find? (tQ ls S) with
  | some q=>some (q.1,("room" :Str))
  | none=>none:=by unfold jo;rw [h];exact if_neg (by simp [he])
inductive BP (K:PySem.W.Frag) (t:jd) (vs:List V) (H:Hp) (Q:VK):Prop where
 | mk:∀(b:Nat) (r:Addr) (n:Nat) (A:mJ) (ls:List aH) (ps:List PD) (S:FS) (p:PD),vs=[.ref r,.str p.name]->lC t H r A.n A.f n->fY K t H A.n ls ps->dI K t H A ls ps S->DR b ls ps S->p∈ps->((jo ls S p=none->∀H',aK H H'->Q .non H'))->(∀x y,jo ls S p=some (x,y)->∀H' u,aK H H'->H u=none->H' u=some (.tup [.str p.name,.str x,.str y])->Q (.ref u) H')->BP K t vs H Q
@[irreducible] noncomputable def pG (K:PySem.W.Frag) (t:jd):Sp:=fun vs H Q _=>BP K t vs H Q
theorem My (T:Txt w K mg t):FO P w K mg base 6 t.G6 ["run", "name"] (pG K t):=by
 have sc:=T.zY.sc ["run", "name", "lane"]
 refine T.zY.F.ok sc (fun vs H Q E h=>?_) (fun cdv A outer s H vs Q E hr h=>?_)
 ·unfold pG at h
  obtain⟨b,r,n,A,ls,ps,S,p,rfl,_⟩:=h
  rfl
 ·unfold pG at h
  obtain⟨b,r,n,A,ls,ps,S,p,rfl,hR,N,W,O,hp,kN,kS⟩:=h
  refine⟨_,(ao (sN sc 2 (vJ (aY (pv 0) rfl) T.aQ T.aQ.me.2.2.2.2.2.2.1 (tX T) T.jV hr (aa (pv 1) ak aj)))
   (ao (bO (gY (vW (pv 2)))
    (aA (aO (cM (aa (pv 1) (aa (pv 2) (aa bK ak au) aj) aj))))
    bu)
   (ao (bO (gB (vJ (aY (pv 0) rfl) T.aQ T.aQ.me.2.2.2.2.1 (qx T) T.je hr (aa (pv 1) ak aj)))
    (aA (aO (cM (aa (pv 1) (aa bK (aa bK ak au) au) aj))))
    bu)
   (ao (sN sc 2 (vJ (pv 0) T.bN T.bN.me.2.1 (rB T) T.jx hr (aa (vJ (aY (pv 0) rfl) T.aQ T.aQ.me.2.2.2.2.2.2.2.1 (zb T) T.qj hr (aa (pv 1) ak aj)) ak bf)))
   (aA (aO (pC (gY (zR (pv 2))) uf (cM (aa (pv 1) (aa (pv 2) (aa bK ak au) aj) aj))))))))),?_⟩
  have hz:sizeLine=16777216:=sizeLine_eq
  have F:Cd ls ps:=by obtain⟨_,_,_,_,_,_,_,_,_,Wn⟩:=N;exact Wn.fit
  obtain⟨dxr,fsr,R0⟩:=id hR
  obtain⟨dx,fs,h1,h2⟩:=id W.at'.ex
  have vd:=rH (k:=fun x=>(S.d x:Int)) F.pnd hp
  refine⟨_,rfl,r,_,dxr,fsr,_,rfl,R0.1.1,T.bN.c,T.bN.na.2.1,R0.2.has ("flow",.ref A.f) (by simp),A.f,dx,fs,rfl,h1,h2.no _ (by decide +kernel),_,rfl,A,ls,ps,S,p,rfl,N,W,hp,fun H1 s1=>?_⟩
  rcases Cy p.kind p.ins (bz S p) with hlk | ⟨x,hlk⟩
  rotate_left
  ·rw [hlk]
   exact⟨_,rfl,_,rfl,gh ⟨_,rfl,_,rfl,iZ,fun u nu=>kS _ _ (Cr hlk) _ u (s1.trans (aB nu)) (s1.free nu) az⟩⟩
  rw [hlk]
  refine⟨_,rfl,_,rfl,cB ?_⟩
  obtain⟨dxr,fsr,R1⟩:=hR.same s1
  have W1:=W.same s1
  refine⟨_,rfl,r,_,dxr,fsr,_,rfl,R1.1.1,T.bN.c,T.bN.na.2.1,R1.2.has ("flow",.ref A.f) (by simp),A.f,dx,fs,rfl,s1 _ _ h1,h2.no _ (by decide +kernel),_,rfl,?_⟩
  cases he:ue S p with
  | true=>
   have h0:p.kind=0/\S.d p.name=(S.r p.name).length:=by unfold ue at he;simpa using he
   refine Oh W1.at' W1.rows W1.done (.inr ⟨_,_,S.d p.name,oX F.pnd hp h0.1,vd,bH.of (W1.rlst p hp h0.1),?_⟩)
   rw [decide_eq_true (by rw [lM];exact h0.2)]
   exact⟨_,rfl,gh ⟨_,rfl,iZ,fun u nu=>kS _ _ (Il hlk he) _ u (s1.trans (aB nu)) (s1.free nu) az⟩⟩
  | false=>
  have pick:∀(Q':VK) (E':XK),Q' (.bl false) H1->dG K t [.ref A.f,.str p.name] H1 Q' E':=by
   intro Q' E' z
   refine Oh W1.at' W1.rows W1.done ?_
   by_cases h0:p.kind=0
   ·refine .inr ⟨_,_,S.d p.name,oX F.pnd hp h0,vd,bH.of (W1.rlst p hp h0),?_⟩
    unfold ue at he
    simp [h0] at he
    rw [decide_eq_false (by rw [lM];exact he)]
    exact z
   ·exact .inl ⟨J3 F.pnd hp h0,z⟩
  refine pick _ _ ⟨_,rfl,cB ?_⟩
  clear pick
  refine⟨_,rfl,r,dxr,fsr,rfl,R1.1.1,R1.2.no _ (by decide +kernel),_,rfl,r,_,dxr,fsr,_,rfl,R1.1.1,T.bN.c,T.bN.na.2.1,R1.2.has ("flow",.ref A.f) (by simp),A.f,dx,fs,rfl,s1 _ _ h1,h2.no _ (by decide +kernel),_,rfl,?_⟩
  have hdd:jw S p=some ⟨(places p.kind (bz S p)).map (strAt p.ins),Vb S p,gf p.kind (CJ S p) (S.k p.name)⟩:=by unfold jw;rw [if_neg (by simp [hlk]),if_neg (by simp [he])];rfl
  refine Oe (N.same s1) W1 hp O (fun hn=>by rw [hdd] at hn;cases hn) (fun dd hd H2 U s2 nU DA=>?_)
  rw [hdd] at hd
  cases hd
  have s12:=s1.trans s2
  refine⟨r,n,A,ls,ps,S,_,U,_,rfl,hR.same s12,N.same s12,W.same s12,DA,(vN F hp hdd).gin,fun H3 s3=>?_⟩
  have s13:=s12.trans s3
  have ew:=CP (ls:=ls) hlk he
  unfold yV
  dsimp only
  cases hf:(Vb S p).find? (tQ ls S) with
  | none=>
   rw [hf] at ew
   exact⟨_,rfl,_,rfl,gh (kN ew _ s13)⟩
  | some q=>
   rw [hf] at ew
   exact⟨_,rfl,_,rfl,cB ⟨_,rfl,_,rfl,iZ,fun u nu=>kS _ _ ew _ u (s13.trans (aB nu)) (s13.free nu) az⟩⟩
theorem Ur {H:Hp} {Q:VK} {Ex:XK} {b:Nat} {r:Addr} {n:Nat} {A:mJ} {ls:List aH} {ps:List PD} {S:FS} {p:PD} (hR:lC t H r A.n A.f n) (N:fY K t H A.n ls ps) (W:dI K t H A ls ps S) (O:DR b ls ps S) (hp:p∈ps) (kN:jo ls S p=none->∀H',aK H H'->Q .non H')
  (kS:∀x y,jo ls S p=some (x,y)->∀H' u,aK H H'->H u=none->H' u=some (.tup [.str p.name,.str x,.str y])->Q (.ref u) H'):pG K t [.ref r,.str p.name] H Q Ex:=by
 unfold pG
 exact⟨b,r,n,A,ls,ps,S,p,rfl,hR,N,W,O,hp,kN,kS⟩
noncomputable def eO (ls:List aH) (S:FS) (ps:List PD):List (Str×Str×Str):=ps.filterMap fun p=>(jo ls S p).map fun w=>(p.name,w.1,w.2)
noncomputable def Mp (w:Str×Str×Str):List V:=[.str w.1,.str w.2.1,.str w.2.2]
theorem Rb (ls:List aH) (S:FS) (ps:List PD) (p:PD):eO ls S (ps ++ [p])=eO ls S ps ++ ((jo ls S p).map fun w=>(p.name,w.1,w.2)).toList:=by
 unfold eO
 rw [List.filterMap_append,List.filterMap_cons,List.filterMap_nil]
 cases jo ls S p <;> rfl
theorem JB (ls:List aH) (S:FS) (ps:List PD):(eO ls S ps).length<=ps.length:=List.length_filterMap_le _ _
inductive By (K:PySem.W.Frag) (t:jd) (vs:List V) (H:Hp) (Q:VK) (E:XK):Prop where
 | mk:∀(b:Nat) (r:Addr) (n:Nat) (A:mJ) (ls:List aH) (ps:List PD) (S:FS),vs=[.ref r]->lC t H r A.n A.f n->fY K t H A.n ls ps->dI K t H A ls ps S->DR b ls ps S->(∀(H':Hp) (L:Addr) (us:List Addr),aK H H'->H L=none->H' L=some (.lst (us.map V.ref))->dz H' us ((eO ls S ps).map Mp)->(∀u∈us,H u=none)->Q (.ref L) H')->By K t vs H Q E
theorem An (T:Txt w K mg t):FO P w K mg base 7 t.Df ["run"] (By K t):=by
 have sc:=T.sH.sc ["run", "waits"]
 refine T.sH.F.ok sc ln (fun _ _ _ _ H vs Q E hr h=>?_)
 obtain⟨b,r,n,A,ls,ps,S,rfl,hR,N,W,O,k⟩:=h
 refine⟨_,(ao (jX (i:=1) [0] ["run", "waits"] (aV (top 5)) rfl sc.nd rfl (bT (Nh (aY (pv 0) rfl) T.aU T.aU.me.2.2.1 (dH T) T.cJ hr)) (fun _ _ _ _ _=>gM) (fun _ _ _ _ _=>(dJ (My T) T.zY hr (aa (pv 1) (aa (pv 0) ak aj) aj))))
  (aA (aO (eN [] ["run", "waits"] (aV (top 5)) rfl (bT (pv 1)) (fun _ _ _ _ _=>(vB (gY (vW (pv 0))))) (fun _ _ _ _ _=>(pv 0)))))),?_⟩
 have hz:sizeLine=16777216:=sizeLine_eq
 obtain⟨dxn,fsn,R,F0,Pd,Gn,Tk,FL,PL,Wn⟩:=id N
 have p16:=Wn.fit.p16
 obtain⟨dxr,fsr,R0⟩:=id hR
 refine⟨_,rfl,r,_,dxr,fsr,_,rfl,R0.1.1,T.bN.c,T.bN.na.1,R0.2.has ("net",.ref A.n) (by simp),A.n,dxn,fsn,rfl,Wn.obj,Wn.fl.no _ (by decide +kernel),A.n,ls,ps,rfl,N,fun l nl=>?_⟩
 have s1:=aB (o:=.lst (ps.map fun x=>V.str x.name)) nl
 have el:upd H l (.lst (ps.map fun x=>V.str x.name)) l=some (.lst (ps.map fun x=>V.str x.name)):=az
 generalize upd H l (.lst (ps.map fun x=>V.str x.name))=H1 at s1 el ⊢
 refine⟨l,rfl,⟨_,bH.of el⟩,eE (K:=K) (a:=l) (xs:=ps.map fun x=>V.str x.name) (fun j ys H'=>aK H1 H'/\ys.length=j/\∃us:List Addr,ys.filter (fun v=>!decide (v=.non))=us.map V.ref/\dz H' us ((eO ls S (ps.take j)).map Mp)/\(∀u∈us,H u=none)/\∀v∈ys,v=.non∨∃u,v=.ref u) (by rw [lM];omega) ⟨aK.refl _,rfl,[],rfl,.nil,by simp,by simp⟩ (fun j ys H' h=>by omega) (fun j ys H' _ h=>h.1.seq (bH.of el)) ?_ ?_⟩
 ·rintro j x ys H2 hx ⟨s2,ly,us,eu,tu,fu,hv⟩
  rw [List.getElem?_map] at hx
  obtain⟨p,hpj,rfl⟩:=Option.map_eq_some_iff.mp hx
  have s12:=s1.trans s2
  rw [List.take_succ,hpj,Option.toList_some,Rb,List.map_append]
  refine yes ⟨_,rfl,_,rfl,Ur (hR.same s12) (N.same s12) (W.same s12) O (List.mem_of_getElem? hpj) (fun hn H3 s3=>?_) (fun x y hw H3 u s3 nu eu3=>?_)⟩
  ·rw [hn]
   refine⟨s2.trans s3,by rw [lP,ly];rfl,us,by rw [List.filter_append,eu];simp,by simpa using dz.same s3 tu,fu,fun v h=>?_⟩
   rcases List.mem_append.mp h with h | h
   ·exact hv v h
   ·exact .inl (List.mem_singleton.mp h)
  ·rw [hw]
   refine⟨s2.trans s3,by rw [lP,ly];rfl,us ++ [u],by rw [List.filter_append,eu];simp,(dz.same s3 tu).append (.cons eu3 .nil),fun z hz=>?_,fun v h=>?_⟩
   ·rcases List.mem_append.mp hz with h | h
    ·exact fu z h
    ·rw [List.mem_singleton.mp h];exact s12.free nu
   ·rcases List.mem_append.mp h with h | h
    ·exact hv v h
    ·exact .inr ⟨u,List.mem_singleton.mp h⟩
 rintro ys H2 ⟨s2,ly,us,eu,tu,fu,hv⟩ L1 nL1
 rw [lM] at ly
 rw [lM,List.take_length] at tu
 have t3:=aB (o:=.lst ys) nL1
 have eL1:upd H2 L1 (.lst ys) L1=some (.lst ys):=az
 have tu3:=dz.same t3 tu
 have s13:=(s1.trans s2).trans t3
 generalize upd H2 L1 (.lst ys)=H3 at t3 eL1 tu3 s13 ⊢
 refine⟨_,rfl,L1,rfl,⟨_,bH.of eL1⟩,eE (K:=K) (a:=L1) (xs:=ys) (fun j zs H'=>H'=H3/\zs=(ys.take j).filter (fun v=>!decide (v=.non))) (by omega) ⟨rfl,rfl⟩ (fun j zs H' ⟨_,e⟩=>by rw [e];exact Nat.le_trans (List.length_filter_le _ _) (by rw [List.length_take];omega)) (fun j zs H' _ ⟨e,_⟩=>by rw [e];exact bH.of eL1) ?_ ?_⟩
 ·rintro j v zs H' hj ⟨rfl,rfl⟩
  refine⟨_,rfl,_,rfl,?_⟩
  rw [List.take_succ,hj,Option.toList_some,List.filter_append]
  rcases hv v (List.mem_of_getElem? hj) with rfl | ⟨u,rfl⟩
  ·exact cB ⟨rfl,by simp⟩
  ·exact gh ⟨_,rfl,rfl,by simp⟩
 rintro zs H' ⟨rfl,rfl⟩ L2 nL2
 rw [List.take_length,eu]
 have t4:=aB (o:=.lst (us.map V.ref)) nL2
 exact k _ L2 us (s13.trans t4) (s13.free nL2) az (dz.same t4 tu3) fu
noncomputable def wZ {β:Type} (g:β->V) (m:List (Str×β)):List (Key×V):=m.map fun q=>((Sum.inr q.1:Key),g q.2)
noncomputable def Cg {β:Type} (m:List (Str×β)) (x:Str):Option β:=(m.find? fun q=>decide (q.1=x)).map (·.2)
noncomputable def putG {β:Type} (m:List (Str×β)) (x:Str) (b:β):List (Str×β):=if (m.any fun q=>decide (q.1=x))=true then m.map (fun q=>if q.1=x then(q.1,b) else q) else m ++ [(x,b)]
section
variable {β:Type} {g:β->V}
theorem vM (g:β->V) (m:List (Str×β)):(wZ g m).length=m.length:=by unfold wZ;rw [lM]
theorem CT (g:β->V) (x:Str):∀m:List (Str×β),bY (wZ g m) (Sum.inr x)=(Cg m x).map g
 | []=>rfl
 | q:: r=>by
  unfold wZ Cg
  rw [List.map_cons]
  by_cases h:q.1=x
  ·rw [gH (by rw [h]),List.find?_cons_of_pos (by simp [h])]
   rfl
  ·rw [fX (fun z=>h (Sum.inr.inj z)),List.find?_cons_of_neg (by simp [h])]
   exact CT g x r
theorem yf {H:Hp} {d:Addr} {m:List (Str×β)} (h:H d=some (.dK (wZ g m))) (x:Str):dM H d (.str x) ((Cg m x).map g):=by
 rw [<-CT]
 exact dM.k (k:=Sum.inr x) h
theorem RB {H:Hp} {d:Addr} {o:Obj} {m:List (Str×β)} (h:H d=some (.frz o (.dK (wZ g m)))) (x:Str):dM H d (.str x) ((Cg m x).map g):=.inl ⟨_,Sum.inr x,.inr ⟨o,h⟩,rfl,(CT g x m).symm⟩
theorem Vt (m:List (Str×β)) (x:Str):(m.any fun q=>decide (q.1=x))=(Cg m x).isSome:=by
 unfold Cg
 induction m with
 | nil=>rfl
 | cons q r ih=>
  rw [List.any_cons,ih]
  by_cases h:q.1=x
  ·rw [List.find?_cons_of_pos (by simp [h])];simp [h]
  ·rw [List.find?_cons_of_neg (by simp [h])];simp [h]
theorem Tc (q:Str×β) (r:List (Str×β)) (y:Str):Cg (q:: r) y=if q.1=y then some q.2 else Cg r y:=by
 unfold Cg
 by_cases h:q.1=y
 ·rw [List.find?_cons_of_pos (by simp [h]),if_pos h];rfl
 ·rw [List.find?_cons_of_neg (by simp [h]),if_neg h]
theorem OD {m:List (Str×β)} {x:Str} {b:β} (h:Cg m x=some b):(x,b)∈m:=by
 unfold Cg at h
 obtain⟨q,hq,rfl⟩:=Option.map_eq_some_iff.mp h
 have h1:=List.mem_of_find?_eq_some hq
 have h2:=List.find?_some hq
 simp only [decide_eq_true_eq] at h2
 rw [<-h2]
 exact h1
theorem Q9 {m:List (Str×β)} {x:Str} (h:x∉m.map (·.1)):Cg m x=none:=by
 cases e:Cg m x with
 | none=>rfl
 | some b=>exact absurd (List.mem_map.mpr ⟨_,OD e,rfl⟩) h
theorem Vk {m:List (Str×β)} {x:Str}:(Cg m x).isSome=true↔x∈m.map (·.1):=by
 constructor
 ·intro h
  obtain⟨b,e⟩:=Option.isSome_iff_exists.mp h
  exact List.mem_map.mpr ⟨_,OD e,rfl⟩
 ·intro h
  rw [<-Vt]
  obtain⟨q,hq,rfl⟩:=List.mem_map.mp h
  exact List.any_eq_true.mpr ⟨q,hq,by simp⟩
end
theorem CQ (x:Str) (xs:List Str):inV (.str x) (xs.map V.str)=decide (x∈xs):=by
 have:=Dz (f:=fun y:Str=>y) (xs:=xs) (x:=x)
 simpa using this
theorem rO (xs:List Str):(xs.map V.str).all mU=true:=by simp [mU]
theorem Rq {a b c:Nat} {σ:St} {H':Hp} {Q' Q'':Bool->Hp->Prop} (hm:∀b H,Q' b H->Q'' b H) (hq:Xz (tB (S8 (yL a) (yL b))) (HJ (UW (Wj K true) (yL a) (yL c))) σ H' Q'):Xz (tB (S8 (yL a) (yL b))) (HJ (UW (Wj K true) (yL a) (yL c))) σ H' Q'':=by
 obtain⟨v,e,u,e2,hq⟩:=hq
 refine⟨v,e,u,e2,?_⟩
 have go:∀{z:Bool},(if z=true then(HJ (UW (Wj K true) (yL a) (yL c))) σ H' Q' else Q' false H')->(if z=true then(HJ (UW (Wj K true) (yL a) (yL c))) σ H' Q'' else Q'' false H'):=fun {z} hq=>by
  split at hq
  ·rename_i hb
   rw [if_pos hb]
   obtain⟨v,e,u,e2,p',xs,e3,h1,h2,h3,b',e5,hq⟩:=hq
   exact⟨v,e,u,e2,p',xs,e3,h1,h2,h3,b',e5,hm _ _ hq⟩
  ·rename_i hb
   rw [if_neg hb]
   exact hm _ _ hq
 rcases hq with ⟨a,o,e3,g,b,e4,hq⟩ | ⟨a,kvs,e3,e4,rd,b,e5,hq⟩
 ·exact .key a o e3 g ⟨b,e4,go hq⟩
 ·exact .non a kvs e3 e4 rd ⟨b,e5,go hq⟩
theorem Vd (xs:List Str):inV .non (xs.map V.str)=false:=by
 unfold inV
 rw [List.any_map]
 refine List.any_eq_false.mpr fun x _=>?_
 simp [Mf]
theorem wz:∀{s:List Str} {a:Str},a∈s->s[s.idxOf a]?=some a/\∀m y,m <s.idxOf a->s[m]?=some y->y≠a
 | [],_,h=>by cases h
 | z:: s,a,h=>by
  rw [List.idxOf_cons]
  by_cases e:z=a
  ·rw [e]
   simp
  ·have hb:(z == a)=false:=by simpa using e
   rw [hb]
   rcases List.mem_cons.mp h with h | h
   ·exact absurd h.symm e
   obtain⟨i1,i2⟩:=wz h
   refine⟨by simpa using i1,fun m y hm hy=>?_⟩
   cases m with
   | zero=>rw [List.getElem?_cons_zero] at hy;rw [<-Option.some.inj hy];exact e
   | succ m=>rw [List.getElem?_cons_succ] at hy;exact i2 m y (by simp at hm;omega) hy
theorem yW:∀{l m:List Str},l.Nodup->(∀x∈l,x∈m)->l.length<=m.length
 | [],_,_,_=>Nat.zero_le _
 | a:: r,m,nd,h=>by
  rw [List.nodup_cons] at nd
  have ha:=h a List.mem_cons_self
  have:=yW (l:=r) (m:=m.erase a) nd.2 fun x hx=>(List.mem_erase_of_ne (fun z=>nd.1 (by rw [<-z];exact hx))).mpr (h x (List.mem_cons_of_mem _ hx))
  rw [List.length_erase_of_mem ha] at this
  have h1:=List.length_pos_of_mem ha
  rw [List.length_cons]
  omega
inductive xn (K:PySem.W.Frag) (vs:List V) (H:Hp) (Q:VK) (E:XK):Prop where
 | mk:∀(x:Str) (d:Addr) (m:List (Str×Option Str)),vs=[.str x,.ref d]->H d=some (.dK (wZ zm m))->m.length<=1000->(∀H' L r,aK H H'->H L=none->H' L=some (.lst (r.map V.str))->lN (Cg m) x r->Q (.ref L) H')->xn K vs H Q E
theorem Gm (T:Txt w K mg t):FO P w K mg base 1 t.za ["start", "leads"] (xn K):=by
 have sc:=T.sZ.sc ["start", "leads", "seen", "at"]
 refine T.sZ.F.ok sc ln (fun _ _ _ _ H vs Q E hr h=>?_)
 obtain⟨x,d,m,rfl,hd,hlen,k⟩:=h
 refine⟨_,(ao (sN sc 2 (bB ak))
  (ao (sN sc 3 (pv 0))
  (ao (Ef PassesOwn.never (PW.pt (qK (gY (V8 hr.u1 (pv 3) (pv 1))) (nj (aZ jf (pv 3) (pv 2) (by with_unfolding_all rfl)))))
   (ao (bI (JL (pv 2) (aa (pv 3) ak aj)))
   (aA (sN sc 3 (bZ hr.u1 (pv 1) (pv 3) (fun _ _=>rfl))))))
  (aA (aO (pC (aZ Hx (pv 3) (pv 2) (by with_unfolding_all rfl)) (jl qi (pv 2) (jU (yG PySem.F.plainAttrs_list PySem.F.slot_list_index PySem.F.type_list_index Hf (pv 2) (aa (pv 3) ak aj))) m8) (bB ak))))))),?_⟩
 have hz:sizeLine=16777216:=sizeLine_eq
 refine⟨iZ,fun S nS=>⟨_,rfl,?_⟩⟩
 refine DW (fun σ H'=>∃seen at0,σ=[some (.str x),some (.ref d),some (.ref S),some (zm at0)]/\H'=upd H S (.lst (seen.map V.str))/\Wk (Cg m) x seen at0) (fun σ H'=>m.length+1 - Hu H' S) ⟨[],some x,rfl,rfl,.start⟩ ?_ ?_
 ·rintro σ H' ⟨seen,at0,rfl,rfl,g⟩
  have ed:upd H S (.lst (seen.map V.str)) d=some (.dK (wZ zm m)):=by rw [aM (aD hd nS)];exact hd
  have eS:upd H S (.lst (seen.map V.str)) S=some (.lst (seen.map V.str)):=az
  have sS:aK H (upd H S (.lst (seen.map V.str))):=aB nS
  obtain⟨gnd,gin⟩:=g.nd
  have sl:seen.length<=m.length:=by
   have:=yW gnd (m:=m.map (·.1)) fun y hy=>Vk.mp (gin y hy)
   rwa [lM] at this
  cases at0 with
  | none=>
   refine⟨_,rfl,_,rfl,.non d _ rfl rfl (.inl ed) ⟨_,rfl,cB (cB ?_)⟩⟩
   refine⟨_,rfl,_,rfl,S,_,rfl,.inl (bH.of eS),rfl,rO _,_,rfl,?_⟩
   rw [show inV (zm none) (seen.map V.str)=false from Vd seen]
   refine cB ⟨iZ,fun L nL=>?_⟩
   exact k _ L [] (sS.trans (aB nL)) (sS.free nL) az ⟨seen,none,g,fun y z=>(by cases z),rfl⟩
  | some a=>
   refine⟨_,rfl,_,rfl,.key d _ rfl (yf ed a) ?_⟩
   cases e:Cg m a with
   | none=>
    have hm:a∉seen:=fun z=>by have:=gin a z;rw [e] at this;cases this
    refine⟨_,rfl,cB (cB ?_)⟩
    refine⟨_,rfl,_,rfl,S,_,rfl,.inl (bH.of eS),rfl,rO _,_,rfl,?_⟩
    rw [show inV (zm (some a)) (seen.map V.str)=decide (a∈seen) from CQ a seen,decide_eq_false hm]
    refine cB ⟨iZ,fun L nL=>?_⟩
    refine k _ L [] (sS.trans (aB nL)) (sS.free nL) az ⟨seen,some a,g,fun y z=>(by cases z;exact .inl e),?_⟩
    show []=if a∈seen then _ else []
    rw [if_neg hm]
   | some b=>
    refine⟨_,rfl,gh ?_⟩
    refine⟨_,rfl,_,rfl,S,_,rfl,.inl (bH.of eS),rfl,rO _,_,rfl,?_⟩
    rw [show inV (zm (some a)) (seen.map V.str)=decide (a∈seen) from CQ a seen]
    by_cases hm:a∈seen
    ·rw [decide_eq_true hm]
     refine cB ?_
     refine⟨_,rfl,_,rfl,S,_,rfl,.inl (bH.of eS),rfl,rO _,_,rfl,?_⟩
     rw [show inV (zm (some a)) (seen.map V.str)=decide (a∈seen) from CQ a seen,decide_eq_true hm]
     refine gh ?_
     obtain⟨i1,i2⟩:=wz hm
     refine⟨_,rfl,_,rfl,.inl ⟨rfl,_,bH.of eS⟩,_,rfl,S,seen,a,seen.idxOf a,rfl,rfl,eS,i1,i2,_,rfl,S,_,rfl,bH.of eS,fun L nL=>?_⟩
     rw [zZ,<-List.map_drop]
     refine k _ L _ (sS.trans (aB nL)) (sS.free nL) az ⟨seen,some a,g,fun y z=>(by cases z;exact .inr hm),?_⟩
     show _=if a∈seen then _ else []
     rw [if_pos hm]
    ·rw [decide_eq_false hm]
     refine gh ?_
     refine⟨_,rfl,.inl ⟨rfl,_,bH.of eS⟩,_,rfl,S,_,_,rfl,rfl,eS,by rw [lM];omega,?_⟩
     rw [qH]
     have ed2:upd H S (.lst (seen.map V.str ++ [.str a])) d=some (.dK (wZ zm m)):=by rw [aM (aD hd nS)];exact hd
     have g2:=yf ed2 a
     rw [e] at g2
     refine⟨_,rfl,_,rfl,d,_,rfl,g2,?_⟩
     have G:=g.step e hm
     have es:seen.map V.str ++ [V.str a]=(seen ++ [a]).map V.str:=by rw [List.map_append];rfl
     show(∃seen at0,_)/\_
     rw [show(zm (some a))=V.str a from rfl,es]
     refine⟨⟨seen ++ [a],b,rfl,rfl,G⟩,?_⟩
     show m.length+1 - Hu _ S <m.length+1 - Hu _ S
     rw [yD (az (H:=H) (a:=S) (o:=.lst ((seen ++ [a]).map V.str))),yD eS,lM,lM,lP,List.length_singleton]
     omega
 ·exact fun σ H' Q' Q'' hm hq=>Rq hm hq
theorem Ma {ls:List aH} {ps:List PD} (F:Cd ls ps) {p:PD} (hp:p∈ps) {x:Str} (hx:x∈p.outs):(ps.find? fun p=>decide (x∈p.outs))=some p:=by
 have nd:=F.whole.outs.nodup_iff.mpr F.whole.nod
 cases e:ps.find? fun p=>decide (x∈p.outs) with
 | none=>exact absurd (decide_eq_true hx) (List.find?_eq_none.mp e p hp)
 | some q=>rw [Dy nd (List.mem_of_find?_eq_some e) hp (by simpa using List.find?_some e) hx]
theorem Pa {ls:List aH} {ps:List PD} (F:Cd ls ps) {p:PD} (hp:p∈ps) {x:Str} (hx:x∈p.ins):(ps.find? fun p=>decide (x∈p.ins))=some p:=by
 have nd:=F.whole.ins.nodup_iff.mpr F.whole.nod
 cases e:ps.find? fun p=>decide (x∈p.ins) with
 | none=>exact absurd (decide_eq_true hx) (List.find?_eq_none.mp e p hp)
 | some q=>rw [Dy nd (List.mem_of_find?_eq_some e) hp (by simpa using List.find?_some e) hx]
noncomputable def Z4 (ls:List aH) (w:Str×Str×Str):Prop:=w.2.2= "value" ∨w.2.2= "room" ->w.2.1∈ls.map (·.name)
inductive Bp (K:PySem.W.Frag) (t:jd) (vs:List V) (H:Hp) (Q:VK) (E:XK):Prop where
 | mk:∀(n u:Addr) (ls:List aH) (ps:List PD) (w:Str×Str×Str),vs=[.ref n,.ref u]->fY K t H n ls ps->H u=some (.tup (Mp w))->Z4 ls w->(∀H',aK H H'->Q (zm (oH ps w)) H')->Bp K t vs H Q E
theorem uq (T:Txt w K mg t):FO P w K mg base 4 t.DK ["net", "wait"] (Bp K t):=by
 have sc:=T.pK.sc ["net", "wait"]
 refine T.pK.F.ok sc ln (fun _ _ _ _ H vs Q E hr h=>?_)
 obtain⟨n,u,ls,ps,w,rfl,N,hu,hw,k⟩:=h
 refine⟨_,(ao (bO (aZ eY (aR cj (pv 1) aq (fun _ _=>rfl)) bK (bF _))
   (aA (aO (vJ (pv 0) T.aU T.aU.me.2.2.2.2.2.2.2.2.2.1 (Ce T) T.pM hr (aa (aR cj (pv 1) aq (fun _ _=>rfl)) ak aF))))
   bu)
  (ao (bO (aZ eY (aR cj (pv 1) aq (fun _ _=>rfl)) bK (bF _))
   (aA (aO (vJ (pv 0) T.aU T.aU.me.2.2.2.2.2.2.2.2.2.2.1 (Cm T) T.oY hr (aa (aR cj (pv 1) aq (fun _ _=>rfl)) ak aF))))
   bu)
  (aA (aO uf)))),?_⟩
 have hz:sizeLine=16777216:=sizeLine_eq
 obtain⟨dxn,fsn,R,F0,Pd,Gn,Tk,FL,PL,Wn⟩:=id N
 have F:=Wn.fit
 have q2:Gk (Mp w) 2=some (.str w.2.2):=aN (j:=2) rfl
 have q1:Gk (Mp w) 1=some (.str w.2.1):=aN (j:=1) rfl
 unfold oH at k
 refine⟨_,rfl,u,_,2,_,rfl,rfl,fH.of hu,q2,rfl,_,rfl,iu (fun h=>?_) (fun h=>?_)⟩
 ·have h:w.2.2= "value" :=by simpa using of_decide_eq_true h
  obtain⟨l,hl,el⟩:=List.mem_map.mp (hw (.inl h))
  refine⟨_,rfl,n,dxn,fsn,rfl,Wn.obj,Wn.fl.no _ (by decide +kernel),_,rfl,u,_,1,_,rfl,rfl,fH.of hu,q1,n,ls,ps,w.2.1,rfl,N,.inl ⟨l,hl,el,fun p hp ho H' s=>?_⟩⟩
  have k':=k H' s
  rw [if_pos h,Ma F hp (by rw [<-el];exact ho)] at k'
  exact k'
 have h1:¬w.2.2= "value" :=fun z=>h (decide_eq_true (by rw [z]))
 refine⟨_,rfl,u,_,2,_,rfl,rfl,fH.of hu,q2,rfl,_,rfl,iu (fun h=>?_) (fun h=>?_)⟩
 ·have h:w.2.2= "room" :=by simpa using of_decide_eq_true h
  obtain⟨l,hl,el⟩:=List.mem_map.mp (hw (.inr h))
  refine⟨_,rfl,n,dxn,fsn,rfl,Wn.obj,Wn.fl.no _ (by decide +kernel),_,rfl,u,_,1,_,rfl,rfl,fH.of hu,q1,n,ls,ps,w.2.1,rfl,N,.inl ⟨l,hl,el,fun p hp ho H' s=>?_⟩⟩
  have k':=k H' s
  rw [if_neg h1,if_pos h,Pa F hp (by rw [<-el];exact ho)] at k'
  exact k'
 have h2:¬w.2.2= "room" :=fun z=>h (decide_eq_true (by rw [z]))
 have k':=k H (aK.refl _)
 rw [if_neg h1,if_neg h2] at k'
 exact k'
theorem TY (xs:List V) (g:Nat):xM xs none (some (g:Int))=xs.take g:=by
 unfold xM
 rw [HT.yE,HT.vQ,List.drop_zero,Nat.sub_zero]
 rcases Nat.le_total g xs.length with h | h
 ·rw [Nat.min_eq_left h]
 ·rw [Nat.min_eq_right h,List.take_of_length_le h,List.take_of_length_le (Nat.le_refl _)]
inductive wN (K:PySem.W.Frag) (vs:List V) (H:Hp) (Q:VK) (E:XK):Prop where
 | mk:∀(R N:Addr) (r names:List Str),vs=[.ref R,.ref N]->H R=some (.lst (r.map V.str))->H N=some (.lst (names.map V.str))->((∃y∈names,y∈r))->r.Nodup->names.length<=16->r.length<=1000->(∀H' L,aK H H'->H' L=some (.lst ((yr r names).map V.str))->Q (.ref L) H')->wN K vs H Q E
theorem Gr (T:Txt w K mg t):FO P w K mg base 1 t.zp ["ring", "names"] (wN K):=by
 have sc:=T.tE.sc ["ring", "names", "place"]
 refine T.tE.F.ok sc ln (fun _ _ _ _ H vs Q E hr h=>?_)
 obtain⟨R,N,r,names,rfl,hR,hN,hy,nd,l16,lr,k⟩:=h
 refine⟨_,(ao (sN sc 2 (yG PySem.F.plainAttrs_list PySem.F.slot_list_index PySem.F.type_list_index Hf (pv 0) (aa (aR aW (eN [0] ["ring", "names", "place"] (aV (top 8)) rfl (bT (pv 1)) (fun _ _ _ _ _=>(vB (aZ (Nj (K:=K) rfl) (pv 0) (pv 1) (by with_unfolding_all rfl)))) (fun _ _ _ _ _=>(pv 0))) aq (fun _ _=>rfl)) ak aF)))
  (aA (aO (bc NK (jl qi (pv 0) (jU (pv 2)) m8) (jl qi (pv 0) m8 (jU (pv 2))))))),?_⟩
 have hz:sizeLine=16777216:=sizeLine_eq
 obtain⟨y0,hy1,hy2⟩:=hy
 obtain⟨y,ey⟩:∃y,names.find? (fun y=>decide (y∈r))=some y:=by
  cases e:names.find? (fun y=>decide (y∈r)) with
  | none=>exact absurd (decide_eq_true hy2) (List.find?_eq_none.mp e y0 hy1)
  | some y=>exact⟨y,rfl⟩
 have hyr:y∈r:=by simpa using List.find?_some ey
 unfold yr at k
 rw [ey] at k
 refine⟨_,rfl,.inl ⟨rfl,_,bH.of hR⟩,_,rfl,N,rfl,⟨_,bH.of hN⟩,eE (K:=K) (a:=N) (xs:=names.map V.str) (fun j ys H'=>H'=H/\ys=((names.take j).filter fun y=>decide (y∈r)).map V.str) (by rw [lM];omega) ⟨rfl,rfl⟩ (fun j ys H' h=>by rw [h.2,lM];exact Nat.le_trans (List.length_filter_le _ _) (by rw [List.length_take];omega)) (fun j ys H' _ h=>by rw [h.1];exact bH.of hN) ?_ ?_⟩
 ·rintro j x ys H' hx ⟨rfl,rfl⟩
  rw [List.getElem?_map] at hx
  obtain⟨z,hzj,rfl⟩:=Option.map_eq_some_iff.mp hx
  refine⟨_,rfl,_,rfl,R,_,rfl,.inl (bH.of hR),rfl,rO _,_,rfl,?_⟩
  rw [CQ,List.take_succ,hzj,Option.toList_some,List.filter_append,List.filter_cons,List.filter_nil]
  by_cases hm:z∈r
  ·rw [decide_eq_true hm]
   exact gh ⟨_,rfl,rfl,by simp⟩
  ·rw [decide_eq_false hm]
   exact cB ⟨rfl,by simp⟩
 rintro ys H' ⟨rfl,rfl⟩ Lf nLf
 rw [lM,List.take_length]
 have t1:=aB (o:=.lst ((names.filter fun y=>decide (y∈r)).map V.str)) nLf
 have e0:(names.filter fun y=>decide (y∈r))[0]?=some y:=by rw [<-List.head?_eq_getElem?,List.head?_filter,ey]
 obtain⟨i1,i2⟩:=wz hyr
 refine⟨Lf,_,0,_,rfl,rfl,bH.of az,aN (j:=0) (by rw [List.getElem?_map,e0];rfl),R,r,y,r.idxOf y,rfl,rfl,t1 _ _ hR,i1,i2,?_⟩
 have hR1:=t1 _ _ hR
 generalize upd H' Lf (.lst ((names.filter fun y=>decide (y∈r)).map V.str))=H1 at t1 hR1 ⊢
 refine⟨_,rfl,_,rfl,_,rfl,R,_,rfl,bH.of hR1,fun a na=>?_⟩
 rw [zZ,<-List.map_drop]
 have t2:=aB (o:=.lst ((r.drop (r.idxOf y)).map V.str)) na
 refine⟨_,rfl,_,rfl,_,rfl,R,_,rfl,bH.of (t2 _ _ hR1),fun b nb=>?_⟩
 rw [TY,<-List.map_take]
 have t3:=aB (o:=.lst ((r.take (r.idxOf y)).map V.str)) nb
 refine⟨a,b,_,_,rfl,rfl,t3 _ _ az,az,by rw [lM,lM,List.length_drop,List.length_take];omega,fun L nL=>?_⟩
 refine k _ L (t1.trans (t2.trans (t3.trans (aB nL)))) ?_
 rw [az,List.map_append]
theorem zN {ls:List aH} {ps:List PD} {S:FS} (F:Cd ls ps) {p:PD} (hp:p∈ps) {x y:Str} (h:jo ls S p=some (x,y)):(y= "value" /\x∈ls.map (·.name))∨(x= "" /\y= "end")∨(y= "room" /\x∈ls.map (·.name)):=by
 rcases Cy p.kind p.ins (bz S p) with hlk | ⟨z,hlk⟩
 ·cases he:ue S p with
  | true=>rw [Il hlk he] at h;cases h;exact .inr (.inl ⟨rfl,rfl⟩)
  | false=>
   have hdd:jw S p=some ⟨(places p.kind (bz S p)).map (strAt p.ins),Vb S p,gf p.kind (CJ S p) (S.k p.name)⟩:=by unfold jw;rw [if_neg (by simp [hlk]),if_neg (by simp [he])];rfl
   rw [CP hlk he] at h
   cases e:(Vb S p).find? (tQ ls S) with
   | none=>rw [e] at h;cases h
   | some q=>
    rw [e] at h
    cases h
    exact .inr (.inr ⟨rfl,(vN F hp hdd).gin q (List.mem_of_find?_eq_some e)⟩)
 ·rw [Cr hlk] at h
  cases h
  refine .inl ⟨rfl,?_⟩
  unfold dU at hlk
  cases e:(places p.kind (bz S p)).find? (xG (bz S p)) with
  | none=>rw [e] at hlk;cases hlk
  | some q=>
   rw [e] at hlk
   dsimp only at hlk
   cases e2:p.ins[q]? with
   | none=>rw [e2] at hlk;cases hlk
   | some z=>
    rw [e2] at hlk
    cases hlk
    obtain⟨l,hl,e3⟩:=F.inL hp (List.mem_append.mpr (.inl (List.mem_of_getElem? e2)))
    exact List.mem_map.mpr ⟨l,hl,by rw [e3]⟩
theorem CK {ls:List aH} {ps:List PD} {S:FS} {w:Str×Str×Str} (h:w∈eO ls S ps):∃p∈ps,jo ls S p=some w.2/\w.1=p.name:=by
 obtain⟨p,hp,e⟩:=List.mem_filterMap.mp h
 obtain⟨w',hw,rfl⟩:=Option.map_eq_some_iff.mp e
 exact⟨p,hp,hw,rfl⟩
theorem PX {ls:List aH} {ps:List PD} {S:FS} (F:Cd ls ps) {w:Str×Str×Str} (h:w∈eO ls S ps):Z4 ls w:=by
 obtain⟨p,hp,h1,h2⟩:=CK h
 intro hv
 rcases zN F hp (x:=w.2.1) (y:=w.2.2) h1 with h | h | h
 ·exact h.2
 ·rw [h.2] at hv
  rcases hv with z | z <;> exact absurd z (by decide)
 ·exact h.2
theorem J0 (ls:List aH) (S:FS):∀ps:List PD,((eO ls S ps).map (·.1)).Sublist (ps.map (·.name))
 | []=>.slnil
 | p:: r=>by
  have ih:=J0 ls S r
  unfold eO at ih ⊢
  rw [List.filterMap_cons]
  cases jo ls S p with
  | none=>exact .cons _ ih
  | some w=>exact .cons₂ _ ih
noncomputable def jY (wts:List (Str×Str×Str)) (us:List Addr):List (Str×Addr):=(wts.zip us).map fun q=>(q.1.1,q.2)
noncomputable def Td (ps:List PD) (wts:List (Str×Str×Str)):List (Str×Option Str):=wts.map fun w=>(w.1,oH ps w)
theorem YX (ps:List PD) (wts:List (Str×Str×Str)):Cg (Td ps wts)=Cp ps wts:=by
 funext x
 unfold Cg Td Cp
 rw [List.find?_map,Option.map_map]
 rfl
theorem uR {ps:List PD} {wts:List (Str×Str×Str)} {x:Str} (h:(Cp ps wts x).isSome=true):∃w∈wts,w.1=x:=by
 unfold Cp at h
 cases e:wts.find? fun w=>decide (w.1=x) with
 | none=>rw [e] at h;cases h
 | some w=>exact⟨w,List.mem_of_find?_eq_some e,by simpa using List.find?_some e⟩
theorem Dh {H:Hp} {ps:List PD} {x:Str}:∀{wts:List (Str×Str×Str)} {us:List Addr},dz H us (wts.map Mp)->(Cp ps wts x=none/\Cg (jY wts us) x=none)∨∃u,Cg (jY wts us) x=some u/\H u=some (.tup (Mp (EY wts x)))/\Cp ps wts x=some (oH ps (EY wts x))/\EY wts x∈wts
 | [],us,_=>.inl ⟨rfl,by unfold jY Cg;simp⟩
 | w:: r,[],t=>nomatch t
 | w:: r,u:: us,t=>by
  have t:Paired (fun r vs=>H r=some (.tup vs)) (u:: us) (Mp w:: r.map Mp):=t
  cases t with
  | cons h t=>
  have e1:Cg (jY (w:: r) (u:: us)) x=if w.1=x then some u else Cg (jY r us) x:=Tc (w.1,u) (jY r us) x
  by_cases hx:w.1=x
  ·have e2:EY (w:: r) x=w:=by unfold EY;rw [List.find?_cons_of_pos (by simp [hx])];rfl
   refine .inr ⟨u,by rw [e1,if_pos hx],by rw [e2];exact h,?_,by rw [e2];exact List.mem_cons_self⟩
   rw [e2]
   unfold Cp
   rw [List.find?_cons_of_pos (by simp [hx])]
   rfl
  ·have e2:EY (w:: r) x=EY r x:=by unfold EY;rw [List.find?_cons_of_neg (by simp [hx])]
   have e3:Cp ps (w:: r) x=Cp ps r x:=by unfold Cp;rw [List.find?_cons_of_neg (by simp [hx])]
   rw [e1,if_neg hx,e2,e3]
   rcases Dh (ps:=ps) (x:=x) t with h | ⟨u',h1,h2,h3,h4⟩
   ·exact .inl h
   ·exact .inr ⟨u',h1,h2,h3,List.mem_cons_of_mem _ h4⟩
theorem yg {E:List Addr} {H:Hp}:∀{us:List Addr} {vss:List (List V)},(∀u∈us,u∉E)->dz H us vss->dz (bA E H) us vss
 | _,_,_,.nil=>.nil
 | _,_,hn,.cons h t=>.cons (dR h (hn _ List.mem_cons_self)) (yg (fun u hu=>hn u (List.mem_cons_of_mem _ hu)) t)
theorem Fx {H:Hp} {wts:List (Str×Str×Str)} {us:List Addr} (t:dz H us (wts.map Mp)):(jY wts us).length=wts.length/\us.length=wts.length/\(jY wts us).map (·.1)=wts.map (·.1):=by
 have e:us.length=(wts.map Mp).length:=Paired.length t
 rw [lM] at e
 unfold jY
 refine⟨by rw [lM,List.length_zip];omega,e,?_⟩
 rw [List.map_map]
 have:((fun q:Str×Addr=>q.1)∘fun q:(Str×Str×Str)×Addr=>(q.1.1,q.2))=(fun w:Str×Str×Str=>w.1)∘(fun q:(Str×Str×Str)×Addr=>q.1):=rfl
 rw [this,<-List.map_map,List.map_fst_zip (by omega)]
theorem Kh {wts:List (Str×Str×Str)} {us:List Addr} {j:Nat} {w:Str×Str×Str} {u:Addr} (h1:wts[j]?=some w) (h2:us[j]?=some u):(jY wts us)[j]?=some (w.1,u):=by
 unfold jY
 rw [List.getElem?_map,(List.getElem?_zip_eq_some (z:=(w,u))).mpr ⟨h1,h2⟩]
 rfl
theorem J6 {β:Type} {g:β->V} {m:List (Str×β)} {j:Nat} {x:Str} {b:β} (nd:(m.map (·.1)).Nodup) (hj:m[j]?=some (x,b)):putK (wZ g (m.take j)) (Sum.inr x) (g b)=wZ g (m.take (j+1)):=by
 have hn:x∉(m.take j).map (·.1):=by
  have:=lV (f:=fun q:Str×β=>q.1) nd hj
  exact this
 rw [jt _ (by rw [CT,Q9 hn];rfl),List.take_succ,hj]
 unfold wZ
 rw [List.map_append]
 rfl
theorem Jx {r names:List Str} {y:Str} (h:y∈yr r names):y∈r:=by
 unfold yr at h
 split at h
 ·rcases List.mem_append.mp h with h | h
  ·exact List.mem_of_mem_drop h
  ·exact List.mem_of_mem_take h
 ·cases h
theorem PK (r names:List Str):(yr r names).length<=r.length:=by
 unfold yr
 split
 ·rw [lP,List.length_drop,List.length_take];omega
 ·exact Nat.zero_le _
inductive rC (K:PySem.W.Frag) (t:jd) (vs:List V) (H:Hp) (Q:VK) (E:XK):Prop where
 | mk:∀(b:Nat) (r:Addr) (n:Nat) (A:mJ) (ls:List aH) (ps:List PD) (S:FS),vs=[.ref r]->lC t H r A.n A.f n->fY K t H A.n ls ps->dI K t H A ls ps S->DR b ls ps S->(∀(H':Hp) (L:Addr) (us:List Addr) (ws:List (Str×Str×Str)),aK H H'->H L=none->H' L=some (.lst (us.map V.ref))->dz H' us (ws.map Mp)->FP (Cp ps (eO ls S ps)) (ps.map (·.name)) (eO ls S ps) ws->Q (.ref L) H')->rC K t vs H Q E
noncomputable abbrev tY:List Str:=["run", "waits", "leads", "wait", "name", "ring"]
theorem Ae (T:Txt w K mg t):FO P w K mg base 8 t.uc ["run"] (rC K t):=by
 have sc:=T.lX.sc tY
 refine T.lX.F.ok sc ln (fun _ _ _ _ H vs Q E hr h=>?_)
 obtain⟨b,r,n,A,ls,ps,S,rfl,hR,N,W,O,k⟩:=h
 refine⟨_,(ao (sN sc 1 fD)
  (ao (sN sc 2 fD)
  (ao (dq PassesOwn.never rfl (bT (dJ (An T) T.sH hr (aa (pv 0) ak aj))) (gN sc 3)
   (ao (fW hr.u1 (pv 1) (aR cj (pv 3) aq (fun _ _=>rfl)) (pv 3) rfl)
   (aA (fW hr.u1 (pv 2) (aR cj (pv 3) aq (fun _ _=>rfl)) (dJ (uq T) T.pK hr (aa (aY (pv 0) rfl) (aa (pv 3) ak aj) bD)) rfl))))
  (ao (dq PassesOwn.never rfl (bT (Nh (aY (pv 0) rfl) T.aU T.aU.me.2.2.1 (dH T) T.cJ hr)) (gN sc 4)
   (ao (sN sc 5 (dJ (Gm T) T.sZ hr (aa (pv 4) (aa (pv 2) ak aj) aj)))
   (aA (bO (aZ Hv (bw bR (by rfl) T.eQ cP (aa (pv 5) ak aj)) aq (bF _))
    (aA (aO (eN [1] tY (aV (top 7)) rfl (bT (dJ (Gr T) T.tE hr (aa (pv 5) (aa (Nh (aY (pv 0) rfl) T.aU T.aU.me.2.2.1 (dH T) T.cJ hr) ak bf) aj))) (fun _ _ _ _ _=>gM) (fun _ _ _ _ _=>(bZ hr.u1 (pv 1) (pv 0) (fun _ _=>rfl))))))
    bu))))
  (aA (aO (bB ak))))))),?_⟩
 have hz:sizeLine=16777216:=sizeLine_eq
 have F:Cd ls ps:=by obtain⟨_,_,_,_,_,_,_,_,_,Wn⟩:=N;exact Wn.fit
 have p16:=F.p16
 refine fun D1 n1=>?_
 have q1:=aB (o:=.dK []) n1
 have d1:upd H D1 (.dK []) D1=some (.dK []):=az
 generalize upd H D1 (.dK [])=H1 at q1 d1 ⊢
 refine fun D2 n2=>?_
 have q2:=aB (o:=.dK []) n2
 have d2:upd H1 D2 (.dK []) D2=some (.dK []):=az
 have d1':=q2 _ _ d1
 have hne:D1≠D2:=fun z=>by rw [z,n2] at d1;cases d1
 have sC:aK H (bA [D1,D2] (upd H1 D2 (.dK []))):=fun b o e=>dR (q2 _ _ (q1 _ _ e)) (by simp;exact⟨aD e n1,aD e (q1.free n2)⟩)
 generalize upd H1 D2 (.dK [])=H2 at q2 d2 d1' sC ⊢
 have s2:=sC.trans bQ
 refine⟨_,rfl,b,r,n,A,ls,ps,S,rfl,hR.same s2,N.same s2,W.same s2,O,fun H3 Lw us s3 nLw eLw tU fU=>?_⟩
 have wok:=fun w (h:w∈eO ls S ps)=>PX F h
 have wsub:=J0 ls S ps
 have wlen:=JB ls S ps
 generalize eO ls S ps=wts at k tU wok wsub wlen
 have wnd:=F.pnd.sublist wsub
 obtain⟨zl,ul,zn⟩:=Fx tU
 have znd:((jY wts us).map (·.1)).Nodup:=by rw [zn];exact wnd
 have mnd:((Td ps wts).map (·.1)).Nodup:=by
  have:(Td ps wts).map (·.1)=wts.map (·.1):=by unfold Td;rw [List.map_map];rfl
  rw [this];exact wnd
 have ml:(Td ps wts).length=wts.length:=by unfold Td;rw [lM]
 have cE:∀a∈[D1,D2],∃o,H2 a=some o:=fun a ha=>by
  simp at ha
  rcases ha with rfl | rfl
  ·exact⟨_,d1'⟩
  ·exact⟨_,d2⟩
 have sC3:=sC.trans (uM s3 cE)
 have nw:Lw∉[D1,D2]:=fun z=>by obtain⟨o,e⟩:=cE _ z;rw [nLw] at e;cases e
 have eLw3:bA [D1,D2] H3 Lw=some (.lst (us.map V.ref)):=dR eLw nw
 have tU3:dz (bA [D1,D2] H3) us (wts.map Mp):=yg (fun u hu z=>by obtain⟨o,e⟩:=cE _ z;rw [fU u hu] at e;cases e) tU
 obtain⟨C,hC⟩:∃C,C=bA [D1,D2] H3:=⟨_,rfl⟩
 rw [<-hC] at sC3 eLw3 tU3
 refine⟨Lw,rfl,⟨_,bH.of eLw⟩,dD (K:=K) (a:=Lw) (xs:=us.map V.ref) (fun j σ H'=>(∃v3,σ=[some (.ref r),some (.ref D1),some (.ref D2),v3,none,none])/\aK C (bA [D1,D2] H')/\H' D1=some (.dK (wZ V.ref ((jY wts us).take j)))/\H' D2=some (.dK (wZ zm ((Td ps wts).take j)))) ⟨⟨none,rfl⟩,by rw [hC];exact aK.refl _,s3 _ _ d1',s3 _ _ d2⟩ (fun j σ H' _ h=>bH.of (bQ _ _ (h.2.1 _ _ eLw3))) ?_ ?_⟩
 ·rintro j x σ H4 hx ⟨⟨v3,rfl⟩,c4,e1,e2⟩
  rw [List.getElem?_map] at hx
  obtain⟨u,hu,rfl⟩:=Option.map_eq_some_iff.mp hx
  obtain⟨vs2,z1,z2⟩:=lQ tU3 hu
  rw [List.getElem?_map] at z1
  obtain⟨w,ew,rfl⟩:=Option.map_eq_some_iff.mp z1
  have hj:=(List.getElem?_eq_some_iff.mp ew).1
  have zj:=Kh ew hu
  have mj:(Td ps wts)[j]?=some (w.1,oH ps w):=by unfold Td;rw [List.getElem?_map,ew];rfl
  refine⟨_,rfl,_,rfl,_,rfl,u,_,0,_,rfl,rfl,fH.of (bQ _ _ (c4 _ _ z2)),aN (j:=0) rfl,D1,_,rfl,n6.k (k:=Sum.inr w.1) e1 (by rw [vM,List.length_take];omega),?_⟩
  rw [J6 (g:=V.ref) znd zj]
  have c5:aK C (bA [D1,D2] (upd H4 D1 (.dK (wZ V.ref ((jY wts us).take (j+1)))))):=by rw [dF (by simp)];exact c4
  have e15:upd H4 D1 (.dK (wZ V.ref ((jY wts us).take (j+1)))) D1=some (.dK (wZ V.ref ((jY wts us).take (j+1)))):=az
  have e25:upd H4 D1 (.dK (wZ V.ref ((jY wts us).take (j+1)))) D2=some (.dK (wZ zm ((Td ps wts).take j))):=by rw [aM (Ne.symm hne)];exact e2
  generalize upd H4 D1 (.dK (wZ V.ref ((jY wts us).take (j+1))))=H5 at c5 e15 e25 ⊢
  have s5:=(sC3.trans c5).trans bQ
  obtain⟨dxr,fsr,R1⟩:=hR.same s5
  refine⟨_,rfl,r,_,dxr,fsr,_,rfl,R1.1.1,T.bN.c,T.bN.na.1,R1.2.has ("net",.ref A.n) (by simp),_,rfl,A.n,u,ls,ps,w,rfl,N.same s5,bQ _ _ (c5 _ _ z2),wok w (List.mem_of_getElem? ew),fun H6 s6=>?_⟩
  have c6:=c5.trans (uM s6 (E:=[D1,D2]) fun a ha=>by
   simp at ha
   rcases ha with rfl | rfl
   ·exact⟨_,e15⟩
   ·exact⟨_,e25⟩)
  refine⟨_,rfl,_,rfl,u,_,0,_,rfl,rfl,fH.of (bQ _ _ (c6 _ _ z2)),aN (j:=0) rfl,D2,_,rfl,n6.k (k:=Sum.inr w.1) (s6 _ _ e25) (by rw [vM,List.length_take];omega),?_⟩
  rw [J6 (g:=zm) mnd mj]
  exact⟨⟨_,rfl⟩,by rw [dF (by simp)];exact c6,by rw [aM hne];exact s6 _ _ e15,az⟩
 rintro σ H4 ⟨⟨v3,rfl⟩,c4,e1,e2⟩
 rw [lM,ul,<-zl,List.take_length] at e1
 rw [lM,ul,<-ml,List.take_length] at e2
 have tU4:=dz.same (c4.trans bQ) tU3
 have s4:=(sC3.trans c4).trans bQ
 clear c4 tU3 eLw3 sC3 sC hC cE nw
 obtain⟨dxr,fsr,R1⟩:=hR.same s4
 obtain⟨dxn,fsn,R,F0,Pd,Gn,Tk,FL,PL,Wn⟩:=N.same s4
 refine⟨_,rfl,r,_,dxr,fsr,_,rfl,R1.1.1,T.bN.c,T.bN.na.1,R1.2.has ("net",.ref A.n) (by simp),A.n,dxn,fsn,rfl,Wn.obj,Wn.fl.no _ (by decide +kernel),A.n,ls,ps,rfl,Wn.s,fun l nl=>?_⟩
 have t5:=aB (o:=.lst (ps.map fun x=>V.str x.name)) nl
 have el:upd H4 l (.lst (ps.map fun x=>V.str x.name)) l=some (.lst (ps.map fun x=>V.str x.name)):=az
 have s5:=s4.trans t5
 have e15:=t5 _ _ e1
 have e25:=t5 _ _ e2
 have tU5:=dz.same t5 tU4
 generalize upd H4 l (.lst (ps.map fun x=>V.str x.name))=H5 at el s5 e15 e25 tU5 ⊢
 refine⟨l,rfl,⟨_,bH.of el⟩,dD (K:=K) (a:=l) (xs:=ps.map fun x=>V.str x.name) (fun j σ H'=>(∃v4 v5,σ=[some (.ref r),some (.ref D1),some (.ref D2),v3,v4,v5])/\aK H5 H'/\∀p∈ps.take j,lN (Cp ps wts) p.name []) ⟨⟨none,none,rfl⟩,aK.refl _,by simp⟩ (fun j σ H' _ h=>h.2.1.seq (bH.of el)) ?_ ?_⟩
 ·rintro j x σ H6 hx ⟨⟨v4,v5,rfl⟩,s6,hno⟩
  rw [List.getElem?_map] at hx
  obtain⟨p,hpj,rfl⟩:=Option.map_eq_some_iff.mp hx
  refine⟨_,rfl,_,rfl,p.name,D2,_,rfl,s6 _ _ e25,by omega,fun H7 Lr rg s7 nLr eLr hr=>?_⟩
  rw [YX] at hr
  refine⟨_,rfl,_,(rg.map V.str).length,rfl,.inl ⟨_,bH.of eLr,rfl⟩,_,_,rfl,rfl,_,rfl,?_⟩
  rw [lM]
  cases rg with
  | nil=>
   refine cB ⟨⟨_,_,rfl⟩,s6.trans s7,fun q hq=>?_⟩
   rw [List.take_succ,hpj,Option.toList_some] at hq
   rcases List.mem_append.mp hq with h | h
   ·exact hno q h
   ·rw [List.mem_singleton.mp h];exact hr
  | cons y0 rg'=>
   rw [decide_eq_true (by rw [List.length_cons];omega)]
   refine gh ?_
   have hrr:=hr.nd
   have s57:=s6.trans s7
   have s07:=s5.trans s57
   have hin:∀y∈y0:: rg',y∈ps.map (·.name):=fun y hy=>by
    obtain⟨w,hw,e⟩:=uR (hrr.2 y hy)
    exact wsub.subset (List.mem_map.mpr ⟨w,hw,e⟩)
   have rl:(y0:: rg').length<=16:=Nat.le_trans (yW hrr.1 hin) (by rw [lM];exact p16)
   obtain⟨dxr,fsr,R2⟩:=hR.same s07
   obtain⟨dxn,fsn,R,F0,Pd,Gn,Tk,FL,PL,Wn⟩:=N.same s07
   refine⟨_,rfl,_,rfl,r,_,dxr,fsr,_,rfl,R2.1.1,T.bN.c,T.bN.na.1,R2.2.has ("net",.ref A.n) (by simp),A.n,dxn,fsn,rfl,Wn.obj,Wn.fl.no _ (by decide +kernel),A.n,ls,ps,rfl,Wn.s,fun l2 nl2=>?_⟩
   have t8:=aB (o:=.lst (ps.map fun x=>V.str x.name)) nl2
   have el2:upd H7 l2 (.lst (ps.map fun x=>V.str x.name)) l2=some (.lst ((ps.map (·.name)).map V.str)):=by rw [az,List.map_map];rfl
   generalize upd H7 l2 (.lst (ps.map fun x=>V.str x.name))=H8 at t8 el2 ⊢
   refine⟨Lr,l2,y0:: rg',ps.map (·.name),rfl,t8 _ _ eLr,el2,⟨y0,hin y0 List.mem_cons_self,List.mem_cons_self⟩,hrr.1,by rw [lM];exact p16,by omega,fun H9 La s9 eLa=>?_⟩
   have s59:=s57.trans (t8.trans s9)
   have rtl:=Nat.le_trans (PK (y0:: rg') (ps.map (·.name))) rl
   have rtm:∀y∈yr (y0:: rg') (ps.map (·.name)),y∈y0:: rg':=fun y hy=>Jx hy
   have fin:∀ws,ws=(yr (y0:: rg') (ps.map (·.name))).map (EY wts)->FP (Cp ps wts) (ps.map (·.name)) wts ws:=fun ws e=>by
    refine .inr ⟨(ps.take j).map (·.name),p.name,(ps.drop (j+1)).map (·.name),_,?_,fun y hy=>?_,hr,by simp,e⟩
    ·rw [<-List.map_cons,<-List.map_append]
     congr 1
     obtain⟨hjl,e⟩:=List.getElem?_eq_some_iff.mp hpj
     rw [<-e,<-List.drop_eq_getElem_cons hjl,List.take_append_drop]
    ·obtain⟨q,hq,rfl⟩:=List.mem_map.mp hy
     exact hno q hq
   generalize yr (y0:: rg') (ps.map (·.name))=ro at eLa rtl rtm fin
   refine⟨La,rfl,⟨_,bH.of eLa⟩,eE (K:=K) (a:=La) (xs:=ro.map V.str) (fun i ys H'=>H'=H9/\∃vs:List Addr,ys=vs.map V.ref/\dz H9 vs (((ro.take i).map (EY wts)).map Mp)) (by rw [lM];omega) ⟨rfl,[],rfl,.nil⟩ (fun i ys H' h=>by obtain⟨_,vs,rfl,tv⟩:=h;have:vs.length=_:=Paired.length tv;rw [lM,lM,List.length_take] at this;rw [lM];omega) (fun i ys H' _ h=>by rw [h.1];exact bH.of eLa) ?_ ?_⟩
   ·rintro i x ys H' hx ⟨rfl,vs,rfl,tv⟩
    rw [List.getElem?_map] at hx
    obtain⟨y,hyi,rfl⟩:=Option.map_eq_some_iff.mp hx
    have hg:=hrr.2 y (rtm y (List.mem_of_getElem? hyi))
    rcases Dh (ps:=ps) (x:=y) (dz.same s59 tU5) with ⟨h,_⟩ | ⟨u,h1,h2,_,_⟩
    ·rw [h] at hg;cases hg
    have g2:=yf (s59 _ _ e15) y
    rw [h1] at g2
    refine yes ⟨_,rfl,_,rfl,D1,_,rfl,g2,rfl,vs ++ [u],by rw [List.map_append];rfl,?_⟩
    rw [List.take_succ,hyi,Option.toList_some,List.map_append,List.map_append]
    exact tv.append (.cons h2 .nil)
   rintro ys H' ⟨rfl,vs,rfl,tv⟩ Lz nLz
   rw [lM,List.take_length] at tv
   exact k _ Lz vs _ ((s5.trans s59).trans (aB nLz)) ((s5.trans s59).free nLz) az (dz.same (aB nLz) tv) (fin _ rfl)
 rintro σ H6 ⟨⟨v4,v5,rfl⟩,s6,hno⟩
 rw [lM,List.take_length] at hno
 refine⟨iZ,fun Lz nLz=>?_⟩
 exact k _ Lz [] [] ((s5.trans s6).trans (aB nLz)) ((s5.trans s6).free nLz) az .nil (.inl ⟨rfl,fun x hx=>by obtain⟨q,hq,rfl⟩:=List.mem_map.mp hx;exact hno q hq⟩)
inductive Ej (K:PySem.W.Frag) (t:jd) (vs:List V) (H:Hp) (Q:VK) (E:XK):Prop where
 | mk:∀(b:Nat) (r:Addr) (n:Nat) (A:mJ) (ls:List aH) (ps:List PD) (S:FS),vs=[.ref r]->lC t H r A.n A.f n->fY K t H A.n ls ps->dI K t H A ls ps S->DR b ls ps S->(∀(H':Hp),aK H H'->Q (.bl (!(ps.any fun p=>(fj ls S p).isSome))) H')->Ej K t vs H Q E
theorem FQ (T:Txt w K mg t):FO P w K mg base 8 t.GR ["run"] (Ej K t):=by
 have sc:=T.wy.sc ["run"]
 refine T.wy.F.ok sc ln (fun _ _ _ _ H vs Q E hr h=>?_)
 obtain⟨b,r,n,A,ls,ps,S,rfl,hR,N,W,O,k⟩:=h
 refine⟨_,(aA (aO (M3 (bw (Tq rfl) (by rfl) T.Zi Xm (aa (eN [0] ["run"] (aV (top 9)) rfl (bT (Nh (aY (pv 0) rfl) T.aU T.aU.me.2.2.1 (dH T) T.cJ hr)) (fun _ _ _ _ _=>gM) (fun _ _ _ _ _=>(vJ (pv 1) T.bN T.bN.me.2.2.2.2.2.1 (BV T) T.oM hr (aa (pv 0) ak aj)))) ak fB))))),?_⟩
 have hz:sizeLine=16777216:=sizeLine_eq
 obtain⟨dxn,fsn,R,F0,Pd,Gn,Tk,FL,PL,Wn⟩:=id N
 have p16:=Wn.fit.p16
 obtain⟨dxr,fsr,R0⟩:=id hR
 refine⟨_,rfl,r,_,dxr,fsr,_,rfl,R0.1.1,T.bN.c,T.bN.na.1,R0.2.has ("net",.ref A.n) (by simp),A.n,dxn,fsn,rfl,Wn.obj,Wn.fl.no _ (by decide +kernel),A.n,ls,ps,rfl,N,fun l nl=>?_⟩
 have s1:=aB (o:=.lst (ps.map fun x=>V.str x.name)) nl
 have el:upd H l (.lst (ps.map fun x=>V.str x.name)) l=some (.lst (ps.map fun x=>V.str x.name)):=az
 generalize upd H l (.lst (ps.map fun x=>V.str x.name))=H1 at s1 el ⊢
 refine⟨l,rfl,⟨_,bH.of el⟩,eE (K:=K) (a:=l) (xs:=ps.map fun x=>V.str x.name) (fun j ys H'=>aK H1 H'/\ys=((ps.take j).map fun p=>(fj ls S p).isSome).map V.bl) (by rw [lM];omega) ⟨aK.refl _,rfl⟩ (fun j ys H' h=>by rw [h.2,lM,lM,List.length_take];omega) (fun j ys H' _ h=>h.1.seq (bH.of el)) ?_ ?_⟩
 ·rintro j x ys H2 hx ⟨s2,rfl⟩
  rw [List.getElem?_map] at hx
  obtain⟨p,hpj,rfl⟩:=Option.map_eq_some_iff.mp hx
  have s12:=s1.trans s2
  obtain⟨dxr,fsr,R2⟩:=id (hR.same s12)
  refine yes ⟨_,rfl,r,dxr,fsr,rfl,R2.1.1,R2.2.no _ (by decide +kernel),_,rfl,b,r,n,A,ls,ps,S,p,rfl,hR.same s12,N.same s12,W.same s12,O,List.mem_of_getElem? hpj,fun H3 s3=>⟨s2.trans s3,?_⟩⟩
  rw [List.take_succ,hpj,Option.toList_some,List.map_append,List.map_append]
  rfl
 rintro ys H2 ⟨s2,rfl⟩ L nL
 rw [lM,List.take_length]
 refine⟨L,ps.map fun p=>(fj ls S p).isSome,rfl,bH.of az,_,rfl,?_⟩
 rw [List.any_map]
 exact k _ ((s1.trans s2).trans (aB nL))
noncomputable def Cj (RW:List (Str×Addr×List Int)) (x:Str) (a:Addr) (ws:List Int):List (Str×Addr×List Int):=if x∈RW.map (·.1) then RW.map (fun q=>if q.1=x then(x,a,ws) else q) else RW ++ [(x,a,ws)]
theorem XR (RW:List (Str×Addr×List Int)) (x:Str) (a:Addr) (ws:List Int):f9 (Cj RW x a ws)=putK (f9 RW) (Sum.inr x) (.ref a):=by
 unfold Cj putK
 by_cases h:x∈RW.map (·.1)
 ·rw [if_pos h,if_pos (by
   obtain⟨q,hq,rfl⟩:=List.mem_map.mp h
   exact List.any_eq_true.mpr ⟨_,List.mem_map.mpr ⟨q,hq,rfl⟩,by simp⟩)]
  unfold f9
  rw [List.map_map,List.map_map]
  refine List.map_congr_left fun q _=>?_
  by_cases e:q.1=x
  ·simp [e]
  ·simp [e]
 ·rw [if_neg h,if_neg (by
   intro z
   obtain⟨kv,hk,e⟩:=List.any_eq_true.mp z
   obtain⟨q,hq,rfl⟩:=List.mem_map.mp hk
   exact h (List.mem_map.mpr ⟨q,hq,by simpa using e⟩))]
  unfold f9
  rw [List.map_append]
  rfl
theorem Uv {RW:List (Str×Addr×List Int)} {x:Str} {a:Addr} {ws:List Int} {q:Str×Addr×List Int} (h:q∈Cj RW x a ws):q∈RW∨q=(x,a,ws):=by
 unfold Cj at h
 split at h
 ·obtain⟨q',hq,e⟩:=List.mem_map.mp h
  split at e
  ·exact .inr e.symm
  ·exact .inl (by rw [<-e];exact hq)
 ·rcases List.mem_append.mp h with h | h
  ·exact .inl h
  ·exact .inr (List.mem_singleton.mp h)
theorem V4 {RW:List (Str×Addr×List Int)} {x:Str} {a:Addr} {ws:List Int} (nd:(RW.map (·.1)).Nodup):((Cj RW x a ws).map (·.1)).Nodup:=by
 unfold Cj
 split
 ·have e:(RW.map (fun q=>if q.1=x then(x,a,ws) else q)).map (·.1)=RW.map (·.1):=by
   rw [List.map_map]
   refine List.map_congr_left fun q _=>?_
   by_cases h:q.1=x
   ·simp [h]
   ·simp [h]
  rw [e]
  exact nd
 ·rename_i h
  rw [List.map_append,List.nodup_append]
  exact⟨nd,by simp,fun b hb c hc z=>h (by simp at hc;rw [<-hc,<-z];exact hb)⟩
theorem Q5 (RW:List (Str×Addr×List Int)) (x:Str) (a:Addr) (ws:List Int):(Cj RW x a ws).length<=RW.length+1:=by
 unfold Cj
 split
 ·rw [lM];omega
 ·simp
structure yX (B H:Hp) (d:Addr) (m:Nat) (G:List V) (RW:List (Str×Addr×List Int)):Prop where
 at':oZ H d RW
 bnd:∀q∈RW,∀v∈q.2.2,0<=v/\v <1000000000
 door:∀q∈RW,V.str q.1∈G
 new:∀q∈RW,B q.2.1=none/\q.2.1≠d
 len:∀q∈RW,q.2.2.length<=m
theorem yX.same {B H H':Hp} {d:Addr} {m:Nat} {G:List V} {RW:List (Str×Addr×List Int)} (h:yX B H d m G RW) (s:aK H H'):yX B H' d m G RW:=⟨h.at'.same s,h.bnd,h.door,h.new,h.len⟩
theorem yX.put {B H:Hp} {d:Addr} {m:Nat} {G:List V} {RW:List (Str×Addr×List Int)} (h:yX B H d m G RW) {x:Str} {a:Addr} {ws:List Int} (ea:H a=some (.lst (ws.map V.int))) (na:B a=none) (nd:a≠d) (hx:V.str x∈G) (hb:∀v∈ws,0<=v/\v <1000000000) (hl:ws.length<=m) (hm:m<=299):
  yX B (upd H d (.dK (putK (f9 RW) (Sum.inr x) (.ref a)))) d m G (Cj RW x a ws):=by
 refine⟨⟨by rw [XR];exact az,fun q hq=>?_,V4 h.at'.nd,fun q hq=>?_⟩,fun q hq=>?_,fun q hq=>?_,fun q hq=>?_,fun q hq=>?_⟩ <;> rcases Uv hq with hq | rfl
 ·rw [aM (h.new q hq).2];exact h.at'.lists q hq
 ·rw [aM nd];exact ea
 ·exact h.at'.len q hq
 ·show ws.length<=300;omega
 ·exact h.bnd q hq
 ·exact hb
 ·exact h.door q hq
 ·exact hx
 ·exact h.new q hq
 ·exact⟨na,nd⟩
 ·exact h.len q hq
 ·exact hl
theorem Vo (RW:List (Str×Addr×List Int)) (x:Str) (a:Addr) (ws:List Int):Cj RW x a ws≠[]:=by
 unfold Cj
 split
 ·rename_i h
  intro z
  rw [List.map_eq_nil_iff.mp z] at h
  cases h
 ·simp
inductive yl (K:PySem.W.Frag) (vs:List V) (H:Hp) (Q:VK) (E:XK):Prop where
 | mk:∀(a P:Addr) (ns:List Int) (xs:List V) (ps:List PD) (st:Nat),vs=[.ref a,.ref P,.int (st:Nat)]->bH K H a (ns.map V.int)->H P=some (.lst xs)->jn (wL H) xs ps->ps.length<=16->(∀H' d RW,aK H H'->H d=none->yX H H' d 39 (dX ps "give") RW->RW.length<=16->(Mg ps->RW≠[])->Q (.ref d) H')->yl K vs H Q E
noncomputable abbrev Am:List Str:=["_law_script", "_law_parts", "_law_start", "_law_rows_here", "_law_part_here", "_law_j", "_law_one", "_law_row", "_law_cell_here", "_law_there"]
theorem Iu (T:Txt w K mg t):FO P w K mg base 3 t.Bb ["_law_script", "_law_parts", "_law_start"] (yl K):=by
 have sc:=T.vy.sc Am
 refine T.vy.F.ok sc ln (fun _ _ _ _ H vs Q E hr h=>?_)
 obtain⟨a,P,ns,xs,ps,st,rfl,hS,eP,aP,p16,k⟩:=h
 refine⟨_,(ao (sN sc 3 fD)
  (ao (dq PassesOwn.never rfl (bT (pv 1)) (gN sc 4)
   (aA (fQ (bO (aZ eY (aR cj (pv 4) aq (fun _ _=>rfl)) bK (bF _))
    (ao (sN sc 5 (bw Hd (by rfl) T.eQ cP (aa (pv 3) ak aj)))
    (ao (sN sc 6 (dJ (jc T) T.gU hr (aa (pv 0) (aa (pv 2) ak aj) aj)))
    (ao (jX (i:=7) [5,6] Am (aV (top 84)) rfl sc.nd rfl (fC rfl T.iC (aa (bc cz (dJ (bj T) T.bx hr (aa (pv 6) (aa (bc dm aq (pv 5)) ak bM) aj)) aq) ak bM)) (fun _ _ _ _ _=>gM) (fun _ _ _ _ _=>(dJ (iw T) T.fO hr (aa (pv 2) (aa (bc dm (bc dm aq (pv 0)) (bc jA aq (pv 1))) ak bM) aj))))
    (ao (dq PassesOwn.never rfl (bT (jl qi (pv 0) (jU (pv 2)) (jU (bc dm (pv 2) aq)))) (gN sc 8)
     (ao (sN sc 6 (dJ (iw T) T.fO hr (aa (pv 8) (aa (pv 5) ak aj) aj)))
     (ao (sN sc 9 (kW Hv (bc cz (dJ (bj T) T.bx hr (aa (pv 8) (aa (bc dm aq (pv 5)) ak bM) aj)) aq) aq (bF _)))
     (ao (fQ (bO (aZ eY (bc Jl (bc zT (pv 8) aq) aq) aq (bF _))
      (ao (sN sc 6 (bc cz (bc zT (pv 8) (bc dm aq (bc jA aq (pv 5)))) (bc M6 aq aq)))
      (aA (sN sc 9 (kW Gf (bc Jl (bc zT (pv 8) (bc jA aq (pv 5))) aq) aq (bF _)))))
      bu))
     (aA (fQ (bO (gB (pv 9))
      (aA (bI (JL (pv 7) (aa (pv 6) ak aj))))
      bu)))))))
    (aA (fW hr.u1 (pv 3) (aR cj (pv 4) aq (fun _ _=>rfl)) (pv 7) rfl))))))
    bu))))
  (aA (aO (pv 3))))),?_⟩
 have hz:sizeLine=16777216:=sizeLine_eq
 have xl:=aP.length
 refine fun d nd=>?_
 have s1:=aB (o:=.dK []) nd
 have ed:upd H d (.dK []) d=some (.dK []):=az
 have sB:aK H (bA [d] (upd H d (.dK []))):=fun b o e=>dR (s1 _ _ e) (by simpa using aD e nd)
 generalize upd H d (.dK [])=H1 at s1 ed sB ⊢
 have upB:∀{H':Hp} {o:HO},aK H H'->aK H (upd H' d o):=fun s b o e=>by rw [aM (aD e nd)];exact s b o e
 refine⟨_,rfl,P,rfl,⟨_,bH.of (s1 _ _ eP)⟩,dD (K:=K) (a:=P) (xs:=xs) (fun j σ H'=>(∃v4 v5 v6 v7 v8 v9,σ=[some (.ref a),some (.ref P),some (.int st),some (.ref d),v4,v5,v6,v7,v8,v9])/\aK H H'/\∃RW,yX H H' d 39 (dX ps "give") RW/\RW.length<=j/\((ps.take j).any (fun p=>p.kind == 0)=true->RW≠[])) ⟨⟨none,none,none,none,none,none,rfl⟩,s1,[],⟨⟨ed,by simp,by simp,by simp⟩,by simp,by simp,by simp,by simp⟩,Nat.le_refl _,fun h=>by simp at h⟩ (fun j σ H' _ h=>bH.of (h.2.1 _ _ eP)) ?_ ?_⟩
 ·rintro j x σ H2 hx ⟨⟨w4,w5,w6,w7,w8,w9,rfl⟩,s2,RW,hR,lR,hne⟩
  obtain⟨p,hpj,q,a1,a2,a3,rfl,hq,_⟩:=aP.get hx
  have hj:=(List.getElem?_eq_some_iff.mp hx).1
  have hq2:=s2 _ _ hq
  refine⟨fun σ' H'=>(∃v4 v5 v6 v7 v8 v9,σ'=[some (.ref a),some (.ref P),some (.int st),some (.ref d),v4,v5,v6,v7,v8,v9])/\aK H H'/\∃RW,yX H H' d 39 (dX ps "give") RW/\RW.length<=j+1/\((ps.take (j+1)).any (fun p=>p.kind == 0)=true->RW≠[]),?_,fun _ _ h=>h⟩
  refine⟨_,rfl,q,_,0,_,rfl,rfl,fH.of hq2,aN (j:=0) rfl,rfl,_,rfl,iu (fun hg=>?_) (fun hng=>⟨⟨_,_,_,_,_,_,rfl⟩,s2,RW,hR,by omega,fun h=>hne ?_⟩)⟩
  rotate_left
  ·rw [List.take_succ,hpj,Option.toList_some,List.any_append] at h
   have h0:¬p.kind=0:=fun z=>hng (decide_eq_true (by rw [z];rfl))
   simpa [h0] using h
  have hG:V.str p.name∈dX ps "give" :=List.mem_map.mpr ⟨p,List.mem_filter.mpr ⟨List.mem_of_getElem? hpj,by simpa using of_decide_eq_true hg⟩,rfl⟩
  refine⟨_,rfl,d,_,rfl,.inl hR.at'.dict,?_⟩
  have lK:((f9 RW).length:Int)=(RW.length:Int):=by unfold f9;rw [lM]
  refine⟨_,rfl,_,rfl,a,ns,st,rfl,s2.seq hS,?_⟩
  generalize jP ns st=c
  have h0:=Int.emod_nonneg (cg c (7+((f9 RW).length:Int))) (show(6:Int)≠0 by decide)
  have h1:=Int.emod_lt_of_pos (cg c (7+((f9 RW).length:Int))) (show(0:Int) <6 by decide)
  refine⟨_,rfl,_,rfl,_,_,rfl,rfl,_,_,rfl,_,_,rfl,rfl,by show(0:Int) <6;decide,_,rfl,by omega,by omega,?_⟩
  refine jE (fun i ys H'=>H'=H2/\∃ws:List Int,ys=ws.map V.int/\ws.length=i/\∀v∈ws,0<=v/\v <1000000000) (by omega) ⟨rfl,[],rfl,rfl,by simp⟩ (fun i ys H' ⟨_,ws,e,e2,_⟩=>by rw [e,lM];omega) ?_ ?_
  ·rintro i ys H' hi ⟨rfl,ws,rfl,hw,hB⟩
   refine yes ⟨_,rfl,_,rfl,_,_,rfl,rfl,_,rfl,_,_,rfl,rfl,gP,_,_,rfl,rfl,_,_,rfl,rfl,ws ++ [qZ c (30+(0+(i:Int))+9 * ((f9 RW).length:Int))],by simp,by simp [hw],fun v hv=>?_⟩
   rcases List.mem_append.mp hv with hv | hv
   ·exact hB v hv
   ·rw [List.mem_singleton] at hv
    subst hv
    exact ou _ _
  rintro ys H' ⟨rfl,ws,rfl,hw,hB⟩ u nu
  have t3:=aB (o:=.lst (ws.map V.int)) nu
  have eu:upd H' u (.lst (ws.map V.int)) u=some (.lst (ws.map V.int)):=az
  have nud:u≠d:=fun z=>by rw [z,hR.at'.dict] at nu;cases nu
  have nuH:=s2.free nu
  have s3:=s2.trans t3
  generalize upd H' u (.lst (ws.map V.int))=H3 at t3 eu s3 ⊢
  refine⟨_,rfl,_,rfl,_,rfl,_,rfl,_,_,rfl,rfl,_,rfl,a,_,rfl,s3.seq hS,fun Lc nLc=>⟨Lc,rfl,⟨_,bH.of az⟩,?_⟩⟩
  obtain⟨cs,ecs,lcs⟩:∃cs:List Int,xM (ns.map V.int) (some (st:Int)) (some ((st:Int)+34))=cs.map V.int/\cs.length<=34:=by
   refine⟨(ns.drop (min st ns.length)).take (min (st+34) ns.length - min st ns.length),(RV (ns.map V.int) st (st+34)).trans ?_,?_⟩
   ·rw [List.map_take,List.map_drop,lM]
   ·rw [List.length_take];omega
  rw [ecs]
  have t4:=aB (o:=.lst (cs.map V.int)) nLc
  have eLc:upd H3 Lc (.lst (cs.map V.int)) Lc=some (.lst (cs.map V.int)):=az
  have nLu:Lc≠u:=fun z=>by rw [z,eu] at nLc;cases nLc
  generalize upd H3 Lc (.lst (cs.map V.int))=H4 at t4 eLc ⊢
  have sC:aK H' (bA [u] H4):=fun b o e=>dR (t4 _ _ (t3 _ _ e)) (by simpa using aD e nu)
  have eLcC:bA [u] H4 Lc=some (.lst (cs.map V.int)):=dR eLc (by simpa using nLu)
  have C4:aK (bA [u] H4) H4:=bQ
  have cu:bA [u] H4 u=none:=by simp [bA]
  generalize bA [u] H4=C at sC eLcC C4 cu
  have hRC:=hR.same sC
  have hqC:=sC _ _ hq2
  refine dD (K:=K) (a:=Lc) (xs:=cs.map V.int) (fun i σ H5=>(∃v6 v8 v9,σ=[some (.ref a),some (.ref P),some (.int st),some (.ref d),some (.ref q),some (.int ((f9 RW).length:Nat)),v6,some (.ref u),v8,v9])/\aK C H5/\∃ws:List Int,H5 u=some (.lst (ws.map V.int))/\ws.length<=5+i/\∀v∈ws,0<=v/\v <1000000000) ⟨⟨_,_,_,rfl⟩,C4,ws,t4 _ _ eu,by omega,hB⟩ (fun i σ H5 _ h=>bH.of (h.2.1 _ _ eLcC)) ?_ ?_
  ·rintro i x σ H5 hx ⟨⟨x6,x8,x9,rfl⟩,s5,ws,eu5,lw,hB⟩
   rw [List.getElem?_map] at hx
   obtain⟨cc,hcc,rfl⟩:=Option.map_eq_some_iff.mp hx
   have hi:=(List.getElem?_eq_some_iff.mp hcc).1
   refine⟨_,rfl,_,rfl,_,_,rfl,?_⟩
   refine⟨_,rfl,_,rfl,_,_,rfl,rfl,_,_,rfl,_,_,rfl,rfl,by show(0:Int) <4;decide,_,_,rfl,rfl,?_⟩
   refine⟨fun σ H'=>∃(v:Int) (bb:Bool),(0<=v/\v <1000000000)/\σ=[some (.ref a),some (.ref P),some (.int st),some (.ref d),some (.ref q),some (.int ((f9 RW).length:Nat)),some (.int v),some (.ref u),some (.int cc),some (.bl bb)]/\H'=H5,?_,?_⟩
   ·refine⟨_,rfl,_,_,rfl,rfl,by show(0:Int)<=7;decide,_,_,rfl,rfl,rfl,_,rfl,iu (fun _=>?_) (fun _=>⟨_,_,ou _ _,rfl,rfl⟩)⟩
    have e9:(10:Int) ^ (9:Int).toNat=1000000000:=by decide
    refine⟨_,rfl,_,rfl,_,_,rfl,rfl,gP,_,_,rfl,rfl,_,_,rfl,rfl,by show(0:Int)<=8+30 * ((f9 RW).length:Int);omega,_,_,rfl,rfl,⟨by decide,by decide,by decide⟩,_,_,rfl,rfl,by show(0:Int) <10 ^ (9:Int).toNat;rw [e9];decide,?_⟩
    refine⟨_,rfl,_,rfl,_,_,rfl,rfl,gP,_,_,rfl,rfl,by show(0:Int)<=2 * ((f9 RW).length:Int);omega,_,_,rfl,rfl,rfl,?_⟩
    exact⟨_,_,⟨Int.emod_nonneg _ (by rw [e9];decide),by have:=Int.emod_lt_of_pos (cc / 2 ^ (8+30 * ((f9 RW).length:Int)).toNat) (show(0:Int) <10 ^ (9:Int).toNat by rw [e9];decide);rwa [e9] at this ⊢⟩,rfl,rfl⟩
   rintro σ H6 ⟨v,bb,hvb,rfl,rfl⟩
   refine⟨fun σ H5=>(∃v6 v8 v9,σ=[some (.ref a),some (.ref P),some (.int st),some (.ref d),some (.ref q),some (.int ((f9 RW).length:Nat)),v6,some (.ref u),v8,v9])/\aK C H5/\∃ws:List Int,H5 u=some (.lst (ws.map V.int))/\ws.length<=5+(i+1)/\∀v∈ws,0<=v/\v <1000000000,?_,fun _ _ h=>h⟩
   refine⟨_,rfl,_,rfl,iu (fun _=>?_) (fun _=>⟨⟨_,_,_,rfl⟩,s5,ws,eu5,by omega,hB⟩)⟩
   refine⟨_,rfl,.inl ⟨rfl,_,bH.of eu5⟩,_,rfl,u,_,.int _,rfl,rfl,eu5,by rw [lM];omega,⟨_,_,_,rfl⟩,fun b o e=>?_,ws ++ [v],by rw [az,List.map_append];rfl,by rw [lP,List.length_singleton];omega,fun v hv=>?_⟩
   ·rw [aM (fun z=>by rw [z,cu] at e;cases e)]
    exact s5 b o e
   ·rcases List.mem_append.mp hv with hv | hv
    ·exact hB v hv
    ·rw [List.mem_singleton] at hv
     subst hv
     exact hvb
  rintro σ H5 ⟨⟨x6,x8,x9,rfl⟩,s5,ws,eu5,lw,hB⟩
  rw [lM] at lw
  have hR5:=hRC.same s5
  refine⟨_,rfl,_,rfl,_,rfl,q,_,1,_,rfl,rfl,fH.of (s5 _ _ hqC),aN (j:=1) rfl,d,_,rfl,n6.k (k:=Sum.inr p.name) hR5.at'.dict (by unfold f9;rw [lM];omega),⟨_,_,_,_,_,_,rfl⟩,upB ((s2.trans sC).trans s5),Cj RW p.name u ws,hR5.put eu5 nuH nud hG hB (by omega) (by decide),?_,fun _=>Vo _ _ _ _⟩
  have:=Q5 RW p.name u ws
  omega
 rintro σ H2 ⟨⟨w4,w5,w6,w7,w8,w9,rfl⟩,s2,RW,hR,lR,hne⟩
 rw [xl,List.take_length] at hne
 exact⟨_,rfl,k H2 d RW s2 nd hR (by omega) hne⟩
theorem UL:∀i,i <11->decide (V.str (fc i)=V.str "take")=decide (i=1):=by decide +kernel
inductive yS (K:PySem.W.Frag) (vs:List V) (H:Hp) (Q:VK) (E:XK):Prop where
 | mk:∀(P:Addr) (xs:List V) (ps:List PD) (c:Int),vs=[.ref P,.int c]->H P=some (.lst xs)->jn (wL H) xs ps->((∀p∈ps,p.kind <11))->ps.length<=16->(∀(H':Hp) (p:Addr) (zs:List Str),aK H H'->H p=none->H' p=some (.lst (zs.map V.str))->(∀x∈zs,V.str x∈dX ps "give" ++ dX ps "take")->Q (.ref p) H')->yS K vs H Q E
noncomputable abbrev qG:List Str:=["_law_parts", "_law_cell_here", "_law_doors", "_law_bits"]
theorem JH (T:Txt w K mg t):FO P w K mg base 2 t.Ar ["_law_parts", "_law_cell_here"] (yS K):=by
 have sc:=T.uL.sc qG
 refine T.uL.F.ok sc ln (fun _ _ _ _ H vs Q E hr h=>?_)
 obtain⟨P,xs,ps,c,rfl,eP,aP,hk,p16,k⟩:=h
 refine⟨_,(ao (sN sc 2 (eN [] qG (aV (top 85)) rfl (bT (pv 0)) (fun _ _ _ _ _=>(vB (PW.pt (vp (aZ eY (aR (nQ (K:=K) rfl) (pv 0) aq (fun _ _=>rfl)) bK (bF _)) (oJ (aZ eY (aR (nQ (K:=K) rfl) (pv 0) aq (fun _ _=>rfl)) bK (bF _))))))) (fun _ _ _ _ _=>(aR (nQ (K:=K) rfl) (pv 0) aq (fun _ _=>rfl)))))
  (ao (bO (aZ eY (bc Jl (bc zT (pv 1) aq) aq) aq (bF _))
   (ao (sN sc 3 (bc zT (pv 1) aq))
   (aA (aO (eN [2,3] qG (aV (top 85)) rfl (fC rfl T.iC (aa (bw bR (by rfl) T.eQ cP (aa (pv 2) ak aj)) ak bf)) (fun _ _ _ _ _=>(vB (aZ eY (bc Jl (bc zT (pv 2) (bc jA aq (pv 0))) aq) aq (bF _)))) (fun _ _ _ _ _=>(aR (CV (K:=K) rfl) (pv 1) (pv 0) (fun _ _=>rfl)))))))
   bu)
  (ao (bO (aZ eY (bc cz (dJ (bj T) T.bx hr (aa (pv 1) (aa aq ak au) aj)) aq) aq (bF _))
   (aA (aO (bB ak)))
   bu)
  (aA (aO (eN [1,2] qG (aV (top 85)) rfl (fC rfl T.iC (aa (bw bR (by rfl) T.eQ cP (aa (pv 2) ak aj)) ak bf)) (fun _ _ _ _ _=>(vB (aZ eY (bc cz (dJ (bj T) T.bx hr (aa (pv 1) (aa (bc dm aq (pv 0)) ak bM) aj)) aq) aq (bF _)))) (fun _ _ _ _ _=>(aR (CV (K:=K) rfl) (pv 2) (pv 0) (fun _ _=>rfl))))))))),?_⟩
 have hz:sizeLine=16777216:=sizeLine_eq
 have xl:=aP.length
 refine⟨_,rfl,P,rfl,⟨_,bH.of eP⟩,eE (K:=K) (a:=P) (xs:=xs) (fun j ys H'=>H'=H/\ys=((ps.take j).filter fun p=>decide (p.kind <2)).map fun p=>V.str p.name) (by omega) ⟨rfl,rfl⟩ (fun j ys H' h=>by rw [h.2,lM];exact Nat.le_trans (List.length_filter_le _ _) (by rw [List.length_take];omega)) (fun j ys H' _ h=>by rw [h.1];exact bH.of eP) ?_ ?_⟩
 ·rintro j x ys H1 hx ⟨rfl,rfl⟩
  obtain⟨p,hpj,q,a1,a2,a3,rfl,hq,_⟩:=aP.get hx
  have hk':=hk p (List.mem_of_getElem? hpj)
  refine⟨_,rfl,q,_,0,_,rfl,rfl,fH.of hq,aN (j:=0) rfl,rfl,_,rfl,?_⟩
  rw [V3 _ hk',List.take_succ,hpj,Option.toList_some,List.filter_append,List.map_append,List.filter_cons]
  by_cases h0:p.kind=0
  ·rw [decide_eq_true h0]
   exact gh (gh ⟨_,rfl,q,_,1,_,rfl,rfl,fH.of hq,aN (j:=1) rfl,rfl,by rw [if_pos (by simp [h0])];rfl⟩)
  ·rw [decide_eq_false h0]
   refine cB ⟨_,rfl,q,_,0,_,rfl,rfl,fH.of hq,aN (j:=0) rfl,rfl,_,rfl,?_⟩
   rw [UL _ hk']
   by_cases h1:p.kind=1
   ·rw [decide_eq_true h1]
    exact gh ⟨_,rfl,q,_,1,_,rfl,rfl,fH.of hq,aN (j:=1) rfl,rfl,by rw [if_pos (by simp [h1])];rfl⟩
   ·rw [decide_eq_false h1]
    exact cB ⟨rfl,by rw [if_neg (by simp;omega)];simp⟩
 rintro zs H1 ⟨rfl,rfl⟩ Ld nLd
 rw [xl,List.take_length]
 obtain⟨ds,hds⟩:∃ds:List Str,ds=(ps.filter fun p=>decide (p.kind <2)).map fun p=>p.name:=⟨_,rfl⟩
 have lds:ds.length<=16:=by rw [hds,lM];exact Nat.le_trans (List.length_filter_le _ _) p16
 have dds:∀x∈ds,V.str x∈dX ps "give" ++ dX ps "take" :=fun x hx=>by
  rw [hds] at hx
  obtain⟨p,hp,rfl⟩:=List.mem_map.mp hx
  obtain⟨hp,h2⟩:=List.mem_filter.mp hp
  have h2:=of_decide_eq_true h2
  refine List.mem_append.mpr ?_
  have:p.kind=0∨p.kind=1:=by omega
  rcases this with h | h
  ·exact .inl (List.mem_map.mpr ⟨p,List.mem_filter.mpr ⟨hp,by rw [h];rfl⟩,rfl⟩)
  ·exact .inr (List.mem_map.mpr ⟨p,List.mem_filter.mpr ⟨hp,by rw [h];rfl⟩,rfl⟩)
 have mds:((ps.filter fun p=>decide (p.kind <2)).map fun p=>V.str p.name)=ds.map V.str:=by rw [hds,List.map_map];rfl
 rw [mds]
 have t1:=aB (o:=.lst (ds.map V.str)) nLd
 have eLd:upd H1 Ld (.lst (ds.map V.str)) Ld=some (.lst (ds.map V.str)):=az
 generalize upd H1 Ld (.lst (ds.map V.str))=H2 at t1 eLd ⊢
 refine⟨_,rfl,_,_,rfl,rfl,by show(0:Int)<=79;decide,_,_,rfl,rfl,rfl,_,rfl,iu (fun _=>?_) (fun _=>?_)⟩
 ·refine⟨_,rfl,_,_,rfl,rfl,by show(0:Int)<=80;decide,_,rfl,_,(ds.map V.str).length,rfl,.inl ⟨_,bH.of eLd,rfl⟩,_,rfl,by omega,by rw [lM];omega,?_⟩
  refine jE (fun i ys H'=>H'=H2/\ys.length<=i/\∃zs:List Str,ys=zs.map V.str/\∀x∈zs,x∈ds) (by rw [Int.toNat_natCast,lM];omega) ⟨rfl,Nat.le_refl _,[],rfl,by simp⟩ (fun i ys H' h=>h.2.1) ?_ ?_
  ·rintro i ys H' hi ⟨rfl,ly,zs,rfl,hzs⟩
   rw [Int.toNat_natCast,lM] at hi
   refine⟨_,rfl,_,rfl,_,_,rfl,rfl,gP,_,_,rfl,rfl,by show(0:Int)<=2 * (0+(i:Int));omega,_,_,rfl,rfl,rfl,_,rfl,iu (fun _=>?_) (fun _=>⟨rfl,Nat.le_succ_of_le ly,zs,rfl,hzs⟩)⟩
   refine⟨_,rfl,_,rfl,Ld,_,_,.str ds[i],rfl,rfl,bH.of eLd,?_,rfl,by rw [lP];simp;simpa using ly,zs ++ [ds[i]],by simp,fun x hx=>?_⟩
   ·rw [show(0:Int)+(i:Int)=(i:Int) by omega]
    exact aN (by rw [List.getElem?_map,List.getElem?_eq_getElem hi];rfl)
   ·rcases List.mem_append.mp hx with h | h
    ·exact hzs x h
    ·rw [List.mem_singleton] at h
     rw [h]
     exact List.getElem_mem hi
  rintro ys H' ⟨rfl,_,zs,rfl,hzs⟩ p np
  exact k _ p zs (t1.trans (aB np)) (t1.free np) az fun x hx=>dds x (hzs x hx)
 refine⟨_,rfl,_,_,rfl,_,_,rfl,rfl,by show(0:Int) <3;decide,rfl,_,rfl,iu (fun _=>?_) (fun _=>?_)⟩
 ·exact⟨iZ,fun p np=>k _ p [] (t1.trans (aB np)) (t1.free np) az (by simp)⟩
 refine⟨_,rfl,_,(ds.map V.str).length,rfl,.inl ⟨_,bH.of eLd,rfl⟩,_,rfl,by omega,by rw [lM];omega,?_⟩
 refine jE (fun i ys H'=>H'=H2/\ys.length<=i/\∃zs:List Str,ys=zs.map V.str/\∀x∈zs,x∈ds) (by rw [Int.toNat_natCast,lM];omega) ⟨rfl,Nat.le_refl _,[],rfl,by simp⟩ (fun i ys H' h=>h.2.1) ?_ ?_
 ·rintro i ys H' hi ⟨rfl,ly,zs,rfl,hzs⟩
  rw [Int.toNat_natCast,lM] at hi
  refine⟨_,rfl,_,rfl,_,_,rfl,rfl,_,_,rfl,_,_,rfl,rfl,by show(0:Int) <3;decide,rfl,_,rfl,iu (fun _=>?_) (fun _=>⟨rfl,Nat.le_succ_of_le ly,zs,rfl,hzs⟩)⟩
  refine⟨_,rfl,_,rfl,Ld,_,_,.str ds[i],rfl,rfl,bH.of eLd,?_,rfl,by rw [lP];simp;simpa using ly,zs ++ [ds[i]],by simp,fun x hx=>?_⟩
  ·rw [show(0:Int)+(i:Int)=(i:Int) by omega]
   exact aN (by rw [List.getElem?_map,List.getElem?_eq_getElem hi];rfl)
  ·rcases List.mem_append.mp hx with h | h
   ·exact hzs x h
   ·rw [List.mem_singleton] at h
    rw [h]
    exact List.getElem_mem hi
 rintro ys H' ⟨rfl,_,zs,rfl,hzs⟩ p np
 exact k _ p zs (t1.trans (aB np)) (t1.free np) az fun x hx=>dds x (hzs x hx)
structure Zk (H:Hp) (D:Addr) (us:List Addr) (wts:List (Str×Str×Str)):Prop where
 dict:Rd H D (.dK (wZ V.ref (jY wts us)))
 tups:dz H us (wts.map Mp)
theorem Zk.same {H H':Hp} {D:Addr} {us:List Addr} {wts:List (Str×Str×Str)} (h:Zk H D us wts) (s:aK H H'):Zk H' D us wts:=⟨h.dict.elim (fun e=>.inl (s _ _ e)) (fun⟨o,e⟩=>.inr ⟨o,s _ _ e⟩),dz.same s h.tups⟩
theorem Kg {β:Type} {g:β->V} {H:Hp} {d:Addr} {m:List (Str×β)} (h:Rd H d (.dK (wZ g m))) (x:Str):dM H d (.str x) ((Cg m x).map g):=h.elim (fun e=>yf e x) (fun⟨_,e⟩=>RB e x)
theorem Wk.next {f:Str->Option (Option Str)} {x:Str} {s:List Str} {a:Option Str} (h:Wk f x s a):∀i y,s[i]?=some y->f y=some (if i+1 <s.length then s[i+1]? else a):=by
 induction h with
 | start=>intro i y e;simp at e
 | @step seen a b w e hn ih=>
  intro i y hy
  by_cases hi:i <seen.length
  ·rw [List.getElem?_append_left hi] at hy
   rw [ih i y hy,if_pos (show i+1 <(seen ++ [a]).length by rw [lP,List.length_singleton];omega)]
   by_cases h2:i+1 <seen.length
   ·rw [if_pos h2,List.getElem?_append_left h2]
   ·rw [if_neg h2,List.getElem?_append_right (by omega),show i+1 - seen.length=0 by omega]
    rfl
  ·have hl:=(List.getElem?_eq_some_iff.mp hy).1
   rw [lP,List.length_singleton] at hl
   have:i=seen.length:=by omega
   subst this
   rw [List.getElem?_append_right (Nat.le_refl _),Nat.sub_self] at hy
   have:a=y:=by simpa using hy
   rw [<-this,e,if_neg (by rw [lP,List.length_singleton];omega)]
theorem Qc {ps:List PD} {w:Str×Str×Str} {z:Str} (h:oH ps w=some z):z∈ps.map (·.name):=by
 unfold oH at h
 split at h
 ·obtain⟨p,hp,rfl⟩:=Option.map_eq_some_iff.mp h
  exact List.mem_map.mpr ⟨p,List.mem_of_find?_eq_some hp,rfl⟩
 ·split at h
  ·obtain⟨p,hp,rfl⟩:=Option.map_eq_some_iff.mp h
   exact List.mem_map.mpr ⟨p,List.mem_of_find?_eq_some hp,rfl⟩
  ·cases h
theorem Ut {ps:List PD} {wts:List (Str×Str×Str)} {x z:Str} (h:Cp ps wts x=some (some z)):z∈ps.map (·.name):=by
 unfold Cp at h
 obtain⟨w,_,e⟩:=Option.map_eq_some_iff.mp h
 exact Qc e
theorem Mt {ps:List PD} {wts:List (Str×Str×Str)} {x:Str} (h:x∈wts.map (·.1)):Cp ps wts x≠none:=fun z=>by
 unfold Cp at z
 rw [Option.map_eq_none_iff] at z
 obtain⟨w,hw,rfl⟩:=List.mem_map.mp h
 have:=List.find?_eq_none.mp z w hw
 simp at this
theorem Rp {ps:List PD} {wts:List (Str×Str×Str)} {x:Str} (hn:wts.map (·.1)=ps.map (·.name)) (hx:x∈ps.map (·.name)) (h:lN (Cp ps wts) x []):∃s,Wk (Cp ps wts) x s none:=by
 obtain⟨s,a,w,st,e⟩:=h
 cases a with
 | none=>exact⟨s,w⟩
 | some y=>
  have hy:y∈ps.map (·.name):=by
   cases w with
   | start=>exact hx
   | step w e _=>exact Ut e
  have hm:y∈s:=(st y rfl).resolve_left (Mt (by rw [hn];exact hy))
  rw [show DY s (some y)=if y∈s then s.drop (s.idxOf y) else [] from rfl,if_pos hm] at e
  have:=List.drop_eq_nil_iff.mp e.symm
  have:=List.idxOf_lt_length_iff.mpr hm
  omega
theorem Wk.first {f:Str->Option (Option Str)} {x:Str} {s:List Str} {a:Option Str} (h:Wk f x s a):(s=[]/\a=some x)∨s[0]?=some x:=by
 induction h with
 | start=>exact .inl ⟨rfl,rfl⟩
 | @step seen a b w e hn ih=>
  rcases ih with ⟨rfl,e2⟩ | h
  ·exact .inr (by rw [<-Option.some.inj e2];rfl)
  ·exact .inr (by rw [List.getElem?_append_left (List.getElem?_eq_some_iff.mp h).1];exact h)
inductive yF (K:PySem.W.Frag) (t:jd) (vs:List V) (H:Hp) (Q:VK) (E:XK):Prop where
 | mk:∀(n D:Addr) (ls:List aH) (ps:List PD) (us:List Addr) (wts:List (Str×Str×Str)) (x:Str),vs=[.ref n,.ref D,.str x]->fY K t H n ls ps->Zk H D us wts->wts.length<=16->((∀w∈wts,Z4 ls w/\(oH ps w=none->w.2.2= "end")))->wts.map (·.1)=ps.map (·.name)->x∈ps.map (·.name)->lN (Cp ps wts) x []->(∀H',aK H H'->Q (.bl true) H')->yF K t vs H Q E
theorem Jj (T:Txt w K mg t):FO P w K mg base 5 t.Bl ["_law_net_one", "_law_waits", "_law_name"] (yF K t):=by
 have sc:=T.vA.sc ["_law_net_one", "_law_waits", "_law_name", "_law_lap"]
 refine T.vA.F.ok sc ln (fun _ _ _ _ H vs Q E hr h=>?_)
 obtain⟨n,D,ls,ps,us,wts,x,rfl,N,hD,l16,hw,hn,hx,hq,k⟩:=h
 refine⟨_,(ao (dq PassesOwn.never rfl (fC rfl T.iC (aa (bw Hd (by rfl) T.eQ cP (aa (pv 1) ak aj)) ak bf)) (gN sc 3)
   (ao (bO (aZ eY (aR cj (bZ hr.u1 (pv 1) (pv 2) (fun _ _=>rfl)) aq (fun _ _=>rfl)) bK (bF _))
    (aA (aO iT))
    bu)
   (aA (sN sc 2 (dJ (uq T) T.pK hr (aa (pv 0) (aa (bZ hr.u1 (pv 1) (pv 2) (fun _ _=>rfl)) ak aF) aj))))))
  (aA (aO iT))),?_⟩
 have hz:sizeLine=16777216:=sizeLine_eq
 obtain⟨s,wk⟩:=Rp hn hx hq
 obtain⟨snd,sin⟩:=wk.nd
 have sl:s.length<=wts.length:=by
  have:=yW snd (m:=wts.map (·.1)) fun y hy=>(by obtain⟨w,hw,e⟩:=uR (sin y hy);exact List.mem_map.mpr ⟨w,hw,e⟩)
  rwa [lM] at this
 have s0:s[0]?=some x:=by
  rcases wk.first with ⟨_,e⟩ | h
  ·cases e
  ·exact h
 obtain⟨zl,ul,zn⟩:=Fx hD.tups
 refine⟨_,rfl,D,_,rfl,hD.dict,_,rfl,by rw [vM];omega,by rw [vM];omega,?_⟩
 refine oE (fun j σ H'=>(∃y v3,σ=[some (.ref n),some (.ref D),some (.str y),v3]/\s[j]?=some y)/\aK H H') ⟨⟨x,none,rfl,s0⟩,aK.refl _⟩ ?_ ?_
 ·rintro j σ H1 hj ⟨⟨y,v3,rfl,hy⟩,s1⟩
  have hD1:=hD.same s1
  have hf:=sin y (List.mem_of_getElem? hy)
  rcases Dh (ps:=ps) (x:=y) hD1.tups with ⟨h,_⟩ | ⟨u,h1,h2,h3,h4⟩
  ·rw [h] at hf;cases hf
  have g:=Kg hD1.dict y
  rw [h1] at g
  refine⟨_,rfl,_,rfl,D,_,rfl,g,u,_,2,_,rfl,rfl,fH.of h2,aN (j:=2) rfl,rfl,_,rfl,iu (fun _=>k _ s1) (fun hne=>?_)⟩
  have hne:¬(EY wts y).2.2= "end" :=fun z=>hne (decide_eq_true (by rw [z]))
  refine⟨_,rfl,_,rfl,_,rfl,D,_,rfl,g,n,u,ls,ps,EY wts y,rfl,N.same s1,h2,(hw _ h4).1,fun H2 s2=>?_⟩
  have nx:=wk.next j y hy
  rw [h3] at nx
  cases e:oH ps (EY wts y) with
  | none=>exact absurd ((hw _ h4).2 e) hne
  | some z=>
   rw [e] at nx
   by_cases hl:j+1 <s.length
   ·rw [if_pos hl] at nx
    exact⟨⟨z,_,rfl,(Option.some.inj nx).symm⟩,s1.trans s2⟩
   ·rw [if_neg hl] at nx
    cases Option.some.inj nx
 rintro σ H1 ⟨⟨y,v3,rfl,hy⟩,s1⟩
 have:=(List.getElem?_eq_some_iff.mp hy).1
 rw [vM] at this
 omega
theorem lN.turn {f:Str->Option (Option Str)} {x:Str} {r:List Str} (h:lN f x r) {i:Nat} {y:Str} (hy:r[i]?=some y):f y=some (r[(i+1) % r.length]?):=by
 obtain⟨s,a,w,st,rfl⟩:=h
 cases a with
 | none=>simp [DY] at hy
 | some a=>
  rw [show DY s (some a)=if a∈s then s.drop (s.idxOf a) else [] from rfl] at hy ⊢
  by_cases ha:a∈s
  ·rw [if_pos ha] at hy ⊢
   rw [List.getElem?_drop] at hy
   have n:=w.next _ _ hy
   have hi:=(List.getElem?_eq_some_iff.mp hy).1
   rw [List.length_drop,List.getElem?_drop]
   by_cases h2:s.idxOf a+i+1 <s.length
   ·rw [if_pos h2] at n
    rw [Nat.mod_eq_of_lt (by omega)]
    exact n
   ·rw [if_neg h2] at n
    rw [show i+1=s.length - s.idxOf a by omega,Nat.mod_self,Nat.add_zero,(wz ha).1]
    exact n
  ·rw [if_neg ha] at hy;simp at hy
theorem Tz {r:List Str} {k i:Nat} (hk:k<=r.length) (hi:i <r.length):(r.drop k ++ r.take k)[i]?=r[(k+i) % r.length]?:=by
 by_cases h:i <r.length - k
 ·rw [List.getElem?_append_left (by rw [List.length_drop];exact h),List.getElem?_drop,Nat.mod_eq_of_lt (by omega)]
 ·rw [List.getElem?_append_right (by rw [List.length_drop];omega),List.length_drop,List.getElem?_take,if_pos (by omega),Nat.mod_eq_sub_mod (by omega),Nat.mod_eq_of_lt (by omega)]
  congr 1
  omega
theorem UJ {f:Str->Option (Option Str)} {x:Str} {r:List Str} (h:lN f x r) {k i:Nat} (hk:k<=r.length) {y:Str} (hy:(r.drop k ++ r.take k)[i]?=some y):f y=some ((r.drop k ++ r.take k)[(i+1) % r.length]?):=by
 have hi:i <r.length:=by
  have:=(List.getElem?_eq_some_iff.mp hy).1
  rw [lP,List.length_drop,List.length_take] at this
  omega
 rw [Tz hk hi] at hy
 rw [h.turn hy,Tz hk (Nat.mod_lt _ (by omega)),Nat.mod_add_mod,Nat.add_mod_mod,Nat.add_assoc]
theorem Zw {r:List Str} {k:Nat} (h:r.Nodup):(r.drop k ++ r.take k).Nodup:=by
 have p:(r.drop k ++ r.take k).Perm r:=List.perm_append_comm.trans (by rw [List.take_append_drop])
 exact p.nodup_iff.mpr h
theorem Z9 {H H1:Hp} {a:Addr} {o:Obj} {kvs:List (Key×V)} (e:H a=some (.dK kvs)) (s:aK (upd H a (.frz o (.dK kvs))) H1):aK H (upd H1 a (.dK kvs)):=fun b u eb=>by
 by_cases hb:b=a
 ·rw [hb,az,<-eb,hb,e]
 ·rw [aM hb]
  exact s b u (by rw [aM hb];exact eb)
theorem dgS {H:Hp} {a:Addr} {kvs:List (Key×V)} {x:Str} {v:V} (e:H a=some (.dK kvs)) (h:bY kvs (Sum.inr x)=some v):dM H a (.str x) (some v):=by
 rw [<-h]
 exact dM.k (k:=Sum.inr x) e
noncomputable def ZZ (w:Str×Str×Str):PyData:=.tuple [.str w.1,.str w.2.1,.str w.2.2]
theorem Y5 {ls:List aH} {ps:List PD} {S:FS} (F:Cd ls ps) {w:Str×Str×Str} (h:w∈eO ls S ps∨w=(("" :Str),("" :Str),("" :Str))):Gd 1 (ZZ w):=by
 have t1:PyData.strOk ("value" :Str)=true:=by decide +kernel
 have t2:PyData.strOk ("end" :Str)=true:=by decide +kernel
 have t3:PyData.strOk ("room" :Str)=true:=by decide +kernel
 have t4:PyData.strOk ("" :Str)=true:=by decide +kernel
 have key:PyData.strOk w.1=true/\PyData.strOk w.2.1=true/\PyData.strOk w.2.2=true:=by
  rcases h with h | rfl
  ·obtain⟨p,hp,h1,h2⟩:=CK h
   have ln:∀x∈ls.map (·.name),PyData.strOk x=true:=fun x hx=>by
    obtain⟨l,hl,rfl⟩:=List.mem_map.mp hx
    exact Cz (F.lnm l hl)
   refine⟨by rw [h2];exact Cz (F.pnm p hp),?_⟩
   rcases zN F hp (x:=w.2.1) (y:=w.2.2) h1 with h | h | h
   ·exact⟨ln _ h.2,by rw [h.1];exact t1⟩
   ·exact⟨by rw [h.1];exact t4,by rw [h.2];exact t2⟩
   ·exact⟨ln _ h.2,by rw [h.1];exact t3⟩
  ·exact⟨t4,t4,t4⟩
 unfold ZZ
 refine .tuple fun d hd=>?_
 simp only [List.mem_cons,List.not_mem_nil,or_false] at hd
 rcases hd with rfl | rfl | rfl
 ·exact .str 0 key.1
 ·exact .str 0 key.2.1
 ·exact .str 0 key.2.2
theorem QQ {f:Str->Option (Option Str)} {names:List Str} {wts:List (Str×Str×Str)} (h:FP f names wts []) (hf:∀y,(f y).isSome=true->y∈names):∀x∈names,lN f x []:=by
 rcases h with ⟨_,h⟩ | ⟨pre,x,post,r,e,h1,h2,h3,h4⟩
 ·exact h
 ·have q:=List.map_eq_nil_iff.mp h4.symm
  obtain⟨y0,hy0⟩:=List.exists_mem_of_ne_nil r h3
  have hin:=hf y0 (h2.nd.2 y0 hy0)
  unfold yr at q
  cases ef:names.find? (fun y=>decide (y∈r)) with
  | none=>exact absurd (decide_eq_true hy0) (List.find?_eq_none.mp ef y0 hin)
  | some y1=>
   rw [ef] at q
   have:=congrArg List.length q
   dsimp only at this
   rw [lP,List.length_drop,List.length_take,List.length_nil] at this
   have:=List.length_pos_of_mem hy0
   omega
theorem Su {ls:List aH} {ps:List PD} {S:FS} (F:Cd ls ps) {w:Str×Str×Str} (h:w∈eO ls S ps) (hn:oH ps w=none):w.2.2= "end" :=by
 obtain⟨p,hp,h1,h2⟩:=CK h
 rcases zN F hp (x:=w.2.1) (y:=w.2.2) h1 with ⟨e,hx⟩ | ⟨_,e⟩ | ⟨e,hx⟩
 ·obtain⟨q,hq,hxq⟩:=List.mem_flatMap.mp (F.whole.outs.mem_iff.mpr hx)
  unfold oH at hn
  rw [if_pos e,Ma F hq hxq] at hn
  cases hn
 ·exact e
 ·obtain⟨q,hq,hxq⟩:=List.mem_flatMap.mp (F.whole.ins.mem_iff.mpr hx)
  unfold oH at hn
  rw [if_neg (by rw [e];decide),if_pos e,Pa F hq hxq] at hn
  cases hn
theorem Uq {ls:List aH} {S:FS} {p:PD} {w:Str×Str} (h:jo ls S p=some w) (e:w.2= "end"):p.kind=0/\(S.r p.name).length<=S.d p.name:=by
 rcases Cy p.kind p.ins (bz S p) with hlk | ⟨z,hlk⟩
 ·cases he:ue S p with
  | true=>
   unfold ue at he
   rw [Bool.and_eq_true] at he
   exact⟨of_decide_eq_true he.1,Nat.le_of_eq (of_decide_eq_true he.2).symm⟩
  | false=>
   rw [CP hlk he] at h
   cases e2:(Vb S p).find? (tQ ls S) with
   | none=>rw [e2] at h;cases h
   | some q=>
    rw [e2] at h
    rw [<-Option.some.inj h] at e
    exact absurd e (by show ¬("room" :Str)= "end";decide)
 ·rw [Cr hlk] at h
  rw [<-Option.some.inj h] at e
  exact absurd e (by show ¬("value" :Str)= "end";decide)
theorem Ml {ls:List aH} {ps:List PD} {S:FS} {ws:List (Str×Str×Str)} (h:FP (Cp ps (eO ls S ps)) (ps.map (·.name)) (eO ls S ps) ws):(ws.map (·.1)).Nodup/\∀i w,ws[i]?=some w->w∈eO ls S ps/\w=EY (eO ls S ps) w.1/\oH ps w=(ws.map (·.1))[(i+1) % ws.length]?:=by
 rcases h with ⟨rfl,_⟩ | ⟨pre,x,post,r,e,h1,h2,h3,rfl⟩
 ·exact⟨by simp,fun i w hw=>by simp at hw⟩
 have wAt:∀y∈r,EY (eO ls S ps) y∈eO ls S ps/\(EY (eO ls S ps) y).1=y/\Cp ps (eO ls S ps) y=some (oH ps (EY (eO ls S ps) y)):=fun y hy=>by
  obtain⟨w,hw,e⟩:=uR (h2.nd.2 y hy)
  unfold EY Cp
  cases ef:(eO ls S ps).find? fun w=>decide (w.1=y) with
  | none=>exact absurd (decide_eq_true e) (List.find?_eq_none.mp ef w hw)
  | some w'=>exact⟨List.mem_of_find?_eq_some ef,by simpa using List.find?_some ef,rfl⟩
 have nm:((yr r (ps.map (·.name))).map (EY (eO ls S ps))).map (·.1)=yr r (ps.map (·.name)):=by
  rw [List.map_map]
  refine(List.map_congr_left fun y hy=>?_).trans (List.map_id _)
  exact(wAt y (Jx hy)).2.1
 rw [nm,lM]
 have hm:=fun y=>Jx (r:=r) (names:=ps.map (·.name)) (y:=y)
 unfold yr at hm ⊢
 cases ef:(ps.map (·.name)).find? (fun y=>decide (y∈r)) with
 | none=>exact⟨by simp,fun i w hw=>by simp at hw⟩
 | some y1=>
  rw [ef] at hm
  dsimp only at hm ⊢
  refine⟨Zw h2.nd.1,fun i w hw=>?_⟩
  rw [List.getElem?_map] at hw
  obtain⟨y,hy,rfl⟩:=Option.map_eq_some_iff.mp hw
  obtain⟨a1,a2,a3⟩:=wAt y (hm y (List.mem_of_getElem? hy))
  refine⟨a1,by rw [a2],?_⟩
  have tn:=UJ h2 (k:=r.idxOf y1) List.idxOf_le_length hy
  rw [a3] at tn
  rw [Option.some.inj tn,lP,List.length_drop,List.length_take]
  have:=List.idxOf_le_length (l:=r) (a:=y1)
  rw [show r.length - r.idxOf y1+min (r.idxOf y1) r.length=r.length by omega]
inductive ql (K:PySem.W.Frag) (t:jd) (vs:List V) (H:Hp) (Q:VK) (E:XK):Prop where
 | mk:∀(b:Nat) (r:Addr) (n:Nat) (A:mJ) (ls:List aH) (ps:List PD) (S:FS) (P:Addr) (xs:List V),vs=[.ref r,.ref A.n,.ref P]->lC t H r A.n A.f n->fY K t H A.n ls ps->dI K t H A ls ps S->DR b ls ps S->H P=some (.lst xs)->jn (wL H) xs ps->(eO ls S ps).length=ps.length->(∀H',aK H H'->Q (.bl true) H')->ql K t vs H Q E
noncomputable abbrev kh:List Str:=["_law_run", "_law_net_one", "_law_parts", "_law_waits", "_law_wait", "_law_ring", "_law_left", "_law_goal", "_law_name", "_law_k"]
theorem yh (T:Txt w K mg t):FO P w K mg base 9 t.rJ ["_law_run", "_law_net_one", "_law_parts"] (ql K t):=by
 have sc:=T.j4.sc kh
 refine T.j4.F.ok sc ln (fun _ _ _ _ H vs Q E hr h=>?_)
 obtain⟨b,r,n,A,ls,ps,S,P,xs,rfl,hR,N,W,O,eP,aP,hl,k⟩:=h
 refine⟨_,(ao (sN sc 3 fD)
  (ao (dq PassesOwn.never rfl (bT (dJ (An T) T.sH hr (aa (pv 0) ak aj))) (gN sc 4)
   (aA (fW hr.u1 (pv 3) (aR cj (pv 4) aq (fun _ _=>rfl)) (pv 4) rfl)))
  (ao (bO (aZ (Ji hr.units) (bw (Mm rfl) (by rfl) T.KJ Hr (aa (pv 3) ak aj)) (bw Nx (by rfl) T.KJ Hr (aa (eN [] kh (aV (top 87)) rfl (bT (pv 2)) (fun _ _ _ _ _=>gM) (fun _ _ _ _ _=>(aR (nQ (K:=K) rfl) (pv 0) aq (fun _ _=>rfl)))) ak fB)) (bF _))
   (aA (aO iT))
   bu)
  (ao (sN sc 5 (dJ (Ae T) T.lX hr (aa (pv 0) ak aj)))
  (ao (sN sc 6 (Nh (pv 0) T.bN T.bN.me.2.2.2.2.2.2.2.1 (zX T) T.mO hr))
  (ao (jX (i:=7) [] kh (aV (top 87)) rfl sc.nd rfl (bT (pv 5)) (fun _ _ _ _ _=>gM) (fun _ _ _ _ _=>(aR (nQ (K:=K) rfl) (pv 0) aq (fun _ _=>rfl))))
  (ao (vf (H0:=H) rfl (dq PassesOwn.never rfl (vV (pv 3)) (gN sc 8)
   (ao (fQ (bO (PW.pt (qK (aZ eY (aR cj (bZ hr.u1 (pv 3) (pv 8) (fun _ _=>rfl)) aq (fun _ _=>rfl)) bK (bF _)) (nj (aZ (Ji hr.units) (bZ hr.u1 (pv 6) (pv 8) (fun _ _=>rfl)) (bB ak) (bF _)))))
    (aA (Pu (H0:=H) rfl (aO iT)))
    bu))
   (aA (bO (PW.pt (qK (aZ (Sd hr.units) (pv 7) (bB ak) (bF _)) (nj (jD (gB (dJ (Jj T) T.vA hr (aa (pv 1) (aa (pv 3) (aa (pv 8) ak aj) aj) aj)))))))
    (aA (Pu (H0:=H) rfl (aO iT)))
    bu)))))
  (ao (dq PassesOwn.never rfl (fC rfl T.iC (aa (bw bR (by rfl) T.eQ cP (aa (pv 5) ak aj)) ak bf)) (gN sc 9)
   (aA (bO (PW.pt (vp (aZ (Ji hr.units) (bZ hr.u1 (pv 3) (aR aW (pv 7) (pv 9) (fun _ _=>rfl)) (fun _ _=>rfl)) (aR aW (pv 5) (pv 9) (fun _ _=>rfl)) (bF _)) (oJ (aZ Gf (dJ (uq T) T.pK hr (aa (pv 1) (aa (aR aW (pv 5) (pv 9) (fun _ _=>rfl)) ak aF) aj)) (aR aW (pv 7) (bc cz (bc dm (pv 9) aq) (bw bR (by rfl) T.eQ cP (aa (pv 5) ak aj))) (fun _ _=>rfl)) (bF _)))))
    (aA (aO iT))
    bu)))
  (aA (aO (kW eY (QM rfl (by rfl) T.eQ (by rfl) T.Yt (pv 7)) (bw bR (by rfl) T.eQ cP (aa (pv 7) ak aj)) (bF _)))))))))))),?_⟩
 have hz:sizeLine=16777216:=sizeLine_eq
 have F:Cd ls ps:=by obtain⟨_,_,_,_,_,_,_,_,_,Wn⟩:=N;exact Wn.fit
 have p16:=F.p16
 have xl:=aP.length
 have wok:=fun w (h:w∈eO ls S ps)=>PX F h
 have wsub:=J0 ls S ps
 have wnd:=F.pnd.sublist wsub
 have wlen:=JB ls S ps
 have wnm:(eO ls S ps).map (·.1)=ps.map (·.name):=wsub.eq_of_length (by rw [lM,lM,hl])
 have nok:∀y∈ps.map (·.name),PyData.strOk y=true:=fun y hy=>by
  obtain⟨p,hp,rfl⟩:=List.mem_map.mp hy
  exact Cz (F.pnm p hp)
 refine fun D nD=>?_
 have q1:=aB (o:=.dK []) nD
 have d1:upd H D (.dK []) D=some (.dK []):=az
 have sC:aK H (bA [D] (upd H D (.dK []))):=fun b o e=>dR (q1 _ _ e) (by simpa using aD e nD)
 generalize upd H D (.dK [])=H1 at q1 d1 sC ⊢
 have s1:=sC.trans bQ
 refine⟨_,rfl,b,r,n,A,ls,ps,S,rfl,hR.same s1,N.same s1,W.same s1,O,fun H2 Lw us s2 nLw eLw tU fU=>?_⟩
 obtain⟨zl,ul,zn⟩:=Fx tU
 have znd:((jY (eO ls S ps) us).map (·.1)).Nodup:=by rw [zn];exact wnd
 have nw:Lw∉[D]:=by simp;intro z;rw [z,d1] at nLw;cases nLw
 have fw:∀u∈us,u∉[D]:=fun u hu z=>by rw [List.mem_singleton.mp z] at hu;have:=fU D hu;rw [d1] at this;cases this
 have sC2:=sC.trans (uM s2 (E:=[D]) fun a ha=>⟨.dK [],by rw [List.mem_singleton.mp ha];exact d1⟩)
 have eLw2:=dR eLw nw
 have tU2:=yg fw tU
 obtain⟨C,hC⟩:∃C,C=bA [D] H2:=⟨_,rfl⟩
 rw [<-hC] at sC2 eLw2 tU2
 refine⟨Lw,rfl,⟨_,bH.of eLw⟩,dD (K:=K) (a:=Lw) (xs:=us.map V.ref) (fun j σ H'=>(∃v4,σ=[some (.ref r),some (.ref A.n),some (.ref P),some (.ref D),v4,none,none,none,none,none])/\aK C (bA [D] H')/\H' D=some (.dK (wZ V.ref ((jY (eO ls S ps) us).take j)))) ⟨⟨none,rfl⟩,by rw [hC];exact aK.refl _,s2 _ _ d1⟩ (fun j σ H' _ h=>bH.of (bQ _ _ (h.2.1 _ _ eLw2))) ?_ ?_⟩
 ·rintro j x σ H4 hx ⟨⟨v4,rfl⟩,c4,e1⟩
  rw [List.getElem?_map] at hx
  obtain⟨u,hu,rfl⟩:=Option.map_eq_some_iff.mp hx
  obtain⟨vs2,z1,z2⟩:=lQ tU2 hu
  rw [List.getElem?_map] at z1
  obtain⟨w,ew,rfl⟩:=Option.map_eq_some_iff.mp z1
  have hj:=(List.getElem?_eq_some_iff.mp ew).1
  refine⟨_,rfl,_,rfl,_,rfl,u,_,0,_,rfl,rfl,fH.of (bQ _ _ (c4 _ _ z2)),aN (j:=0) rfl,D,_,rfl,n6.k (k:=Sum.inr w.1) e1 (by rw [vM,List.length_take];omega),?_⟩
  rw [J6 (g:=V.ref) znd (Kh ew hu)]
  exact⟨⟨_,rfl⟩,by rw [dF (by simp)];exact c4,az⟩
 rintro σ H3 ⟨⟨v4,rfl⟩,c3,e1⟩
 rw [lM,ul,<-zl,List.take_length] at e1
 have tU3:=dz.same (c3.trans bQ) tU2
 have s3:=(sC2.trans c3).trans bQ
 clear c3 tU2 eLw2 sC2 sC hC nw
 have keys:(wZ V.ref (jY (eO ls S ps) us)).map (·.1)=(ps.map (·.name)).map (fun x=>(Sum.inr x:Key)):=by rw [<-wnm,<-zn];unfold wZ;rw [List.map_map,List.map_map];rfl
 refine⟨_,rfl,D,_,ps.map (·.name),rfl,.inl e1,keys,by rw [lM];omega,fun l zs nl hp hs=>?_⟩
 have t4:=aB (o:=.lst (zs.map V.str)) nl
 have el:upd H3 l (.lst (zs.map V.str)) l=some (.lst (zs.map V.str)):=az
 have s4:=s3.trans t4
 have e14:=t4 _ _ e1
 have tU4:=dz.same t4 tU3
 generalize upd H3 l (.lst (zs.map V.str))=H4 at t4 el s4 e14 tU4 ⊢
 have eP4:=s4 _ _ eP
 have aP4:=aP.imp (fun _ _ h=>h.same s4)
 refine⟨_,rfl,P,rfl,⟨_,bH.of eP4⟩,eE (K:=K) (a:=P) (xs:=xs) (fun j ys H'=>H'=H4/\ys=((ps.map (·.name)).take j).map V.str) (by omega) ⟨rfl,rfl⟩ (fun j ys H' h=>by rw [h.2,lM,List.length_take];omega) (fun j ys H' _ h=>by rw [h.1];exact bH.of eP4) ?_ ?_⟩
 ·rintro j x ys H' hx ⟨rfl,rfl⟩
  obtain⟨p,hpj,q,a1,a2,a3,rfl,hq,_⟩:=aP4.get hx
  have hni:(ps.map (·.name))[j]?=some p.name:=by rw [List.getElem?_map,hpj];rfl
  refine yes ⟨_,rfl,q,_,1,_,rfl,rfl,fH.of hq,aN (j:=1) rfl,rfl,?_⟩
  rw [List.take_add_one,hni,List.map_append]
  rfl
 rintro ys H' ⟨rfl,rfl⟩ Ln nLn
 rw [xl,<-lM (f:=fun p:PD=>p.name),List.take_length]
 have t5:=aB (o:=.lst ((ps.map (·.name)).map V.str)) nLn
 refine⟨Ln,ps.map (·.name),rfl,bH.of az,by rw [lM];omega,fun l2 zs2 nl2 hp2 hs2=>?_⟩
 have ez:zs=zs2:=Fd hs hs2 (hp.trans hp2.symm)
 subst ez
 have t6:=aB (o:=.lst (zs.map V.str)) nl2
 have g6:Gd 1 (.list (zs.map PyData.str)):=.list (.strs 0 fun y hy=>nok y (hp.mem_iff.mp hy))
 refine⟨_,_,vU (bH.of (t6 _ _ (t5 _ _ el))),vU (bH.of az),g6.shaped (by decide),g6.shaped (by decide),_,rfl,?_⟩
 rw [g6.eq]
 refine cB ?_
 have s6:=s4.trans (t5.trans t6)
 have e16:=t6 _ _ (t5 _ _ e14)
 have tU6:=dz.same (t5.trans t6) tU4
 generalize upd (upd H' Ln (.lst ((ps.map (·.name)).map V.str))) l2 (.lst (zs.map V.str))=H6 at s6 e16 tU6 ⊢
 refine⟨_,rfl,b,r,n,A,ls,ps,S,rfl,hR.same s6,N.same s6,W.same s6,O,fun H7 L7 us7 ws s7 nL7 eL7 tU7 hO=>?_⟩
 have s17:=s6.trans s7
 obtain⟨dxr,fsr,R1⟩:=id (hR.same s17)
 refine⟨_,rfl,r,dxr,fsr,rfl,R1.1.1,R1.2.no _ (by decide +kernel),r,n,A,ls,ps,S,rfl,hR.same s17,N.same s17,W.same s17,fun H8 Dl ra s8 LA nDl=>?_⟩
 have wl16:ws.length<=16:=by
  rcases hO with ⟨rfl,_⟩ | ⟨_,_,_,rg,_,_,h2,_,rfl⟩
  ·exact Nat.zero_le _
  ·rw [lM]
   exact Nat.le_trans (PK _ _) (Nat.le_trans (yW h2.nd.1 fun y hy=>(by obtain⟨w,hw,e⟩:=uR (h2.nd.2 y hy);exact wsub.subset (List.mem_map.mpr ⟨w,hw,e⟩))) (by rw [lM];exact p16))
 have tU8:=dz.same s8 tU7
 have u7l:us7.length=ws.length:=by have:us7.length=_:=Paired.length tU7;rwa [lM] at this
 refine⟨_,rfl,L7,rfl,⟨_,bH.of (s8 _ _ eL7)⟩,eE (K:=K) (a:=L7) (xs:=us7.map V.ref) (fun j ys H'=>H'=H8/\ys=((ws.map (·.1)).take j).map V.str) (by rw [lM];omega) ⟨rfl,rfl⟩ (fun j ys H' h=>by rw [h.2,lM,List.length_take];omega) (fun j ys H' _ h=>by rw [h.1];exact bH.of (s8 _ _ eL7)) ?_ ?_⟩
 ·rintro j x ys H' hx ⟨rfl,rfl⟩
  rw [List.getElem?_map] at hx
  obtain⟨u,hu,rfl⟩:=Option.map_eq_some_iff.mp hx
  obtain⟨vs2,z1,z2⟩:=lQ tU8 hu
  rw [List.getElem?_map] at z1
  obtain⟨w,ew,rfl⟩:=Option.map_eq_some_iff.mp z1
  refine yes ⟨_,rfl,u,_,0,_,rfl,rfl,fH.of z2,aN (j:=0) rfl,rfl,?_⟩
  rw [List.take_add_one,List.getElem?_map,ew,List.map_append]
  rfl
 rintro ys H' ⟨rfl,rfl⟩ Lg nLg
 rw [lM,u7l,<-lM (f:=fun w:Str×Str×Str=>w.1),List.take_length]
 have t9:=aB (o:=.lst ((ws.map (·.1)).map V.str)) nLg
 have eLg:upd H' Lg (.lst ((ws.map (·.1)).map V.str)) Lg=some (.lst ((ws.map (·.1)).map V.str)):=az
 have s9:=(s17.trans s8).trans t9
 have s69:=s7.trans (s8.trans t9)
 have LA9:=LA.same t9
 have tU9:=dz.same t9 tU8
 have eL79:=t9 _ _ (s8 _ _ eL7)
 generalize upd H' Lg (.lst ((ws.map (·.1)).map V.str))=H9 at eLg s9 s69 LA9 tU9 eL79 ⊢
 have e19:=s69 _ _ e16
 have tU69:=dz.same s69 tU6
 obtain⟨rnd,rst⟩:=Ml hO
 have nDD:Dl≠D:=Ne.symm (aD (s7 _ _ e16) nDl)
 have wsn:∀y∈ws.map (·.1),y∈ps.map (·.name):=fun y hy=>by
  obtain⟨w,hw,rfl⟩:=List.mem_map.mp hy
  obtain⟨i,hi⟩:=List.getElem?_of_mem hw
  rw [<-wnm]
  exact List.mem_map.mpr ⟨w,(rst i w hi).1,rfl⟩
 have gG:Gd 1 (.list ((ws.map (·.1)).map PyData.str)):=.list (.strs 0 fun y hy=>nok y (wsn y hy))
 have g0:Gd 1 (.list (([]:List Int).map PyData.int)):=.list (.ints 0 _)
 have hname:∀{x:Str} {z:Option Str},Cp ps (eO ls S ps) x=some z->(EY (eO ls S ps) x).1=x:=fun {x z} h=>by
  unfold Cp at h
  unfold EY
  cases ef:(eO ls S ps).find? fun w=>decide (w.1=x) with
  | none=>rw [ef] at h;cases h
  | some w'=>simpa using List.find?_some ef
 refine⟨_,rfl,D,_,rfl,e19,fun o=>u0 (fun j σ H'=>aK (upd H9 D (.frz o (.dK (wZ V.ref (jY (eO ls S ps) us))))) H'/\∃v8,σ=[some (.ref r),some (.ref A.n),some (.ref P),some (.ref D),v4,some (.ref L7),some (.ref Dl),some (.ref Lg),v8,none]) ⟨aK.refl _,none,rfl⟩ (fun j σ H' _ h=>h.1 _ _ az) ?_ ?_⟩
 ·rintro j ky v σ H10 hj ⟨s10,v8,rfl⟩
  unfold wZ at hj
  rw [List.getElem?_map] at hj
  obtain⟨⟨x,ux⟩,hjx,e⟩:=Option.map_eq_some_iff.mp hj
  cases e
  have hx:x∈ps.map (·.name):=by rw [<-wnm,<-zn];exact List.mem_map.mpr ⟨_,List.mem_of_getElem? hjx,rfl⟩
  have sF:aK (bA [D] H9) (upd H9 D (.frz o (.dK (wZ V.ref (jY (eO ls S ps) us))))):=by
   have:=bQ (E:=[D]) (H:=upd H9 D (.frz o (.dK (wZ V.ref (jY (eO ls S ps) us)))))
   rwa [dF (by simp)] at this
  have cH:aK H (bA [D] H9):=fun b u e=>dR (s9 _ _ e) (by simpa using aD e nD)
  have wd:∀{H':Hp},aK (upd H9 D (.frz o (.dK (wZ V.ref (jY (eO ls S ps) us))))) H'->Zk H' D us (eO ls S ps):=fun s=>⟨.inr ⟨o,s _ _ az⟩,dz.same (sF.trans s) (yg fw tU69)⟩
  rcases Dh (ps:=ps) (x:=x) (wd s10).tups with ⟨h,_⟩ | ⟨u,h1,h2,h3,h4⟩
  ·exact absurd h (Mt (by rw [wnm];exact hx))
  have g:=Kg (wd s10).dict x
  rw [h1] at g
  refine⟨fun σ H'=>aK (upd H9 D (.frz o (.dK (wZ V.ref (jY (eO ls S ps) us))))) H'/\σ=[some (.ref r),some (.ref A.n),some (.ref P),some (.ref D),v4,some (.ref L7),some (.ref Dl),some (.ref Lg),some (.str x),none],?_,?_⟩
  ·refine⟨_,rfl,_,rfl,D,_,rfl,g,u,_,2,_,rfl,rfl,fH.of h2,aN (j:=2) rfl,rfl,_,rfl,iu (fun he=>?_) (fun _=>cB ⟨s10,rfl⟩)⟩
   have he:(EY (eO ls S ps) x).2.2= "end" :=by
    have:=of_decide_eq_true he
    injection this
   obtain⟨p,hp,w1,w2⟩:=CK h4
   rw [hname h3] at w2
   obtain⟨k0,rl⟩:=Uq w1 he
   have x9:=LA9.lists p hp k0
   rw [List.drop_eq_nil_iff.mpr rl] at x9
   have x10:H10 (ra p.name)=some (.lst (([]:List Int).map V.int)):=s10 _ _ (by rw [aM (fun z=>by rw [z,e19] at x9;cases x9)];exact x9)
   have d10:H10 Dl=some (.dK (El ra ps)):=s10 _ _ (by rw [aM nDD];exact LA9.dict)
   have g2:=dgS d10 (oX (ra:=ra) F.pnd hp k0)
   rw [<-w2] at g2
   refine⟨_,rfl,_,rfl,Dl,_,rfl,g2,iZ,fun e ne=>?_⟩
   have te:=aB (o:=.lst []) ne
   rw [<-w2] at x10
   refine⟨_,_,Iw (ws:=[]) (bH.of (te _ _ x10)),Iw (ws:=[]) (bH.of az),g0.shaped (by decide),g0.shaped (by decide),_,rfl,?_⟩
   rw [g0.eq]
   exact cB ⟨s10.trans te,rfl⟩
  rintro σ H11 ⟨s11,rfl⟩
  refine⟨_,rfl,iZ,fun e ne=>?_⟩
  have te:=aB (o:=.lst []) ne
  have eLg11:H11 Lg=some (.lst ((ws.map (·.1)).map V.str)):=s11 _ _ (by rw [aM (fun z=>by rw [z,e19] at eLg;cases eLg)];exact eLg)
  refine⟨_,_,vU (bH.of (te _ _ eLg11)),vU (xs:=[]) (bH.of az),gG.shaped (by decide),g0.shaped (by decide),_,rfl,?_⟩
  have s12:=s11.trans te
  generalize upd H11 e (.lst [])=H12 at s12 ⊢
  cases ws with
  | cons w0 wr=>exact cB (cB ⟨s12,_,rfl⟩)
  | nil=>
   have hq:=QQ hO (fun y hy=>by
    obtain⟨w,hw,e⟩:=uR hy
    rw [<-wnm]
    exact List.mem_map.mpr ⟨w,hw,e⟩) x hx
   have sN:=(cH.trans sF).trans s12
   refine gh ⟨_,rfl,_,rfl,_,rfl,A.n,D,ls,ps,us,eO ls S ps,x,rfl,N.same sN,wd s12,by omega,fun w hw=>⟨wok w hw,Su F hw⟩,wnm,hx,hq,fun H13 s13=>⟨_,rfl,cB ⟨s12.trans s13,_,rfl⟩⟩⟩
 rintro σ H10 ⟨s10,v8,rfl⟩
 refine⟨_,⟨D,o,_,s10 _ _ az,(fun o' u' z=>by rw [nD] at z;cases z),rfl⟩,?_⟩
 have sA:=Z9 e19 s10
 generalize upd H10 D (.dK (wZ V.ref (jY (eO ls S ps) us)))=H11 at sA ⊢
 have eLg11:=sA _ _ eLg
 have eL711:=sA _ _ eL79
 have tU11:=dz.same sA tU9
 have tW11:=dz.same sA tU69
 have e111:=sA _ _ e19
 have sH11:=s9.trans sA
 refine⟨_,rfl,.ref L7,ws.length,rfl,.inl ⟨_,bH.of eL711,by rw [lM,u7l]⟩,_,rfl,by omega,by omega,?_⟩
 rw [Int.toNat_natCast]
 refine oE (n:=ws.length) (fun j σ H'=>aK H11 H'/\∃v9,σ=[some (.ref r),some (.ref A.n),some (.ref P),some (.ref D),v4,some (.ref L7),some (.ref Dl),some (.ref Lg),v8,v9]) ⟨aK.refl _,none,rfl⟩ ?_ ?_
 ·rintro j σ H12 hj ⟨s12,v9,rfl⟩
  obtain⟨w,hw⟩:∃w,ws[j]?=some w:=⟨_,List.getElem?_eq_getElem hj⟩
  obtain⟨m1,m2,m3⟩:=rst j w hw
  have hw1:=wsn _ (List.mem_map.mpr ⟨w,List.mem_of_getElem? hw,rfl⟩)
  rcases Dh (ps:=ps) (x:=w.1) (dz.same s12 tW11) with ⟨h,_⟩ | ⟨u,h1,h2,h3,h4⟩
  ·exact absurd h (Mt (by rw [wnm];exact hw1))
  have g:=yf (s12 _ _ e111) w.1
  rw [h1] at g
  rw [<-m2] at h2
  obtain⟨u7,hu7⟩:∃u,us7[j]?=some u:=⟨_,List.getElem?_eq_getElem (by omega)⟩
  obtain⟨vs7,z1,z2⟩:=lQ (dz.same s12 tU11) hu7
  rw [List.getElem?_map,hw] at z1
  cases z1
  have aG:Gk ((ws.map (·.1)).map V.str) (0+(j:Int))=some (.str w.1):=by
   rw [show(0:Int)+(j:Int)=(j:Int) by omega]
   exact aN (by rw [List.getElem?_map,List.getElem?_map,hw];rfl)
  have a7:Gk (us7.map V.ref) (0+(j:Int))=some (.ref u7):=by
   rw [show(0:Int)+(j:Int)=(j:Int) by omega]
   exact aN (by rw [List.getElem?_map,hu7];rfl)
  have gw:=Y5 (S:=S) F (.inl m1)
  refine⟨_,rfl,_,rfl,_,rfl,Lg,_,_,_,rfl,rfl,bH.of (s12 _ _ eLg11),aG,D,_,rfl,g,_,rfl,_,rfl,L7,_,_,_,rfl,rfl,bH.of (s12 _ _ eL711),a7,ZZ w,ZZ w,.tuple (fH.of h2) (.cons (.str _) (.cons (.str _) (.cons (.str _) .nil))),.tuple (fH.of z2) (.cons (.str _) (.cons (.str _) (.cons (.str _) .nil))),gw.shaped (by decide),gw.shaped (by decide),_,rfl,?_⟩
  rw [gw.eq]
  have hlt:=Nat.mod_lt (j+1) (show 0 <ws.length by omega)
  obtain⟨y,hy⟩:∃y,(ws.map (·.1))[(j+1) % ws.length]?=some y:=⟨_,List.getElem?_eq_getElem (by rw [lM];exact hlt)⟩
  rw [hy] at m3
  refine cB ⟨_,rfl,_,rfl,_,rfl,L7,_,_,_,rfl,rfl,bH.of (s12 _ _ eL711),a7,A.n,u7,ls,ps,w,rfl,N.same (sH11.trans s12),z2,wok w m1,fun H13 s13=>?_⟩
  rw [m3]
  have s113:=s12.trans s13
  refine⟨_,rfl,_,rfl,_,_,rfl,rfl,_,rfl,.ref L7,ws.length,rfl,.inl ⟨_,bH.of (s113 _ _ eL711),by rw [lM,u7l]⟩,_,_,rfl,rfl,by show(0:Int) <(ws.length:Int);omega,Lg,_,_,.str y,rfl,rfl,bH.of (s113 _ _ eLg11),?_,rfl,_,rfl,?_⟩
  ·rw [show(0+(j:Int)+1) % (ws.length:Int)=((j+1) % ws.length:Nat) by rw [Int.zero_add];exact(Int.natCast_emod (j+1) ws.length).symm]
   exact aN (by rw [List.getElem?_map,hy];rfl)
  ·rw [show zm (some y)=.str y from rfl,decide_eq_true rfl]
   exact cB ⟨s113,_,rfl⟩
 rintro σ H12 ⟨s12,v9,rfl⟩
 have eLg12:=s12 _ _ eLg11
 refine⟨_,rfl,Lg,ws.map (·.1),rfl,bH.of eLg12,by rw [lM];omega,_,rfl,.ref Lg,(ws.map (·.1)).length,rfl,.inl ⟨_,bH.of eLg12,by simp⟩,rfl,?_⟩
 rw [Oc rnd _ (Nat.le_refl _),List.take_length,decide_eq_true rfl]
 exact k _ (sH11.trans s12)
theorem BJ {α β:Type} {R:α->β->Prop}:∀{l:List α} {m:List β} {a:α} {b:β},Paired R l m->R a b->Paired R (l ++ [a]) (m ++ [b])
 | _,_,_,_,.nil,h=>.cons h .nil
 | _,_,_,_,.cons h t,h2=>.cons h (BJ t h2)
theorem xV {α β:Type} {R R':α->β->Prop} (h:∀a b,R a b->R' a b):∀{l:List α} {m:List β},Paired R l m->Paired R' l m
 | _,_,.nil=>.nil
 | _,_,.cons h1 t=>.cons (h _ _ h1) (xV h t)
inductive pO (K:PySem.W.Frag) (t:jd) (vs:List V) (H:Hp) (Q:VK) (E:XK):Prop where
 | mk:∀(b:Nat) (r:Addr) (n:Nat) (A:mJ) (ls:List aH) (ps:List PD) (S:FS) (L:Addr) (xs:List V),vs=[.ref r,.ref L]->lC t H r A.n A.f n->fY K t H A.n ls ps->dI K t H A ls ps S->DR b ls ps S->H L=some (.lst xs)->jn (uJ H) xs ls->(∀(H':Hp) (p:Addr) (us:List Addr),aK H H'->H p=none->H' p=some (.lst (us.map V.ref))->Paired (fun u l=>H' u=some (.lst (((S.ev l.name).drop (S.g l.name)).map V.int))) us ls->(∀u∈us,H u=none)->Q (.ref p) H')->pO K t vs H Q E
theorem pJ (T:Txt w K mg t):FO P w K mg base 4 t.qt ["_law_run", "_law_lanes"] (pO K t):=by
 have sc:=T.iz.sc ["_law_run", "_law_lanes"]
 refine T.iz.F.ok sc ln (fun _ _ _ _ H vs Q E hr h=>?_)
 obtain⟨b,r,n,A,ls,ps,S,L,xs,rfl,hR,N,W,O,eL,aL,k⟩:=h
 refine⟨_,(aA (aO (eN [0] ["_law_run", "_law_lanes"] (aV (top 88)) rfl (bT (pv 1)) (fun _ _ _ _ _=>gM) (fun _ _ _ _ _=>(vJ (pv 1) T.bN T.bN.me.2.2.2.2.2.2.1 (BW T) T.pF hr (aa (aR (nQ (K:=K) rfl) (pv 0) aq (fun _ _=>rfl)) ak aF)))))),?_⟩
 have hz:sizeLine=16777216:=sizeLine_eq
 have F:Cd ls ps:=by obtain⟨_,_,_,_,_,_,_,_,_,Wn⟩:=N;exact Wn.fit
 have l24:=F.l24
 have xl:=aL.length
 refine⟨_,rfl,L,rfl,⟨_,bH.of eL⟩,eE (K:=K) (a:=L) (xs:=xs) (fun j ys H'=>aK H H'/\∃us:List Addr,ys=us.map V.ref/\Paired (fun u (l:aH)=>H' u=some (.lst (((S.ev l.name).drop (S.g l.name)).map V.int))) us (ls.take j)/\∀u∈us,H u=none) (by omega) ⟨aK.refl _,[],rfl,.nil,by simp⟩ (fun j ys H' h=>by obtain⟨_,us,rfl,pu,_⟩:=h;have:us.length=_:=Paired.length pu;rw [List.length_take] at this;rw [lM];omega) (fun j ys H' _ h=>h.1.seq (bH.of eL)) ?_ ?_⟩
 ·rintro j x ys H1 hx ⟨s1,us,rfl,pu,fu⟩
  obtain⟨l,hlj,q,f,rfl,h1,h2⟩:=aL.get hx
  obtain⟨dxr,fsr,R1⟩:=id (hR.same s1)
  refine yes ⟨_,rfl,r,dxr,fsr,rfl,R1.1.1,R1.2.no _ (by decide +kernel),_,rfl,q,_,0,_,rfl,rfl,fH.of (s1 _ _ h1),aN (j:=0) rfl,r,n,A,ls,ps,S,l,rfl,hR.same s1,N.same s1,W.same s1,List.mem_of_getElem? hlj,fun H2 p s2 np ep=>⟨s1.trans s2,us ++ [p],by rw [List.map_append];rfl,?_,fun u hu=>?_⟩⟩
  ·rw [List.take_add_one,hlj]
   exact BJ (xV (fun _ _ h=>s2 _ _ h) pu) ep
  ·rcases List.mem_append.mp hu with h | h
   ·exact fu u h
   ·rw [List.mem_singleton.mp h];exact s1.free np
 rintro ys H1 ⟨s1,us,rfl,pu,fu⟩ p np
 rw [xl,List.take_length] at pu
 have t2:=aB (o:=.lst (us.map V.ref)) np
 exact k _ p us (s1.trans t2) (s1.free np) az (xV (fun _ _ h=>t2 _ _ h) pu) fu
theorem QV {b:Nat} {ls:List aH} {ps:List PD} {S:FS} (F:Cd ls ps) (O:DR b ls ps S) {p:PD} (hp:p∈ps):(fj ls S p).isSome=(jo ls S p).isNone:=by
 unfold fj
 rcases Cy p.kind p.ins (bz S p) with hlk | ⟨x,hlk⟩
 rotate_left
 ·rw [CZ (by rw [hlk];intro z;cases z),Cr hlk]
  rfl
 cases he:ue S p with
 | true=>rw [Ht he,Il hlk he];rfl
 | false=>
  have hdd:jw S p=some ⟨(places p.kind (bz S p)).map (strAt p.ins),Vb S p,gf p.kind (CJ S p) (S.k p.name)⟩:=by unfold jw;rw [if_neg (by simp [hlk]),if_neg (by simp [he])];rfl
  rw [hdd,CP hlk he]
  unfold yV
  dsimp only
  cases (Vb S p).find? (tQ ls S) <;> simp
theorem K5 {b:Nat} {ls:List aH} {ps:List PD} {S:FS} (F:Cd ls ps) (O:DR b ls ps S):∀qs:List PD,(∀q∈qs,q∈ps)->(!(qs.any fun p=>(fj ls S p).isSome))=decide ((eO ls S qs).length=qs.length)
 | [],_=>rfl
 | q:: r,h=>by
  have ih:=K5 F O r fun p hp=>h p (List.mem_cons_of_mem _ hp)
  have hn:=QV F O (h q List.mem_cons_self)
  have hl:=JB ls S r
  rw [List.any_cons,hn]
  have e:eO ls S (q:: r)=((jo ls S q).map fun w=>(q.name,w.1,w.2)).toList ++ eO ls S r:=by
   unfold eO
   rw [List.filterMap_cons]
   cases jo ls S q <;> rfl
  rw [e]
  cases jo ls S q with
  | none=>
   show _=decide ((eO ls S r).length=r.length+1)
   rw [decide_eq_false (by omega)]
   rfl
  | some w=>
   show(!(false || _))=decide ((eO ls S r).length+1=r.length+1)
   rw [Bool.false_or,ih]
   simp
theorem oA {E:List Addr} {H H':Hp} (s:aK H H'):aK (bA E H) (bA E H'):=fun b o e=>by
 have hb:b∉E:=fun z=>by unfold bA at e;rw [if_pos z] at e;cases e
 exact dR (s _ _ (bQ _ _ e)) hb
theorem wG.same {H H':Hp} {r:Addr} {n:Nat} {A:mJ} {ls:List aH} {ps:List PD} {S:FS} (h:wG K t H r n A ls ps S) (s:aK H H'):wG K t H' r n A ls ps S:=⟨h.run.same s,h.net.same (oA s),h.flow.same s,h.ne⟩
theorem wG.out {H:Hp} {r:Addr} {n:Nat} {A:mJ} {ls:List aH} {ps:List PD} {S:FS} (h:wG K t H r n A ls ps S) {a:Addr} (ha:H a=none):a∉r:: A.cells ls ps:=fun z=>by
 rcases List.mem_cons.mp z with rfl | z
 ·obtain⟨_,_,h1,_⟩:=h.run
  rw [ha] at h1
  cases h1.1
 ·exact h.flow.cell ha z
theorem RX {H:Hp} {Q:VK} {Ex:XK} {H0:Hp} {r dx n rw:Addr} {ls:List aH} {ps:List PD} {RW:List (Str×Addr×List Int)} (hr:H r=some (.ins t.pL dx [])) (s0:aK H0 H) (nr:H0 r=none) (N:fY K t H0 n ls ps) (hrw:oZ H0 rw RW) (hO:Ng ps RW)
  (k:∀(H':Hp) (A:mJ),A.n=n->aK H0 H'->wG K t H' r 0 A ls ps (mD ls ps RW)->(∀a∈A.cells ls ps,H0 a=none)->Q .non H'):ig K t [.ref r,.ref n,.ref rw] H Q Ex:=by
 unfold ig
 exact⟨H0,r,dx,n,rw,ls,ps,RW,rfl,hr,s0,nr,N,hrw,hO,k⟩
theorem Pg {H:Hp} {Q:VK} {Ex:XK} {b n:Nat} {r:Addr} {hd:V} {A:mJ} {ls:List aH} {ps:List PD} {S:FS} {xs:List Str} (R:wG K t H r n A ls ps S) (O:DR b ls ps S) (hb:b<=90000) (hn:n<=900) (hL:(hd=.non/\xs=[])∨∃L,hd=.ref L/\bH K H L (xs.map V.str)/\L∉A.cells ls ps) (hx:∀x∈xs,V.str x∈dX ps "give" ++ dX ps "take")
  (k:∀H' p,aK (bA (r:: A.cells ls ps) H) (bA (r:: A.cells ls ps) H')->wG K t H' r (n+1) A ls ps (rD ls ps S xs)->H p=none->H' p=some (.lst ((pW ls ps S xs).map fun w=>V.str w.1.name))->Q (.ref p) H'):lE K t [.ref r,hd] H Q Ex:=by
 unfold lE
 exact⟨b,r,n,A,ls,ps,S,hd,xs,rfl,R,O,hb,hn,hL,hx,k⟩
noncomputable def stp (ls:List aH) (ps:List PD) (S:FS):Bool:=!(ps.any fun p=>(fj ls S p).isSome)
noncomputable def Wr (ls:List aH) (S:FS):PyData:=.list (ls.map fun l=>.list (((S.ev l.name).drop (S.g l.name)).map PyData.int))
theorem Rc (ls:List aH) (S:FS):Gd 2 (Wr ls S):=.list fun d hd=>by
 obtain⟨l,_,rfl⟩:=List.mem_map.mp hd
 exact .list (.ints 0 _)
theorem Kd {H:Hp} {S:FS}:∀{us:List Addr} {ls:List aH},Paired (fun u (l:aH)=>H u=some (.lst (((S.ev l.name).drop (S.g l.name)).map V.int))) us ls->QL K H (us.map V.ref) (ls.map fun l=>.list (((S.ev l.name).drop (S.g l.name)).map PyData.int))
 | _,_,.nil=>.nil
 | _,_,.cons h t=>.cons (Iw (bH.of h)) (Kd t)
theorem PN {H:Hp} {p:Addr} {us:List Addr} {ls:List aH} {S:FS} (h:H p=some (.lst (us.map V.ref))) (pu:Paired (fun u (l:aH)=>H u=some (.lst (((S.ev l.name).drop (S.g l.name)).map V.int))) us ls):Dt K H (.ref p) (Wr ls S):=.list (bH.of h) (Kd pu)
theorem Jz {ls:List aH} {ps:List PD} {S:FS}:pW ls ps S []=[]↔stp ls ps S=true:=by
 have e:ps.filter (qw [])=ps:=List.filter_eq_self.mpr fun p _=>by simp [qw]
 unfold pW stp
 rw [e,List.filterMap_eq_nil_iff,Bool.not_eq_true',List.any_eq_false]
 constructor
 ·intro h p hp
  have:=h p hp
  rw [Option.map_eq_none_iff] at this
  rw [this];simp
 ·intro h p hp
  have:=h p hp
  cases e:fj ls S p with
  | none=>rfl
  | some d=>rw [e] at this;simp at this
inductive Fg (K:PySem.W.Frag) (vs:List V) (H:Hp) (Q:VK) (E:XK):Prop where
 | mk:∀(a:Addr) (ns:List Int),vs=[.ref a]->bH K H a (ns.map V.int)->ns.length<=63->(∀H',Q (.bl true) H')->Fg K vs H Q E
theorem Yc (T:Txt w K mg t):FO P w K mg base 10 t.We ["_law_script"] (Fg K):=by
 have sc:=T.O9.sc ["_law_script", "_law_lanes", "_law_parts", "_law_net_one", "_law_run", "_law_one", "_law_k", "_law_still", "_law_turn", "_law_early", "_law_worked"]
 refine T.O9.F.ok sc ln (fun _ _ _ _ H vs Q E hr h=>?_)
 obtain⟨a,ns,rfl,hS,hl,k⟩:=h
 refine⟨_,(ao (Yi (dJ (KZ T) T.yc hr (aa (pv 0) (aa aq (aa aq (aa iT ak au) au) au) aj)) (Dv rfl (il (gN sc 1) (il (gN sc 2) vZ))))
  (ao (sN sc 3 (iB (T.aU.M T.jT) (BZ T) (hr.mono (by decide)) (by rfl) T.aU.m T.jT.b .nil ik (aa (pv 1) (aa (pv 2) ak aj) aj)))
  (ao (sN sc 4 (iB (T.bN.M T.jO) (BX T) (hr.mono (by decide)) (by rfl) T.bN.m T.jO.b .nil ik (aa (pv 3) (aa (dJ (Iu T) T.vy hr (aa (pv 0) (aa (pv 2) (aa aq ak au) aj) aj)) ak bf) aj)))
  (ao (sN sc 5 (dJ (jc T) T.gU hr (aa (pv 0) (aa aq ak au) aj)))
  (ao (dq PassesOwn.never rfl (fC rfl T.iC (aa (bc cz (dJ (bj T) T.bx hr (aa (pv 5) (aa aq ak au) aj)) aq) ak bM)) (gN sc 6)
   (aA (bI (PQ (pv 4) T.bN.c (T.pB.me T.bN.me.2.2.2.2.1) (Bt T) (hr.mono (by decide)) T.pB.b .nil ik (aa (dJ (JH T) T.uL hr (aa (pv 2) (aa (dJ (jc T) T.gU hr (aa (pv 0) (aa (bc dm aq (pv 6)) ak bM) aj)) ak bf) aj)) ak bf)))))
  (ao (sN sc 7 iT)
  (ao (dq PassesOwn.never rfl (fC rfl T.iC (aa aq ak au)) (gN sc 8)
   (ao (fQ (bO (PW.pt (qK (jD (gB (pv 7))) (nj (gB (dJ (FQ T) T.wy hr (aa (pv 4) ak aj))))))
    (ao (sN sc 7 iT)
    (aA (bO (jD (gB (dJ (yh T) T.j4 hr (aa (pv 4) (aa (pv 3) (aa (pv 2) ak aj) aj) aj))))
     (aA (aO iT))
     bu)))
    bu))
   (ao (sN sc 9 (dJ (pJ T) T.iz hr (aa (pv 4) (aa (pv 1) ak aj) aj)))
   (ao (sN sc 10 (Ls (pv 4) T.bN.c (T.pB.me T.bN.me.2.2.2.2.1) (Bt T) (hr.mono (by decide)) (T.pB.b1 fun _ _ _ _ _ _ _=>zu fun _=>⟨_,rfl,rfl⟩) (.cons (show RelV V.non Value.none from rfl) .nil) ik))
   (aA (bO (PW.pt (vp (aZ Gf (kW (Sd hr.units) (pv 10) (bB ak) (bF _)) (pv 7) (bF _)) (oJ (PW.pt (qK (gB (pv 7)) (nj (aZ (Ji hr.units) (dJ (pJ T) T.iz hr (aa (pv 4) (aa (pv 1) ak aj) aj)) (pv 9) (bF _))))))))
    (aA (aO iT))
    bu))))))
  (aA (aO (Wz (kW eY (dJ (FQ T) T.wy hr (aa (pv 4) ak aj)) (pv 7) (bF _)) (xT (M3 (pv 7))))))))))))),?_⟩
 have hz:sizeLine=16777216:=sizeLine_eq
 refine⟨_,rfl,a,ns,1,4,true,rfl,hS,by decide,fun T' L P ls ps H2 s2 nL nP nLP eT A D=>?_⟩
 refine⟨T',_,rfl,fH.of eT,rfl,_,_,rfl,_,_,rfl,rfl,?_⟩
 have F:=D.fit
 clear eT nL nP nLP D
 have p16:=F.p16
 refine⟨_,rfl,_,rfl,fun n dxn nn ndn nen=>?_⟩
 have gn:aK H2 (upd (upd H2 dxn (.own n)) n (.ins t.dN dxn [])):=fun b o e=>by rw [aM (aD e nn),aM (aD e ndn)];exact e
 have en:upd (upd H2 dxn (.own n)) n (.ins t.dN dxn []) n=some (.ins t.dN dxn []):=az
 generalize upd (upd H2 dxn (.own n)) n (.ins t.dN dxn [])=Hn at gn en ⊢
 have hH:Hand K Hn L P ls ps:=by
  obtain⟨⟨x1,x2,x3⟩,⟨y1,y2,y3⟩⟩:=A.same gn
  refine⟨⟨x1,bH.of x2,x3.imp fun _ _ h=>?_⟩,⟨y1,bH.of y2,y3.imp fun _ _ h=>?_⟩⟩
  ·obtain⟨q,f,e,h1,h2⟩:=h
   exact⟨q,f,e,h1,.inl (bH.of h2)⟩
  ·obtain⟨q,a1,a2,a3,e,h1,h2,h3,h4⟩:=h
   exact⟨q,a1,a2,a3,e,h1,.inl (bH.of h2),.inl (bH.of h3),.inl (bH.of h4)⟩
 refine⟨n,dxn,L,P,ls,ps,rfl,en,hH,F,fun H4 b4 N4=>⟨rfl,?_⟩⟩
 have s24:aK H2 H4:=fun b o e=>b4 b o (aD e nn) (gn b o e)
 have A4:=A.same s24
 have hS4:=(s2.trans s24).seq hS
 clear hH gn en b4 s24 s2 hS A nn ndn nen
 have hk:∀p∈ps,p.kind <11:=fun p hp=>(F.pok p hp).1
 obtain⟨_,⟨ys,eP,aP⟩⟩:=id A4
 refine⟨_,rfl,_,rfl,_,rfl,a,P,ns,ys,ps,7,rfl,hS4,eP,aP,p16,fun H5 d RW s5 nd hR lR hne=>?_⟩
 refine fun r dxr nr ndr ner=>?_
 have gr:aK H5 (upd (upd H5 dxr (.own r)) r (.ins t.pL dxr [])):=fun b o e=>by rw [aM (aD e nr),aM (aD e ndr)];exact e
 refine RX az gr nr (N4.same s5) hR.at' ⟨hR.door,hR.bnd⟩ fun H6 Z eZ s6 R6 fr6=>⟨rfl,?_⟩
 subst eZ
 have eA:∀a∈r:: Z.cells ls ps,H5 a=none:=fun a ha=>by
  rcases List.mem_cons.mp ha with rfl | h
  ·exact nr
  ·exact fr6 a h
 have s46:aK H4 (bA (r:: Z.cells ls ps) H6):=fun b o e=>dR (s6 _ _ (s5 _ _ e)) fun z=>by
  have e':=s5 _ _ e;rw [eA b z] at e';cases e'
 have O6:=Qw F hR.at'.len hR.bnd
 generalize mD ls ps RW=S0 at R6 O6
 clear hR lR hne gr nd s6 s5 eA fr6 N4
 have hS6:=s46.seq hS4
 have A6:=A4.same s46
 refine⟨_,rfl,a,ns,0,rfl,bQ.seq hS6,?_⟩
 generalize hc0:jP ns 0=c0
 obtain⟨C,hC⟩:∃C,C=bA (r:: Z.cells ls ps) H6:=⟨_,rfl⟩
 rw [<-hC] at hS6 A6
 have m0:=Int.emod_nonneg (cg c0 3) (show(10:Int)≠0 by decide)
 have m1:=Int.emod_lt_of_pos (cg c0 3) (show(0:Int) <10 by decide)
 refine⟨_,rfl,_,_,rfl,_,_,rfl,rfl,by show(0:Int) <10;decide,_,rfl,by omega,by omega,?_⟩
 refine oE (fun j σ H'=>∃S,(∃v6,σ=[some (.ref a),some (.ref L),some (.ref P),some (.ref Z.n),some (.ref r),some (.int c0),v6,none,none,none,none])/\wG K t H' r j Z ls ps S/\aK C (bA (r:: Z.cells ls ps) H')/\DR (199+32 * j) ls ps S) ⟨S0,⟨none,rfl⟩,R6,by rw [hC];exact aK.refl _,O6⟩ ?_ ?_
 ·rintro j σ H7 hj ⟨S,⟨v6,rfl⟩,R7,sC,O⟩
  obtain⟨_,⟨ys,eP,aP⟩⟩:=id ((A6.same sC).same bQ)
  obtain⟨dxr,fsr,R1⟩:=id R7.run
  refine⟨_,rfl,r,dxr,fsr,rfl,R1.1.1,R1.2.no _ (by decide +kernel),_,rfl,_,rfl,_,rfl,_,_,rfl,rfl,a,ns,7+j,by simp,(sC.trans bQ).seq hS6,P,ys,ps,jP ns (7+j),rfl,eP,aP,hk,p16,fun H8 Lh zs s8 nLh eLh hzs=>?_⟩
  refine Pg (R7.same s8) O (by omega) (by omega) (.inr ⟨Lh,rfl,bH.of eLh,fun z=>R7.out nLh (.tail _ z)⟩) hzs fun H9 p9 c9 R9 np9 ep9=>?_
  exact⟨_,⟨_,rfl⟩,R9,(sC.trans (oA s8)).trans c9,by rw [show 199+32 * (j+1)=199+32 * j+32 by omega];exact Ot F O zs⟩
 rintro σ H7 ⟨S1,⟨v6,rfl⟩,R7,sC7,O7⟩
 obtain⟨m,hm,hm9⟩:∃m:Nat,m=(cg c0 3 % 10).toNat/\m<=9:=⟨_,rfl,by omega⟩
 rw [<-hm] at R7 O7
 refine⟨_,rfl,by decide,by decide,?_⟩
 refine oE (fun j σ H'=>∃(S:FS) (st:Bool),(∃v8 v9 v10,σ=[some (.ref a),some (.ref L),some (.ref P),some (.ref Z.n),some (.ref r),some (.int c0),v6,some (.bl st),v8,v9,v10])/\wG K t H' r (m+j) Z ls ps S/\aK C (bA (r:: Z.cells ls ps) H')/\DR (199+32 * (m+j)) ls ps S/\(st=true->stp ls ps S=true)) ⟨S1,false,⟨none,none,none,rfl⟩,R7,sC7,O7,by simp⟩ ?_ ?_
 ·rintro j σ H8 hj ⟨S,st,⟨v8,v9,v10,rfl⟩,R8,sC,O,hst⟩
  have hj:j <60:=hj
  obtain⟨⟨xs,eL,aL⟩,⟨ys,eP,aP⟩⟩:=id ((A6.same sC).same bQ)
  refine⟨fun σ H'=>(∃v8,σ=[some (.ref a),some (.ref L),some (.ref P),some (.ref Z.n),some (.ref r),some (.int c0),v6,some (.bl (stp ls ps S)),v8,v9,v10])/\aK H8 H',?_,?_⟩
  ·refine⟨_,rfl,st,rfl,?_⟩
   cases st with
   | true=>
    refine cB (cB ⟨⟨some (.int (0+(j:Int))),?_⟩,aK.refl _⟩)
    rw [hst rfl]
    rfl
   | false=>
    refine gh ⟨_,rfl,_,r,_,Z,ls,ps,S,rfl,R8.run,R8.netH,R8.flow,O,fun H9 s9=>⟨_,rfl,iu (fun hb=>?_) (fun hb=>?_)⟩⟩
    ·have hl:(eO ls S ps).length=ps.length:=by
      rw [K5 F O ps fun q h=>h] at hb
      exact of_decide_eq_true hb
     refine⟨_,rfl,_,rfl,_,rfl,_,r,_,Z,ls,ps,S,P,ys,rfl,R8.run.same s9,R8.netH.same s9,R8.flow.same s9,O,s9 _ _ eP,aP.imp (fun _ _ h=>h.same s9),hl,fun H10 s10=>⟨_,rfl,cB ⟨⟨some (.int (0+(j:Int))),?_⟩,s9.trans s10⟩⟩⟩
     rw [show stp ls ps S=true from hb]
     rfl
    ·refine⟨⟨some (.int (0+(j:Int))),?_⟩,s9⟩
     rw [show stp ls ps S=false from Bool.eq_false_iff.mpr hb]
     rfl
  rintro σ H9 ⟨⟨w8,rfl⟩,s9⟩
  have R9:=R8.same s9
  refine⟨_,rfl,_,rfl,_,r,_,Z,ls,ps,S,L,xs,rfl,R9.run,R9.netH,R9.flow,O,s9 _ _ eL,aL.imp (fun _ _ h=>h.same s9),fun H10 p10 us10 s10 np10 ep10 pu10 fu10=>?_⟩
  have R10:=R9.same s10
  obtain⟨dxr,fsr,Rr⟩:=id R10.run
  refine⟨_,rfl,r,dxr,fsr,rfl,Rr.1.1,Rr.2.no _ (by decide +kernel),Pg R10 O (by omega) (by omega) (.inl ⟨rfl,rfl⟩) (by simp) fun H11 p11 c11 R11 np11 ep11=>?_⟩
  have sC11:=((sC.trans (oA s9)).trans (oA s10)).trans c11
  have O11:DR (199+32 * (m+(j+1))) ls ps (rD ls ps S []):=by rw [show 199+32 * (m+(j+1))=199+32 * (m+j)+32 by omega];exact Ot F O []
  have g11:Gd 1 (.list (((pW ls ps S []).map fun w=>w.1.name).map PyData.str)):=.list (.strs 0 fun x hx=>by
   obtain⟨w,hw,rfl⟩:=List.mem_map.mp hx
   obtain⟨p,hp,e⟩:=List.mem_filterMap.mp hw
   obtain⟨dd,_,rfl⟩:=Option.map_eq_some_iff.mp e
   exact Cz (F.pnm p (List.mem_filter.mp hp).1))
  have g0:Gd 1 (.list (([]:List Str).map PyData.str)):=.list (.strs 0 (by simp))
  have em:((pW ls ps S []).map fun w=>V.str w.1.name)=((pW ls ps S []).map fun w=>w.1.name).map V.str:=by rw [List.map_map];rfl
  rw [em] at ep11
  refine⟨_,rfl,iZ,fun e ne=>⟨_,_,vU (bH.of (aB ne _ _ ep11)),vU (xs:=[]) (bH.of az),g11.shaped (by decide),g0.shaped (by decide),_,rfl,rfl,_,rfl,?_⟩⟩
  have t12:=aB (o:=.lst []) ne
  have R12:=R11.same t12
  have sC12:=sC11.trans (oA t12)
  have k10:∀a,H9 a=none->a∉r:: Z.cells ls ps:=fun a h=>R9.out h
  have up10:∀{b:Addr} {o:HO},H10 b=some o->b∉r:: Z.cells ls ps->upd H11 e (.lst []) b=some o:=fun h hn=>t12 _ _ (bQ _ _ (c11 _ _ (dR h hn)))
  generalize upd H11 e (.lst [])=H12 at t12 R12 sC12 up10 ⊢
  have ev:PyData.eqv (.list (((pW ls ps S []).map fun w=>w.1.name).map PyData.str)) (.list (([]:List Str).map PyData.str))=stp ls ps S:=by
   cases h:stp ls ps S with
   | true=>rw [Jz.mpr h];exact g0.eq
   | false=>
    cases hd:pW ls ps S [] with
    | nil=>rw [Jz.mp hd] at h;cases h
    | cons w ws=>simp [PyData.eqv,PyData.eqvAll]
  rw [ev,decide_eq_true rfl]
  refine cB ⟨_,rfl,_,rfl,?_⟩
  cases h:stp ls ps S with
  | false=>
   exact cB (cB ⟨_,false,⟨_,_,_,rfl⟩,R12,sC12,O11,by simp⟩)
  | true=>
   have eT:rD ls ps S []=S:=by unfold rD;rw [Jz.mpr h];rfl
   rw [eT] at R12 O11
   obtain⟨⟨xs2,eL2,aL2⟩,_⟩:=id ((A6.same sC12).same bQ)
   have g2:=Rc ls S
   refine gh ⟨_,rfl,_,rfl,_,r,_,Z,ls,ps,S,L,xs2,rfl,R12.run,R12.netH,R12.flow,O11,eL2,aL2,fun H13 p13 us13 s13 np13 ep13 pu13 _=>?_⟩
   have pu:Paired (fun u (l:aH)=>H13 u=some (.lst (((S.ev l.name).drop (S.g l.name)).map V.int))) us10 ls:=by
    have:∀{us:List Addr} {ms:List aH},(∀u∈us,H9 u=none)->Paired (fun u (l:aH)=>H10 u=some (.lst (((S.ev l.name).drop (S.g l.name)).map V.int))) us ms->Paired (fun u (l:aH)=>H13 u=some (.lst (((S.ev l.name).drop (S.g l.name)).map V.int))) us ms:=fun hf p=>by
     induction p with
     | nil=>exact .nil
     | cons h _ ih=>exact .cons (s13 _ _ (up10 h (k10 _ (hf _ List.mem_cons_self)))) (ih fun u hu=>hf u (List.mem_cons_of_mem _ hu))
    exact this fu10 pu10
   refine⟨_,rfl,_,_,PN ep13 pu13,PN (s13 _ _ (up10 ep10 (k10 _ np10))) pu,g2.shaped (by decide),g2.shaped (by decide),_,rfl,?_⟩
   rw [g2.eq]
   exact cB ⟨S,true,⟨_,_,_,rfl⟩,R12.same s13,sC12.trans (oA s13),O11,fun _=>h⟩
 rintro σ H8 ⟨S,st,⟨v8,v9,v10,rfl⟩,R8,sC,O,hst⟩
 refine⟨_,rfl,_,r,_,Z,ls,ps,S,rfl,R8.run,R8.netH,R8.flow,O,fun H9 s9=>?_⟩
 refine⟨_,rfl,rfl,_,rfl,?_⟩
 cases st with
 | true=>
  have:(!(ps.any fun p=>(fj ls S p).isSome))=true:=hst rfl
  rw [this,decide_eq_true rfl]
  exact gh (k _)
 | false=>exact iu (fun _=>k _) (fun _=>⟨_,rfl,_,rfl,k _⟩)
end
theorem fin {l:PySem.W.OpenLaw} {w:World} {K:PySem.W.Frag} {mg:Str->Option Value} {fa r0 r1 r2 r3 r4 r5 r6 r7 r8 r9 r10 r11 r12 r13 r14 r15 r16 r17 r18 r19 r20 r21 r22 r23 r24 r25 r26 r27 r28 r29 r30 r31 r32 r33 r34 r35 r36 r37 r38 r39 r40 r41 r42 r43 r44 r45 r46 r47 r48 r49 r50 r51 r52 r53 r54 r55 r56 r57 r58 r59 r60 r61 r62 r63 r64 r65 r66 r67 r68 r69 r70 r71 r72 r73 r74 r75 r76 r77 r78 r79 r80 r81 r82 r83 r84 r85 r86 r87 r88 r89 r90 r91 r92 r93 r94 r95 r96 r97 r98 r99 r100 r101 r102 r103 r104 r105 r106 r107 r108 r109 r110 r111 r112 r113 r114 r115:Addr} (hfa:mg "law" =some (.ref fa)) (T:Txt w K mg ⟨r0,r1,r2,r3,r4,r5,r6,r7,r8,r9,r10,r11,r12,r13,r14,r15,r16,r17,r18,r19,r20,r21,r22,r23,r24,r25,r26,r27,r28,r29,r30,r31,r32,r33,r34,r35,r36,r37,r38,r39,r40,r41,r42,r43,r44,r45,r46,r47,r48,r49,r50,r51,r52,r53,r54,r55,r56,r57,r58,r59,r60,r61,r62,r63,r64,r65,r66,r67,r68,r69,r70,r71,r72,r73,r74,r75,r76,r77,r78,r79,r80,r81,r82,r83,r84,r85,r86,r87,r88,r89,r90,r91,r92,r93,r94,r95,r96,r97,r98,r99,r100,r101,r102,r103,r104,r105,r106,r107,r108,r109,r110,r111,r112,r113,r114,r115⟩):∃fd:FuncData,(∀(s:Shared) (v:Value),BindsTo s fd ⟨[v],[]⟩ [("_law_script",v)])/\∀base:Heap,K.In base->base.Ns mainGlobals mg->iK l.prog w K mg base Fw 10 fa fd ["_law_script"] (Fg K):=by
 have e:=hfa.symm.trans T.O9.m
 cases e
 exact⟨_,Xp T.O9.F fun _ _ _ _ _ _ _=>rfl,fun base _ _=>Yc T⟩
theorem walk {l:PySem.W.OpenLaw} {q:Program} {loose:List Str} {XP:(Str->Option Value)->Heap->Prop} {YP:World->Heap->Prop} {d:DefRec} {K:Params->PySem.W.Frag} (hn:l.most=some 63) (hdf:d.params.defaults=[])
  (hY:∀(w:World) (h:Heap),YP w h->(K w.params).In h)
  (F:∀(w:World) (mg:Str->Option Value) (fa:Addr) (h:Heap),(K w.params).In h->h.Ns mainGlobals mg->mg d.name=some (.ref fa)->
   ∃fd:FuncData,(∀(s:Shared) (u:Value),BindsTo s fd ⟨[u],[]⟩ [("_law_script",u)])/\∀base:Heap,(K w.params).In base->base.Ns mainGlobals mg->iK l.prog w (K w.params) mg base Fw 10 fa fd ["_law_script"] (Fg (K w.params))):
  PySem.W.WalkO q loose XP YP l.row.toRowW d [] (fun f vs=>PySem.call f vs):=
 L2.Vj (n:=63) (k:=10) (x:= "_law_script") (CX:=fun _=>Fw) (sp:=fun w=>Fg (K w.params)) hn (by decide) hdf ⟨rfl,by decide,by decide⟩ hY F (fun _ _ a ns hl _ hS=>⟨a,ns,rfl,hS,hl,fun _=>rfl⟩) fun _ _ _ _ _ z=>z
end K54
open PySem PySem.W PyProof.Rows L2
set_option maxRecDepth 100000 in
set_option maxHeartbeats 0 in
theorem PySem.Challenge.cw_holdlane_k54_whole_stood_still_holds : PySem.Challenge.rw_holdlane_k54_whole_stood_still.Holds := by
 w_on;o_law
 refine HD.head (by rfl) (by rfl) (by rfl) (by rfl) (by first | assumption | decide +kernel) (by decide +kernel) ⟨rfl,rfl,rfl,rfl,rfl,by decide +kernel⟩ rfl (fun _=>rfl) ?_ ?_
 ·w_witness2
 k_fill
 refine K54.walk (l:=PySem.Challenge.rw_holdlane_k54_whole_stood_still) rfl rfl (fun w h Y=>PySem.W.kIn_of Y) ?F
 case F=>
  intro w mg fa h KX G hmg
  refine' K54.fin hmg ⟨?q0,?q1,?q2,?q3,?q4,?q5,?q6,?q7,?q8,?q9,?q10,?q11,?q12,?q13,?q14,?q15,?q16,?q17,?q18,?q19,?q20,?q21,?q22,?q23,?q24,?q25,?q26,?q27,?q28,?q29,?q30,?q31,?q32,?q33,?q34,?q35,?q36,?q37,?q38,?q39,?q40,?q41,?q42,?q43,?q44,?q45,?q46,?q47,?q48,?q49,?q50,?q51,?q52,?q53,?q54,?q55,?q56,?q57,?q58,?q59,?q60,?q61,?q62,?q63,?q64,?q65,?q66,?q67,?q68,?q69,?q70,?q71,?q72,?q73,?q74,?q75,?q76,?q77,?q78,?q79,?q80,?q81,?q82,?q83,?q84,?q85,?q86,?q87,?q88,?q89,?q90,?q91,?q92,?q93,?q94,?q95,?q96,?q97,?q98,?q99,?q100,?q101,?q102,?q103,?q104,?q105,?q106,?q107,?q108,?q109,?q110,?q111,?q112,?q113,?q114,?q115,?q116,?q117,?q118,?q119,?q120,?q121,?q122,?q123,?q124,?q125,?q126,?q127,?q128,?q129,?q130,?q131,?q132,?q133,?q134,?q135,?q136,?q137,?q138⟩
  all_goals try dsimp only
  (case q0 | q1 | q2 | q3 | q4 | q5 | q6 | q7 | q8 | q9 | q10=>refine' ⟨mg_of KX G ?_,⟨?_,?_,?_,?_⟩,?_,?_,⟨?_,?_,?_,?_,?_,?_,trivial⟩,⟨?_,?_,?_,?_,trivial⟩⟩ <;> (try dsimp only) <;> k_is)
  (case q11=>refine' ⟨mg_of KX G ?_,⟨?_,?_,?_,?_⟩,?_,?_,⟨?_,?_,?_,?_,?_,?_,?_,?_,?_,?_,?_,?_,trivial⟩,⟨?_,?_,?_,?_,?_,trivial⟩⟩ <;> (try dsimp only) <;> k_is)
  (case q12=>refine' ⟨mg_of KX G ?_,⟨?_,?_,?_,?_⟩,?_,?_,⟨?_,?_,?_,?_,?_,?_,?_,?_,?_,?_,trivial⟩,⟨?_,?_,?_,?_,?_,?_,trivial⟩⟩ <;> (try dsimp only) <;> k_is)
  (case q13=>refine' ⟨mg_of KX G ?_,⟨?_,?_,?_,?_⟩,?_,?_,⟨?_,?_,?_,?_,?_,?_,?_,?_,trivial⟩,⟨?_,?_,?_,trivial⟩⟩ <;> (try dsimp only) <;> k_is)
  (case q14 | q15=>refine' .of (mg_of KX G ?_) (d7.of ?_ ?_ ?_ ?_ (fun _ _ _ _ _ _=>zu fun _=>rfl)) <;> (try k_is);all_goals try k_is)
  (case q16=>refine' d7.of ?_ ?_ ?_ ?_ (fun _ _ _ _ _ _=>Yw fun _ _ _ _ _=>rfl) <;> try k_is)
  (case q17 | q18 | q19 | q20 | q21 | q22 | q23 | q24 | q25 | q26 | q27=>refine' d7.of ?_ ?_ ?_ ?_ (fun _ _ _ _ _ _=>zu fun _=>rfl) <;> try k_is)
  (case q28=>refine' .of (mg_of KX G ?_) (d7.of ?_ ?_ ?_ ?_ (fun _ _ _ _ _ _=>zu fun _=>rfl)) <;> (try k_is);all_goals try k_is)
  (case q29 | q30 | q31=>refine' .of (mg_of KX G ?_) (d7.of ?_ ?_ ?_ ?_ (fun _ _ _ _ _ _=>Yw fun _ _ _ _ _=>rfl)) <;> (try k_is);all_goals try k_is)
  (case q32=>refine' .of (mg_of KX G ?_) (d7.of ?_ ?_ ?_ ?_ (fun _ _ _ _ _ _=>zu fun _=>rfl)) <;> (try k_is);all_goals try k_is)
  (case q33 | q34 | q35=>refine' d7.of ?_ ?_ ?_ ?_ (fun _ _ _ _ _ _=>wH fun _ _=>rfl) <;> try k_is)
  (case q36 | q37=>refine' d7.of ?_ ?_ ?_ ?_ (fun _ _ _ _ _ _=>zu fun _=>rfl) <;> try k_is)
  (case q38 | q39 | q40 | q41 | q42 | q43 | q44 | q45 | q46 | q47 | q48=>refine' d7.of ?_ ?_ ?_ ?_ (fun _ _ _ _ _ _=>Gw fun _ _ _=>rfl) <;> try k_is)
  (case q49 | q50 | q51 | q52=>refine' .of (mg_of KX G ?_) (d7.of ?_ ?_ ?_ ?_ (fun _ _ _ _ _ _=>wH fun _ _=>rfl)) <;> (try k_is);all_goals try k_is)
  (case q53=>refine' .of (mg_of KX G ?_) (d7.of ?_ ?_ ?_ ?_ (fun _ _ _ _ _ _=>Gw fun _ _ _=>rfl)) <;> (try k_is);all_goals try k_is)
  (case q54=>refine' .of (mg_of KX G ?_) (d7.of ?_ ?_ ?_ ?_ (fun _ _ _ _ _ _=>wH fun _ _=>rfl)) <;> (try k_is);all_goals try k_is)
  (case q55=>refine' .of (mg_of KX G ?_) (d7.of ?_ ?_ ?_ ?_ (fun _ _ _ _ _ _=>Z5 fun _ _ _ _ _ _=>rfl)) <;> (try k_is);all_goals try k_is)
  (case q56=>refine' .of (mg_of KX G ?_) (d7.of ?_ ?_ ?_ ?_ (fun _ _ _ _ _ _=>Xg fun _ _ _ _=>rfl)) <;> (try k_is);all_goals try k_is)
  (case q57 | q58 | q59=>refine' .of (mg_of KX G ?_) (d7.of ?_ ?_ ?_ ?_ (fun _ _ _ _ _ _=>Gw fun _ _ _=>rfl)) <;> (try k_is);all_goals try k_is)
  (case q60=>refine' .of (mg_of KX G ?_) (d7.of ?_ ?_ ?_ ?_ (fun _ _ _ _ _ _=>Xg fun _ _ _ _=>rfl)) <;> (try k_is);all_goals try k_is)
  (case q61=>refine' .of (mg_of KX G ?_) (d7.of ?_ ?_ ?_ ?_ (fun _ _ _ _ _ _=>zu fun _=>rfl)) <;> (try k_is);all_goals try k_is)
  (case q62 | q63=>refine' .of (mg_of KX G ?_) (d7.of ?_ ?_ ?_ ?_ (fun _ _ _ _ _ _=>wH fun _ _=>rfl)) <;> (try k_is);all_goals try k_is)
  (case q64=>refine' .of (mg_of KX G ?_) (d7.of ?_ ?_ ?_ ?_ (fun _ _ _ _ _ _=>Gw fun _ _ _=>rfl)) <;> (try k_is);all_goals try k_is)
  (case q65=>refine' .of (mg_of KX G ?_) (d7.of ?_ ?_ ?_ ?_ (fun _ _ _ _ _ _=>wH fun _ _=>rfl)) <;> (try k_is);all_goals try k_is)
  (case q66=>refine' .of (mg_of KX G ?_) (d7.of ?_ ?_ ?_ ?_ (fun _ _ _ _ _ _=>Xg fun _ _ _ _=>rfl)) <;> (try k_is);all_goals try k_is)
  (case q67 | q68 | q69=>refine' .of (mg_of KX G ?_) (d7.of ?_ ?_ ?_ ?_ (fun _ _ _ _ _ _=>Gw fun _ _ _=>rfl)) <;> (try k_is);all_goals try k_is)
  (case q70 | q71=>refine' d7.of ?_ ?_ ?_ ?_ (fun _ _ _ _ _ _=>zu fun _=>rfl) <;> try k_is)
  (case q72=>refine' d7.of ?_ ?_ ?_ ?_ (fun _ _ _ _ _ _=>wH fun _ _=>rfl) <;> try k_is)
  (case q73 | q74=>refine' d7.of ?_ ?_ ?_ ?_ (fun _ _ _ _ _ _=>zu fun _=>rfl) <;> try k_is)
  (case q75 | q76 | q77 | q78 | q79 | q80=>refine' d7.of ?_ ?_ ?_ ?_ (fun _ _ _ _ _ _=>wH fun _ _=>rfl) <;> try k_is)
  (case q81=>refine' d7.of ?_ ?_ ?_ ?_ (fun _ _ _ _ _ _=>Gw fun _ _ _=>rfl) <;> try k_is)
  (case q82 | q83 | q84 | q85 | q86 | q87 | q88=>refine' d7.of ?_ ?_ ?_ ?_ (fun _ _ _ _ _ _=>wH fun _ _=>rfl) <;> try k_is)
  (case q89 | q90=>refine' d7.of ?_ ?_ ?_ ?_ (fun _ _ _ _ _ _=>Gw fun _ _ _=>rfl) <;> try k_is)
  (case q91 | q92 | q93 | q94 | q95=>refine' d7.of ?_ ?_ ?_ ?_ (fun _ _ _ _ _ _=>wH fun _ _=>rfl) <;> try k_is)
  (case q96=>refine' Wm.of ?_ ?_ ?_ ?_ ?_ (fun _ F=>F.binds fun _ _ _ _ _ _ _=>wH fun _ _=>⟨_,rfl,rfl⟩) <;> (try k_is);all_goals try k_is)
  (case q97=>refine' .of (mg_of KX G ?_) (d7.of ?_ ?_ ?_ ?_ (fun _ _ _ _ _ _=>zu fun _=>rfl)) <;> (try k_is);all_goals try k_is)
  (case q98=>refine' .of (mg_of KX G ?_) (d7.of ?_ ?_ ?_ ?_ (fun _ _ _ _ _ _=>wH fun _ _=>rfl)) <;> (try k_is);all_goals try k_is)
  (case q99=>refine' d7.of ?_ ?_ ?_ ?_ (fun _ _ _ _ _ _=>Gw fun _ _ _=>rfl) <;> try k_is)
  (case q100=>refine' d7.of ?_ ?_ ?_ ?_ (fun _ _ _ _ _ _=>wH fun _ _=>rfl) <;> try k_is)
  (case q101=>refine' d7.of ?_ ?_ ?_ ?_ (fun _ _ _ _ _ _=>zu fun _=>rfl) <;> try k_is)
  (case q102=>refine' .of (mg_of KX G ?_) (d7.of ?_ ?_ ?_ ?_ (fun _ _ _ _ _ _=>wH fun _ _=>rfl)) <;> (try k_is);all_goals try k_is)
  (case q103=>refine' .of (mg_of KX G ?_) (d7.of ?_ ?_ ?_ ?_ (fun _ _ _ _ _ _=>zu fun _=>rfl)) <;> (try k_is);all_goals try k_is)
  (case q104 | q105 | q106=>refine' .of (mg_of KX G ?_) (d7.of ?_ ?_ ?_ ?_ (fun _ _ _ _ _ _=>wH fun _ _=>rfl)) <;> (try k_is);all_goals try k_is)
  (case q107 | q108=>refine' .of (mg_of KX G ?_) (d7.of ?_ ?_ ?_ ?_ (fun _ _ _ _ _ _=>zu fun _=>rfl)) <;> (try k_is);all_goals try k_is)
  (case q109=>refine' .of (mg_of KX G ?_) (d7.of ?_ ?_ ?_ ?_ (fun _ _ _ _ _ _=>Gw fun _ _ _=>rfl)) <;> (try k_is);all_goals try k_is)
  (case q110=>refine' .of (mg_of KX G ?_) (d7.of ?_ ?_ ?_ ?_ (fun _ _ _ _ _ _=>wH fun _ _=>rfl)) <;> (try k_is);all_goals try k_is)
  (case q111 | q112=>refine' .of (mg_of KX G ?_) (d7.of ?_ ?_ ?_ ?_ (fun _ _ _ _ _ _=>Gw fun _ _ _=>rfl)) <;> (try k_is);all_goals try k_is)
  (case q113=>refine' .of (mg_of KX G ?_) (d7.of ?_ ?_ ?_ ?_ (fun _ _ _ _ _ _=>wH fun _ _=>rfl)) <;> (try k_is);all_goals try k_is)
  (case q114=>refine' .of (mg_of KX G ?_) (d7.of ?_ ?_ ?_ ?_ (fun _ _ _ _ _ _=>zu fun _=>rfl)) <;> (try k_is);all_goals try k_is)
  (case q115=>refine' mg_of KX G ?_;k_is)
  (case q116=>
   refine' L2.KTab.mk' ?lk ?c1 ?c2 ?c3 ?c4 ?sm ?rows ?nd
   (case lk=>k_is)
   (case c1=>exact rfl)
   (case c2=>exact rfl)
   (case c3=>exact rfl)
   (case c4=>exact rfl)
   (case sm=>exact rfl)
   (case nd=>decide +kernel)
   (case rows=>
    refine' L2.jJ.cons ?hh0 ?lk0 ?cc0 ?dd0 ?vv0 ?zz0 ?rest0
    (case hh0=>exact rfl)
    (case lk0=>k_is)
    (case cc0=>exact rfl)
    (case dd0=>exact rfl)
    (case vv0=>exact .cons ⟨_,rfl⟩ (.cons ⟨_,rfl⟩ (.cons ⟨_,rfl⟩ .nil)))
    (case zz0=>decide)
    refine' L2.jJ.cons ?hh1 ?lk1 ?cc1 ?dd1 ?vv1 ?zz1 ?rest1
    (case hh1=>exact rfl)
    (case lk1=>k_is)
    (case cc1=>exact rfl)
    (case dd1=>exact rfl)
    (case vv1=>exact .cons ⟨_,rfl⟩ (.cons ⟨_,rfl⟩ (.cons ⟨_,rfl⟩ .nil)))
    (case zz1=>decide)
    refine' L2.jJ.cons ?hh2 ?lk2 ?cc2 ?dd2 ?vv2 ?zz2 ?rest2
    (case hh2=>exact rfl)
    (case lk2=>k_is)
    (case cc2=>exact rfl)
    (case dd2=>exact rfl)
    (case vv2=>exact .cons ⟨_,rfl⟩ (.cons ⟨_,rfl⟩ (.cons ⟨_,rfl⟩ .nil)))
    (case zz2=>decide)
    refine' L2.jJ.cons ?hh3 ?lk3 ?cc3 ?dd3 ?vv3 ?zz3 ?rest3
    (case hh3=>exact rfl)
    (case lk3=>k_is)
    (case cc3=>exact rfl)
    (case dd3=>exact rfl)
    (case vv3=>exact .cons ⟨_,rfl⟩ (.cons ⟨_,rfl⟩ (.cons ⟨_,rfl⟩ .nil)))
    (case zz3=>decide)
    refine' L2.jJ.cons ?hh4 ?lk4 ?cc4 ?dd4 ?vv4 ?zz4 ?rest4
    (case hh4=>exact rfl)
    (case lk4=>k_is)
    (case cc4=>exact rfl)
    (case dd4=>exact rfl)
    (case vv4=>exact .cons ⟨_,rfl⟩ (.cons ⟨_,rfl⟩ (.cons ⟨_,rfl⟩ .nil)))
    (case zz4=>decide)
    refine' L2.jJ.cons ?hh5 ?lk5 ?cc5 ?dd5 ?vv5 ?zz5 ?rest5
    (case hh5=>exact rfl)
    (case lk5=>k_is)
    (case cc5=>exact rfl)
    (case dd5=>exact rfl)
    (case vv5=>exact .cons ⟨_,rfl⟩ (.cons ⟨_,rfl⟩ (.cons ⟨_,rfl⟩ .nil)))
    (case zz5=>decide)
    refine' L2.jJ.cons ?hh6 ?lk6 ?cc6 ?dd6 ?vv6 ?zz6 ?rest6
    (case hh6=>exact rfl)
    (case lk6=>k_is)
    (case cc6=>exact rfl)
    (case dd6=>exact rfl)
    (case vv6=>exact .cons ⟨_,rfl⟩ (.cons ⟨_,rfl⟩ (.cons ⟨_,rfl⟩ .nil)))
    (case zz6=>decide)
    refine' L2.jJ.cons ?hh7 ?lk7 ?cc7 ?dd7 ?vv7 ?zz7 ?rest7
    (case hh7=>exact rfl)
    (case lk7=>k_is)
    (case cc7=>exact rfl)
    (case dd7=>exact rfl)
    (case vv7=>exact .cons ⟨_,rfl⟩ (.cons ⟨_,rfl⟩ (.cons ⟨_,rfl⟩ .nil)))
    (case zz7=>decide)
    refine' L2.jJ.cons ?hh8 ?lk8 ?cc8 ?dd8 ?vv8 ?zz8 ?rest8
    (case hh8=>exact rfl)
    (case lk8=>k_is)
    (case cc8=>exact rfl)
    (case dd8=>exact rfl)
    (case vv8=>exact .cons ⟨_,rfl⟩ (.cons ⟨_,rfl⟩ (.cons ⟨_,rfl⟩ .nil)))
    (case zz8=>decide)
    refine' L2.jJ.cons ?hh9 ?lk9 ?cc9 ?dd9 ?vv9 ?zz9 ?rest9
    (case hh9=>exact rfl)
    (case lk9=>k_is)
    (case cc9=>exact rfl)
    (case dd9=>exact rfl)
    (case vv9=>exact .cons ⟨_,rfl⟩ (.cons ⟨_,rfl⟩ (.cons ⟨_,rfl⟩ .nil)))
    (case zz9=>decide)
    refine' L2.jJ.cons ?hh10 ?lk10 ?cc10 ?dd10 ?vv10 ?zz10 ?rest10
    (case hh10=>exact rfl)
    (case lk10=>k_is)
    (case cc10=>exact rfl)
    (case dd10=>exact rfl)
    (case vv10=>exact .cons ⟨_,rfl⟩ (.cons ⟨_,rfl⟩ (.cons ⟨_,rfl⟩ .nil)))
    (case zz10=>decide)
    exact .nil))
  (case q117 | q118 | q119 | q120 | q121 | q122 | q123 | q124 | q125 | q126 | q127 | q128 | q129 | q130=>refine' mg_none_of KX G ?_;k_is)
  (case q131 | q132 | q133 | q134 | q135 | q136 | q137 | q138=>refine' gC (mg_of KX G ?_) ?_ <;> (try k_is);all_goals exact⟨_,rfl⟩)
