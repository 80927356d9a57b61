import PyProof.Rows.All
import Wide.All
import OpenK.AllK
import Wide.FinOn
import Lean
import PyProof.EqAt
import PyProof.EqKinds
import PyProof.TupleCall
import PyProof.StrLawsChain
import PyProof.StrLawsOccR
import PyProof.StrLawsReplace
import PyProof.NeKinds
import PyProof.EnumStmt
import PyProof.EnumMake
import PyProof.ListRange
import PyProof.StationsW
import PyProof.ExcClass2
import PyProof.ExcInit
import PyProof.InstStoreFacts
import OpenK.KRaise
import PyProof.NsDelKeeps
import PyProof.RulesAs
import PyProof.Rows.Catch
import OpenK.KOwn
import PyProof.ExcArgsOwn
import PyProof.ExcAttrAll.ValueError
import PyProof.IsiBase
import PyProof.MaxThree
import PyProof.SeqI3
import KE.KIsAll
import KE.IntTextLaws
import PyProof.StrLawsIdx
import PyProof.FitsInt
import PySem.Challenge.RW_holdlane_k46_written_down_and_gone_on
set_option Elab.async false
set_option linter.all false
set_option maxRecDepth 100000
namespace L2
open PySem PySem.Spec PyProof.Rows
noncomputable abbrev Key:=Sum Int Str
noncomputable def Gz:Key->Value->Bool
 | .inl k,v=>Value.isInt k v
 | .inr x,v=>Value.isStrOf x v
noncomputable def Y6 (w:World):Key->Int
 | .inl k=>hashInt k
 | .inr x=>hashStr w x
theorem fU:∀{k:Key} {v:Value},Gz k v=true->(∃i t,k=Sum.inl i/\v=Value.int i t)∨(∃x t,k=Sum.inr x/\v=Value.str x t)
 | .inl i,v,h=>by
  obtain⟨t,e⟩:=Value.isInt_shape (k:=i) (v:=v) h
  exact .inl ⟨i,t,rfl,e⟩
 | .inr x,v,h=>by
  obtain⟨t,e⟩:=Value.isStrOf_shape (x:=x) (v:=v) h
  exact .inr ⟨x,t,rfl,e⟩
theorem Pu (i:Int) (t:Tok):Gz (.inl i) (.int i t)=true:=by simp [Gz,Value.isInt]
theorem Oz (x:Str) (t:Tok):Gz (.inr x) (.str x t)=true:=by simp [Gz,Value.isStrOf]
theorem V6 (a b:Int):decide ((Sum.inl a:Key)=Sum.inl b)=(a == b):=by
 by_cases e:a=b
 ·subst e;simp
 ·have h:¬(Sum.inl a:Key)=Sum.inl b:=fun q=>e (Sum.inl.inj q)
  rw [decide_eq_false h]
  exact(beq_eq_false_iff_ne.mpr e).symm
theorem V9 (a b:Str):decide ((Sum.inr a:Key)=Sum.inr b)=decide (a=b):=by
 by_cases e:a=b
 ·subst e;simp
 ·have h:¬(Sum.inr a:Key)=Sum.inr b:=fun q=>e (Sum.inr.inj q)
  rw [decide_eq_false h,decide_eq_false e]
theorem WL (a:Int) (b:Str):decide ((Sum.inl a:Key)=Sum.inr b)=false:=decide_eq_false (fun q=>nomatch q)
theorem W8 (a:Str) (b:Int):decide ((Sum.inr a:Key)=Sum.inl b)=false:=decide_eq_false (fun q=>nomatch q)
noncomputable def du (prog:Program) (w:World):PySem.KeyKind prog w Key where
 is:=Gz
 hash:=Y6 w
 inj:=fun v a b ha hb=>by
  rcases fU ha with ⟨i,t,rfl,rfl⟩ | ⟨x,t,rfl,rfl⟩
  ·rcases fU hb with ⟨j,u,rfl,e⟩ | ⟨y,u,rfl,e⟩
   ·injection e with e1 _;rw [e1]
   ·exact nomatch e
  ·rcases fU hb with ⟨j,u,rfl,e⟩ | ⟨y,u,rfl,e⟩
   ·exact nomatch e
   ·injection e with e1 _;rw [e1]
 byValue:=fun k v h=>by
  rcases fU h with ⟨i,t,rfl,rfl⟩ | ⟨x,t,rfl,rfl⟩ <;> rfl
 pyHash:=fun hv h=>by
  rcases fU hv with ⟨i,t,rfl,rfl⟩ | ⟨x,t,rfl,rfl⟩
  ·exact wpAny_pyHash_int h
  ·exact wpAny_pyHash_str h
 eqBool:=fun hu hv h=>by
  rcases fU hu with ⟨i,t,rfl,rfl⟩ | ⟨x,t,rfl,rfl⟩
  ·rcases fU hv with ⟨j,u,rfl,rfl⟩ | ⟨y,u,rfl,rfl⟩
   ·rw [V6] at h;exact wpAny_eqBool_int h
   ·rw [WL] at h;exact SeqAt.EqAt.int_str i t y u _ _ _ _ h
  ·rcases fU hv with ⟨j,u,rfl,rfl⟩ | ⟨y,u,rfl,rfl⟩
   ·rw [W8] at h;exact SeqAt.EqAt.str_int x t j u _ _ _ _ h
   ·rw [V9] at h;exact wpAny_eqBool_str h
 «strs» :=fun k x t v h=>by
  rcases fU h with ⟨i,u,rfl,e⟩ | ⟨y,u,rfl,e⟩
  ·exact nomatch e
  ·injection e with e1 _
   subst e1
   cases v <;> rfl
theorem K7 (prog:Program) (w:World) (i:Int) (t:Tok):(du prog w).is (.inl i) (.int i t)=true:=Pu i t
theorem nj (prog:Program) (w:World) (x:Str) (t:Tok):(du prog w).is (.inr x) (.str x t)=true:=Oz x t
inductive V where
 | non | bl (b:Bool) | int (i:Int) | str (x:Str) | byt (b:Array UInt8) | flt (b:UInt64) | ref (a:Addr) | ty (n:String)
 deriving DecidableEq
noncomputable def RelV:V->Value->Prop
 | .non,u=>u=Value.none
 | .bl b,u=>u=Value.bool b
 | .int i,u=>∃t,u=Value.int i t
 | .str x,u=>∃t,u=Value.str x t
 | .byt b,u=>∃t,u=Value.bytes b t
 | .flt b,u=>∃t,u=Value.float b t
 | .ref a,u=>u=Value.ref a
 | .ty n,u=>u=Value.type n
noncomputable abbrev Vals:List V->List Value->Prop:=Paired RelV
theorem Vals.length {xs:List V} {us:List Value} (r:Vals xs us):xs.length=us.length:=Paired.length r
theorem Vals.get:∀{xs:List V} {us:List Value} {i:Nat} {x:V},Vals xs us->xs[i]?=some x->∃u,us[i]?=some u/\RelV x u
 | _,_,_,_,.nil,e=>by simp at e
 | _,_,0,_,.cons r _,e=>by simp at e;subst e;exact⟨_,rfl,r⟩
 | _,_,i+1,x,.cons _ t,e=>by
  obtain⟨u,h1,h2⟩:=Vals.get (i:=i) (x:=x) t (by simpa using e)
  exact⟨u,by simpa using h1,h2⟩
theorem Vals.append:∀{xs ys:List V} {us ws:List Value},Vals xs us->Vals ys ws->Vals (xs ++ ys) (us ++ ws)
 | _,_,_,_,.nil,s=>s
 | _,_,_,_,.cons r t,s=>.cons r (Vals.append t s)
theorem Vals.take:∀{xs:List V} {us:List Value} (n:Nat),Vals xs us->Vals (xs.take n) (us.take n)
 | _,_,0,_=>.nil
 | _,_,_+1,.nil=>.nil
 | _,_,n+1,.cons r t=>.cons r (Vals.take n t)
theorem Vals.drop:∀{xs:List V} {us:List Value} (n:Nat),Vals xs us->Vals (xs.drop n) (us.drop n)
 | _,_,0,r=>r
 | _,_,_+1,.nil=>.nil
 | _,_,n+1,.cons _ t=>Vals.drop n t
noncomputable def uH:Option V->Option Value->Prop
 | some v,some u=>RelV v u
 | none,none=>True
 | _,_=>False
noncomputable def KV {κ:Type}:List (κ×V)->List (κ×Value)->Prop:=Paired fun(p:κ×V) (q:κ×Value)=>p.1=q.1/\RelV p.2 q.2
noncomputable def kV:Key->V
 | .inl i=>.int i
 | .inr x=>.str x
inductive HO where
  | lst (xs:List V)
  | tup (xs:List V)
  | dK (kvs:List (Key×V)) | dT (kvs:List (List Key×V))
  | set (S:Int->Bool) (n:Nat)
  | ins (C dx:Addr) (fs:List (Str×V))
  | own (x:Addr)
  | xd (fs:List (Str×V))
  | met (f x:Addr)
  | rng (lo hi:Int)
  | frz (o:Obj) (u:HO)
  | tbl (ps:Array Value)
  | ext (φ:Heap->Prop)
noncomputable abbrev Hp:=Addr->Option HO
noncomputable def upd (H:Hp) (a:Addr) (o:HO):Hp:=fun b=>if b=a then some o else H b
theorem ao {H:Hp} {a:Addr} {o:HO}:upd H a o a=some o:=by unfold upd;rw [if_pos rfl]
theorem aH {H:Hp} {a b:Addr} {o:HO} (h:b≠a):upd H a o b=H b:=by unfold upd;rw [if_neg h]
theorem tO {H:Hp} {a:Addr} {o u:HO}:upd (upd H a o) a u=upd H a u:=by
 funext b;unfold upd;split <;> rfl
theorem uC {H:Hp} {a b:Addr} {o u:HO} (h:H a=some o) (h':H b=some u) (d:o≠u):a≠b:=by
 intro e;subst e;rw [h] at h';exact d (Option.some.inj h')
theorem aD {H:Hp} {a b:Addr} {o:HO} (h:H a=some o) (h':H b=none):a≠b:=by
 intro e;subst e;rw [h] at h';cases h'
section
variable (P:Program) (w:World)
noncomputable def fZ (H:Hp) (h:Heap) (a:Addr):HO->Prop
 | .lst xs=>xs.length<=sizeLine/\∃(its:List Value) (n:Nat),Vals xs its/\h.get? a=some { cls:=.type "list",data:=.seq its.toArray n }
 | .tup xs=>xs.length<=sizeLine/\∃its:List Value,Vals xs its/\IsTup h a its.toArray
 | .dK kvs=>kvs.length<=sizeLine/\(a == sysModules)=false/\∃vs,KV kvs vs/\h.DictOf (du P w) a vs
 | .dT kvs=>kvs.length<=sizeLine/\(a == sysModules)=false/\∃xs:List (List Key×Addr×Value),
   Paired (fun(p:List Key×V) (q:List Key×Addr×Value)=>p.1=q.1/\H q.2.1=some (.tup (p.1.map kV))/\RelV p.2 q.2.2) kvs xs/\
   ∃o es ep,h.get? a=some o/\o.ExactDict/\o.data=.dict es ep/\es.toList=xs.map (entryOfKey (tupleKind (du P w)))/\(xs.map (·.1)).Nodup
 | .set S n=>h.SetOf (intKind P w) a S n
 | .ins C dx fs=>H dx=some (.own a)/\fs.length<=1000/\dx≠a/\h.get? a=some (PySem.W.instObj C dx)/\
   ∃mA,h.Ns1 dx mA/\(∀f,uH (fs.lookup f) (mA f))/\PySem.Within mA (fs.map (·.1))
 | .own _=>∃o,h.get? a=some o
 | .xd fs=>∃mA,h.Ns1 a mA/\∀f,uH (fs.lookup f) (mA f)
 | .rng lo hi=>∃t u v,h.get? a=some { cls:=.type "range",data:=.fields #[.int lo t,.int hi u,.int 1 v] }
 | .frz o u=>h.get? a=some o/\fZ H h a u
 | .tbl ps=>h.get? a=some { cls:=.none,data:=.fields ps }
 | .met f x=>h.get? a=some (PySem.W.methodObj (.ref f) (.ref x))
 | .ext φ=>φ h/\(∃o,h.get? a=some o)/\∀h1 h2:Heap,φ h1->(∀o,h1.get? a=some o->h2.get? a=some o)->φ h2
noncomputable def wK (H:Hp) (h:Heap):Prop:=∀a o,H a=some o->fZ P w H h a o
end
section
variable {P:Program} {w:World} {H H':Hp} {h h':Heap} {a:Addr} {o:HO}
theorem fZ.lt (x:fZ P w H h a o):a <h.objs.size:=by
 cases o with
 | lst xs=>obtain⟨_,_,_,_,e⟩:=x;exact Heap.lt_size e
 | tup xs=>obtain⟨_,_,_,p⟩:=x;exact p.lt
 | dK kvs=>obtain⟨_,_,_,_,o,_,_,e,_⟩:=x;exact Heap.lt_size e
 | dT kvs=>obtain⟨_,_,_,_,o,_,_,e,_⟩:=x;exact Heap.lt_size e
 | set S n=>obtain⟨o,_,_,_,e,_⟩:=x;exact Heap.lt_size e
 | ins C dx fs=>obtain⟨_,_,_,e,_⟩:=x;exact Heap.lt_size e
 | own y=>obtain⟨_,e⟩:=x;exact Heap.lt_size e
 | xd fs=>obtain⟨_,⟨_,_,_,e,_⟩,_⟩:=x;exact Heap.lt_size e
 | rng lo hi=>obtain⟨_,_,_,e⟩:=x;exact Heap.lt_size e
 | frz ob u=>obtain⟨e,_⟩:=x;exact Heap.lt_size e
 | tbl ps=>exact Heap.lt_size (show h.get? a=some _ from x)
 | met f y=>exact Heap.lt_size (show h.get? a=some _ from x)
 | ext φ=>obtain⟨_,⟨_,e⟩,_⟩:=x;exact Heap.lt_size e
theorem Paired.mapP {α β:Type} {F G:α->β->Prop}:∀{l₁:List α} {l₂:List β},Paired F l₁ l₂->(∀a b,F a b->G a b)->Paired G l₁ l₂
 | _,_,.nil,_=>.nil
 | _,_,.cons r t,f=>.cons (f _ _ r) (Paired.mapP t f)
theorem fZ.stay (x:fZ P w H h a o) (k:∀b u,(b=a∨H b=some (.own a))->h.get? b=some u->h'.get? b=some u)
  (ho:∀b,H b=some (.own a)->H' b=some (.own a)) (ht:∀b xs,H b=some (.tup xs)->H' b=some (.tup xs)):fZ P w H' h' a o:=by
 induction o with
 | lst xs=>obtain⟨z,its,n,r,e⟩:=x;exact⟨z,its,n,r,k _ _ (.inl rfl) e⟩
 | tup xs=>obtain⟨z,its,r,ob,e,c⟩:=x;exact⟨z,its,r,ob,k _ _ (.inl rfl) e,c⟩
 | dK kvs=>obtain⟨z,y,vs,r,ob,es,ep,e,c⟩:=x;exact⟨z,y,vs,r,ob,es,ep,k _ _ (.inl rfl) e,c⟩
 | dT kvs=>
  obtain⟨z,y,xs,r,ob,es,ep,e,c⟩:=x
  exact⟨z,y,xs,Paired.mapP r fun p q z=>⟨z.1,ht _ _ z.2.1,z.2.2⟩,ob,es,ep,k _ _ (.inl rfl) e,c⟩
 | set S n=>obtain⟨ob,es,ep,t,e,c⟩:=x;exact⟨ob,es,ep,t,k _ _ (.inl rfl) e,c⟩
 | ins C dx fs=>
  obtain⟨d,z,ne,e,mA,⟨od,es,ep,e2,c⟩,r⟩:=x
  exact⟨ho _ d,z,ne,k _ _ (.inl rfl) e,mA,⟨od,es,ep,k _ _ (.inr d) e2,c⟩,r⟩
 | own y=>obtain⟨ob,e⟩:=x;exact⟨ob,k _ _ (.inl rfl) e⟩
 | xd fs=>obtain⟨mA,⟨od,es,ep,e,c⟩,r⟩:=x;exact⟨mA,⟨od,es,ep,k _ _ (.inl rfl) e,c⟩,r⟩
 | rng lo hi=>obtain⟨t,u,v,e⟩:=x;exact⟨t,u,v,k _ _ (.inl rfl) e⟩
 | frz ob u ih=>obtain⟨e,q⟩:=x;exact⟨k _ _ (.inl rfl) e,ih q⟩
 | tbl ps=>
  have e:h.get? a=some { cls:=.none,data:=.fields ps }:=x
  show h'.get? a=some { cls:=.none,data:=.fields ps }
  exact k a _ (.inl rfl) e
 | met f y=>
  have e:h.get? a=some (PySem.W.methodObj (.ref f) (.ref y)):=x
  show h'.get? a=some (PySem.W.methodObj (.ref f) (.ref y))
  exact k a _ (.inl rfl) e
 | ext φ=>obtain⟨p,⟨o,e⟩,st⟩:=x;exact⟨st _ _ p fun o q=>k _ _ (.inl rfl) q,⟨o,k _ _ (.inl rfl) e⟩,st⟩
theorem wK.lt (x:wK P w H h) (e:H a=some o):a <h.objs.size:=(x a o e).lt
theorem wK.fresh (x:wK P w H h) (e:h.objs.size<=a):H a=none:=by
 cases q:H a with
 | none=>rfl
 | some u=>exact absurd (Nat.lt_of_lt_of_le (x.lt q) e) (Nat.lt_irrefl _)
theorem wK.kept (x:wK P w H h) (k:∀b u,h.get? b=some u->h'.get? b=some u):wK P w H h':=fun a o e=>
 (x a o e).stay (fun b u _ q=>k b u q) (fun _ q=>q) fun _ _ q=>q
theorem wK.laid (x:wK P w H h) (k:∀b u,h.get? b=some u->h'.get? b=some u) (hp:h.objs.size<=a) (new:fZ P w (upd H a o) h' a o):wK P w (upd H a o) h':=fun b u e=>by
 have hn:=x.fresh hp
 by_cases hb:b=a
 ·subst hb;rw [ao] at e;cases e;exact new
 ·rw [aH hb] at e
  exact(x b u e).stay (fun c v _ q=>k c v q) (fun c q=>by rw [aH (aD q hn)];exact q) fun c xs q=>by rw [aH (aD q hn)];exact q
end
noncomputable def Rd (H:Hp) (a:Addr) (u:HO):Prop:=H a=some u∨∃o,H a=some (.frz o u)
theorem Rd.ok {P:Program} {w:World} {H:Hp} {h:Heap} {a:Addr} {u:HO} (r:Rd H a u) (x:wK P w H h):fZ P w H h a u:=by
 rcases r with r | ⟨o,r⟩
 ·exact x a u r
 ·obtain⟨_,q⟩:=x a _ r
  exact q
noncomputable def Xr:Option HO->Prop
 | some (.lst _)=>True
 | some (.dK _)=>True
 | some (.dT _)=>True
 | some (.set _ _)=>True
 | some (.ins _ _ _)=>True
 | some (.ext _)=>True
 | _=>False
section
variable {P:Program} {w:World} {H:Hp} {h h':Heap} {x e:Addr} {o':HO}
theorem wK.write (ok:wK P w H h) (mu:Xr (H x)) (he:e=x∨H e=some (.own x)) (k:∀b u,b≠e->h.get? b=some u->h'.get? b=some u) (heo:∃u,h'.get? e=some u)
  (new:fZ P w (upd H x o') h' x o'):wK P w (upd H x o') h':=fun b u q=>by
 have nown:∀c y,H c=some (.own y)->c≠x:=fun c y r z=>by subst z;rw [r] at mu;exact mu
 have ntup:∀c xs,H c=some (.tup xs)->c≠x:=fun c xs r z=>by subst z;rw [r] at mu;exact mu
 by_cases hb:b=x
 ·subst hb;rw [ao] at q;cases q;exact new
 ·rw [aH hb] at q
  by_cases hbe:b=e
  ·have q':H b=some (.own x):=by
    rcases he with z | z
    ·exact absurd (hbe.trans z) hb
    ·rw [hbe];exact z
   rw [q] at q';cases q'
   obtain⟨v,hv⟩:=heo
   exact⟨v,by rw [hbe];exact hv⟩
  ·refine(ok b u q).stay (fun c v hc r=>k c v ?_ r) (fun c r=>by rw [aH (nown c b r)];exact r) fun c xs r=>by rw [aH (ntup c xs r)];exact r
   rcases hc with rfl | hc
   ·exact hbe
   ·rintro rfl
    rcases he with z | z
    ·exact nown c b hc z
    ·rw [hc] at z;cases z;exact hb rfl
end
structure Un (fs ex:List Addr) (H H':Hp) (h h':Heap):Prop where
 keep:∀b o,h.get? b=some o->H b=none->b∉fs->b∉ex->h'.get? b=some o
 slot:∀b o,h.get? b=some o->H b=none->b∈fs->b∉ex->∃sl,h'.get? b=some { o with slots:=sl }
 free:∀b o,h.get? b=some o->H b=none->b∉ex->H' b=none
 there:∀b o,h.get? b=some o->b∉ex->∃o',h'.get? b=some o'
 tups:∀b xs,H b=some (.tup xs)->H' b=some (.tup xs)
 frzs:∀b o u,H b=some (.frz o u)->H' b=some (.frz o u)
 tbls:∀b ps,H b=some (.tbl ps)->∃more,H' b=some (.tbl (ps ++ more))
section
variable {fs fs' ex ex':List Addr} {H H1 H2:Hp} {h h1 h2 h':Heap} {a x e:Addr} {o:HO}
theorem Un.any (u:Un fs ex H H1 h h1) {b:Addr} {ob:Obj} (q:h.get? b=some ob) (n:H b=none) (hx:b∉ex):∃sl,h1.get? b=some { ob with slots:=sl }:=by
 by_cases hb:b∈fs
 ·exact u.slot b ob q n hb hx
 ·exact⟨ob.slots,u.keep b ob q n hb hx⟩
theorem Un.kept (k:∀b u,h.get? b=some u->h'.get? b=some u):Un fs ex H H h h':=
 ⟨fun b ob q _ _ _=>k b ob q,fun b ob q _ _ _=>⟨ob.slots,k b ob q⟩,fun _ _ _ n _=>n,fun b ob q _=>⟨ob,k b ob q⟩,fun _ _ q=>q,fun _ _ _ q=>q,fun _ ps q=>⟨#[],by rw [q];simp⟩⟩
theorem Un.refl:Un fs ex H H h h:=Un.kept fun _ _ q=>q
theorem Un.laid (k:∀b u,h.get? b=some u->h'.get? b=some u) (hp:h.objs.size<=a) (hn:H a=none):Un fs ex H (upd H a o) h h' where
 keep:=fun b u q _ _ _=>k b u q
 slot:=fun b u q _ _ _=>⟨u.slots,k b u q⟩
 free:=fun b u q n _=>by rw [aH (Nat.ne_of_lt (Nat.lt_of_lt_of_le (Heap.lt_size q) hp))];exact n
 there:=fun b u q _=>⟨u,k b u q⟩
 tups:=fun b xs q=>by rw [aH (aD q hn)];exact q
 frzs:=fun b u xs q=>by rw [aH (aD q hn)];exact q
 tbls:=fun b ps q=>⟨#[],by rw [aH (aD q hn),q];simp⟩
theorem Un.write (mu:Xr (H x)) (he:e=x∨H e=some (.own x)) (k:∀b u,b≠e->h.get? b=some u->h'.get? b=some u) (heo:∃u,h'.get? e=some u):Un fs ex H (upd H x o) h h':=by
 have hx:∀b,H b=none->b≠x:=fun b n z=>by subst z;rw [n] at mu;exact mu
 have hb:∀b,H b=none->b≠e:=fun b n z=>by
  subst z
  rcases he with r | r
  ·exact hx b n r
  ·rw [n] at r;cases r
 have hm:∀b u,H b=some u->¬Xr (some u)->b≠x:=fun b u q nm z=>by subst z;rw [q] at mu;exact nm mu
 refine⟨fun b u q n _ _=>k b u (hb b n) q,fun b u q n _ _=>⟨u.slots,k b u (hb b n) q⟩,fun b u q n _=>by rw [aH (hx b n)];exact n,fun b u q _=>?_,
  fun b xs q=>by rw [aH (hm b _ q fun z=>z)];exact q,fun b u xs q=>by rw [aH (hm b _ q fun z=>z)];exact q,fun b ps q=>⟨#[],by rw [aH (hm b _ q fun z=>z),q];simp⟩⟩
 by_cases hbe:b=e
 ·subst hbe;exact heo
 ·exact⟨u,k b u hbe q⟩
end
noncomputable def YW (h:Heap) (H:Hp):List Addr:=(List.range h.objs.size).filter fun a=>(H a).isSome
noncomputable def Jm (h:Heap) (H:Hp):Heap:=PySem.W.hideAll h (YW h H)
theorem P0 (h:Heap) (H:Hp):(Jm h H).objs.size=h.objs.size:=PySem.W.hideAll_size _ _
theorem SN {h:Heap} {H:Hp} {b:Addr} {o:Obj} (e:h.get? b=some o) (n:H b=none):(Jm h H).get? b=some o:=
 PySem.W.hideAll_get _ e fun hm=>by
  have q:(H b).isSome=true:=(List.mem_filter.mp hm).2
  rw [n] at q;simp at q
theorem Th {h:Heap} {H:Hp} {b:Addr} {o:Obj} (e:(Jm h H).get? b=some o):h.get? b=some o/\H b=none:=by
 have e':h.get? b=some o:=PySem.W.of_hideAll (YW h H) e
 refine⟨e',?_⟩
 cases q:H b with
 | none=>rfl
 | some x=>
  have hm:b∈YW h H:=List.mem_filter.mpr ⟨List.mem_range.mpr (Heap.lt_size e'),by simp [q]⟩
  have z:(Jm h H).get? b=none:=PySem.W.hideAll_none (YW h H) hm
  rw [z] at e;cases e
structure Mod (K:PySem.W.Frag) (mg:Str->Option Value) (base:Heap):Prop where
 kin:K.In base
 glob:base.Ns mainGlobals mg
 blt:∃mb,base.Ns builtinsNs mb/\∀x:Str,x≠ "__name__" ->mb x=bootBuiltins x
 nolimit:base.NoLimit
structure Cx where
 prog:Program
 w:World
 K:PySem.W.Frag
 mg:Str->Option Value
 base:Heap
 A:Around
 N:List Str
 s₀:Shared
 H₀:Hp
 env:Env
 outer:List Env
 stack:List Env
 ex:List Addr
 fn:Str->Bool
 calm:Bool
 pn:List (Addr×Obj)
 xe:Value->Shared->Prop
noncomputable def frs (l:List Env):List Addr:=l.filterMap (·.frame)
noncomputable abbrev Cx.fs (X:Cx):List Addr:=frs X.outer
noncomputable def YM (sc:Scope) (x:Str):Prop:=sc.names.lookup x=some .local∨sc.names.lookup x=some .cell∨sc.names.lookup x=some .free
noncomputable def Loc (sc:Scope) (x:Str):Prop:=sc.names.lookup x=some .local∨sc.names.lookup x=some .cell
noncomputable def Look (env:Env) (h:Heap) (m:Str->Option Value) (x:Str) (u:Value):Prop:=
 (env.kindOf x=some .local/\m x=some u)∨((env.kindOf x=some .cell∨env.kindOf x=some .free)/\∃c,env.cells.lookup x=some c/\h.IsCell c (some u))
structure Cx.Ok (X:Cx):Prop where
 mod:Mod X.K X.mg X.base
 kind:X.env.scope.kind=.function
 glob:X.env.globals=mainGlobals
 blt:X.env.builtins=builtinsNs
 above:X.s₀.heap.objs.size<=X.env.locals
 inj:∀x y c,X.env.cells.lookup x=some c->X.env.cells.lookup y=some c->x=y
 has:∀x,(X.env.kindOf x=some .cell∨X.env.kindOf x=some .free)->∃c,X.env.cells.lookup x=some c
 cab:∀x c,X.fn x=true->X.env.cells.lookup x=some c->X.s₀.heap.objs.size<=c
 hd:X.calm=true->X.A.handled=none
 frames:X.A.frames=some X.stack
 stk:X.stack=X.outer∨(X.stack=X.env:: X.outer/\X.env.frame=some X.env.locals)
 exf:∀b∈X.ex,b≠X.env.locals/\∀x c,X.env.cells.lookup x=some c->c≠b
 bs:∀b o,X.base.get? b=some o->X.s₀.heap.get? b=some o/\X.H₀ b=none
 bsz:X.base.objs.size<=X.s₀.heap.objs.size
 noex:∀b o,X.base.get? b=some o->b∉X.ex
 exfs:∀b∈X.ex,b∉X.fs
 funs:X.s₀.heap.FunFrames X.base X.outer
 frf:∀b∈X.fs,X.H₀ b=none
structure Inv (X:Cx) (pins:List (Addr×Obj)) (σ:List (Option V)) (H:Hp) (s:Shared):Prop where
 ok:X.Ok
 os:s.os=X.s₀.os
 bare:AllBare s.gens
 base:Un X.fs X.ex X.H₀ H X.s₀.heap s.heap
 loc:∃m,s.heap.Ns X.env.locals m/\∀(i:Nat) (x:Str) (v:V),X.N[i]?=some x->σ[i]?=some (some v)->YM X.env.scope x->∃u,RelV v u/\Look X.env s.heap m x u
 cell:∀x c,X.env.cells.lookup x=some c->∃v,s.heap.IsCell c v
 free:H X.env.locals=none
 freeC:∀x c,X.env.cells.lookup x=some c->H c=none
 pin:∀p∈X.pn ++ pins,s.heap.get? p.1=some p.2/\H p.1=none/\p.1≠X.env.locals/\p.1∉X.fs/\∀v,p.2.data≠.cell v
 hok:wK X.prog X.w H s.heap
 len:σ.length=X.N.length
section
variable {X:Cx} {pins:List (Addr×Obj)} {σ:List (Option V)} {H H':Hp} {s:Shared} {h':Heap}
theorem Cx.Ok.nofr (ok:X.Ok) {b:Addr} {o:Obj} (e:X.base.get? b=some o):b∉X.fs:=fun hb=>by
 have:=(ok.funs.mem hb).1
 rw [e] at this;cases this
theorem Inv.bs (I:Inv X pins σ H s):∀b o,X.base.get? b=some o->s.heap.get? b=some o/\H b=none:=fun b o e=>
 ⟨I.base.keep b o (I.ok.bs b o e).1 (I.ok.bs b o e).2 (I.ok.nofr e) (I.ok.noex b o e),I.base.free b o (I.ok.bs b o e).1 (I.ok.bs b o e).2 (I.ok.noex b o e)⟩
theorem Inv.bk (I:Inv X pins σ H s):∀b o,X.base.get? b=some o->s.heap.get? b=some o:=fun b o e=>(I.bs b o e).1
theorem Inv.mod (I:Inv X pins σ H s):Mod X.K X.mg X.base:=I.ok.mod
theorem Inv.kIn (I:Inv X pins σ H s):X.K.In s.heap:=I.ok.mod.kin.keeps I.bk
theorem Inv.lt (I:Inv X pins σ H s):X.env.locals <s.heap.objs.size:=let ⟨_,hn,_⟩:=I.loc;hn.lt
theorem Inv.sz (I:Inv X pins σ H s):X.s₀.heap.objs.size<=s.heap.objs.size:=Nat.le_trans I.ok.above (Nat.le_of_lt I.lt)
theorem Inv.nofs (I:Inv X pins σ H s) {a:Addr} (h:s.heap.objs.size<=a):a∉X.fs:=fun hb=>by
 obtain⟨_,o,ho,_⟩:=I.ok.funs.mem hb
 exact absurd (Nat.lt_of_lt_of_le (Heap.lt_size ho) (Nat.le_trans I.sz h)) (Nat.lt_irrefl _)
theorem Inv.cne (I:Inv X pins σ H s):∀x c,X.env.cells.lookup x=some c->c≠X.env.locals:=fun x c e z=>by
 obtain⟨v,o,ho,hd⟩:=I.cell x c e
 obtain⟨m,⟨o',es,ep,ho',hd',_⟩,_⟩:=I.loc
 rw [z,ho'] at ho;cases ho;rw [hd'] at hd;cases hd
theorem Inv.funs (I:Inv X pins σ H s):s.heap.FunFrames X.base X.outer:=by
 have all:∀(l:List Env),(∀b∈frs l,b∈X.fs)->X.s₀.heap.FunFrames X.base l->s.heap.FunFrames X.base l:=by
  intro l
  induction l with
  | nil=>intro _ _;trivial
  | cons env r ih=>
   intro hs hl
   obtain⟨hk,⟨L,o,hf,hn,ho,hd⟩,hr⟩:=hl
   have hL:L∈X.fs:=hs L (by unfold frs;rw [List.filterMap_cons,hf];exact List.mem_cons_self)
   obtain⟨sl,e⟩:=I.base.slot L o ho (I.ok.frf L hL) hL fun z=>I.ok.exfs L z hL
   exact⟨hk,⟨L,_,hf,hn,e,hd⟩,ih (fun b hb=>hs b (by unfold frs;rw [List.filterMap_cons,hf];exact List.mem_cons_of_mem _ hb)) hr⟩
 exact all X.outer (fun _ hb=>hb) I.ok.funs
theorem Inv.stack (I:Inv X pins σ H s):s.heap.FunFrames X.base X.stack:=by
 rcases I.ok.stk with e | ⟨e,hf⟩
 ·rw [e];exact I.funs
 ·rw [e]
  obtain⟨m,hn,_⟩:=I.loc
  refine .cons (by rw [I.ok.kind];decide) hf hn ?_ I.funs
  exact Heap.get?_none_of_le (Nat.le_trans I.ok.bsz I.ok.above)
theorem Inv.stkSub (I:Inv X pins σ H s):∀b∈frs X.stack,b∈X.env.locals:: X.fs:=fun b hb=>by
 rcases I.ok.stk with e | ⟨e,hf⟩
 ·rw [e] at hb;exact List.mem_cons_of_mem _ hb
 ·rw [e] at hb
  unfold frs at hb
  rw [List.filterMap_cons,hf] at hb
  exact hb
theorem Inv.stkFree (I:Inv X pins σ H s):∀b∈frs X.stack,H b=none:=fun b hb=>by
 rcases List.mem_cons.mp (I.stkSub b hb) with e | hb
 ·rw [e];exact I.free
 ·obtain⟨_,o,ho,_⟩:=I.ok.funs.mem hb
  exact I.base.free b o ho (I.ok.frf b hb) fun z=>I.ok.exfs b z hb
theorem Inv.step {g':Array GenState} {t':Nat} {d':Drawn} {ch:List Addr} (I:Inv X pins σ H s)
  (hch:∀b∈ch,(b∈X.ex∨X.s₀.heap.objs.size<=b)/\b≠X.env.locals/\(∀x c,X.env.cells.lookup x=some c->c≠b)/\∀p∈X.pn ++ pins,p.1≠b)
  (keep:∀b o,b≠X.env.locals->b∉X.fs->b∉ch->s.heap.get? b=some o->H b=none->h'.get? b=some o)
  (slot:∀b o,b≠X.env.locals->b∈X.fs->b∉ch->s.heap.get? b=some o->H b=none->∃sl,h'.get? b=some { o with slots:=sl }) (free:∀b o,b∉ch->s.heap.get? b=some o->H b=none->H' b=none)
  (there:∀b o,b∉ch->s.heap.get? b=some o->∃o',h'.get? b=some o')
  (tups:∀b xs,H b=some (.tup xs)->H' b=some (.tup xs)) (frzs:∀b o u,H b=some (.frz o u)->H' b=some (.frz o u)) (tbls:∀b ps,H b=some (.tbl ps)->∃more,H' b=some (.tbl (ps ++ more)))
  (ns:∀m,s.heap.Ns X.env.locals m->h'.Ns X.env.locals m) (hok:wK X.prog X.w H' h') (hg:AllBare g'):
  Inv X pins σ H' { s with heap:=h',gens:=g',drawn:=d',toks:=t' }:=by
 have neL:∀b o,X.s₀.heap.get? b=some o->b≠X.env.locals:=fun b o e=>Nat.ne_of_lt (Nat.lt_of_lt_of_le (Heap.lt_size e) I.ok.above)
 have neC:∀b o,X.s₀.heap.get? b=some o->b∉X.ex->b∉ch:=fun b o e hx hb=>by
  rcases(hch b hb).1 with z | z
  ·exact hx z
  ·exact absurd (Nat.lt_of_lt_of_le (Heap.lt_size e) z) (Nat.lt_irrefl _)
 have cellK:∀x c,X.env.cells.lookup x=some c->∀v,s.heap.IsCell c v->h'.IsCell c v:=fun x c e v ⟨o,ho,hd⟩=>by
  have nch:c∉ch:=fun z=>(hch c z).2.2.1 x c e rfl
  by_cases hc:c∈X.fs
  ·obtain⟨sl,q⟩:=slot c o (I.cne x c e) hc nch ho (I.freeC x c e)
   exact⟨_,q,hd⟩
  ·exact⟨o,keep c o (I.cne x c e) hc nch ho (I.freeC x c e),hd⟩
 refine⟨I.ok,I.os,hg,⟨fun b o e n hb hx=>?_,fun b o e n hb hx=>?_,fun b o e n hx=>?_,fun b o e hx=>?_,fun b xs e=>tups b xs (I.base.tups b xs e),fun b o xs e=>frzs b o xs (I.base.frzs b o xs e),fun b ps e=>?_⟩,?_,fun x c e=>?_,?_,fun x c e=>?_,fun p hp=>?_,hok,I.len⟩
 ·exact keep b o (neL b o e) hb (neC b o e hx) (I.base.keep b o e n hb hx) (I.base.free b o e n hx)
 ·obtain⟨sl,e1⟩:=I.base.slot b o e n hb hx
  obtain⟨sl',e2⟩:=slot b _ (neL b o e) hb (neC b o e hx) e1 (I.base.free b o e n hx)
  exact⟨sl',e2⟩
 ·obtain⟨o',e1⟩:=I.base.there b o e hx
  exact free b o' (neC b o e hx) e1 (I.base.free b o e n hx)
 ·obtain⟨o',e1⟩:=I.base.there b o e hx
  exact there b o' (neC b o e hx) e1
 ·obtain⟨m1,e1⟩:=I.base.tbls b ps e
  obtain⟨m2,e2⟩:=tbls b _ e1
  exact⟨m1 ++ m2,by rw [e2,Array.append_assoc]⟩
 ·obtain⟨m,hn,hl⟩:=I.loc
  refine⟨m,ns m hn,fun i x v e1 e2 e3=>?_⟩
  obtain⟨u,r,l⟩:=hl i x v e1 e2 e3
  refine⟨u,r,?_⟩
  rcases l with l | ⟨k,c,e,z⟩
  ·exact .inl l
  ·exact .inr ⟨k,c,e,cellK x c e _ z⟩
 ·obtain⟨v,z⟩:=I.cell x c e
  exact⟨v,cellK x c e v z⟩
 ·obtain⟨m,⟨o,_,_,ho,_⟩,_⟩:=I.loc
  exact free _ o (fun z=>(hch _ z).2.1 rfl) ho I.free
 ·obtain⟨v,o,ho,hd⟩:=I.cell x c e
  exact free c o (fun z=>(hch c z).2.2.1 x c e rfl) ho (I.freeC x c e)
 ·obtain⟨e,n,ne,nf,d⟩:=I.pin p hp
  have nch:p.1∉ch:=fun z=>(hch p.1 z).2.2.2 p hp rfl
  exact⟨keep p.1 p.2 ne nf nch e n,free p.1 p.2 nch e n,ne,nf,d⟩
theorem Inv.un {t':Nat} (I:Inv X pins σ H s) (u:Un X.fs [] H H' s.heap h') (hok:wK X.prog X.w H' h'):Inv X pins σ H' { s with heap:=h',toks:=t' }:=by
 obtain⟨m,⟨o,es,ep,ho,r⟩,_⟩:=id I.loc
 obtain⟨sl,hL⟩:=u.any ho I.free (by simp)
 exact I.step (g':=s.gens) (d':=s.drawn) (ch:=[]) (fun _ z=>nomatch z) (fun b o _ hb _ e n=>u.keep b o e n hb (by simp)) (fun b o _ hb _ e n=>u.slot b o e n hb (by simp)) (fun b o _ e n=>u.free b o e n (by simp)) (fun b o _ e=>u.there b o e (by simp)) u.tups u.frzs u.tbls (fun m' hm=>by
  obtain⟨o',es',ep',ho',r'⟩:=hm
  rw [ho] at ho';cases ho'
  exact⟨_,es',ep',hL,r'⟩) hok I.bare
theorem Inv.call {g':Array GenState} {t':Nat} {d':Drawn} {ch:List Addr} (I:Inv X pins σ H s) (u:Un (frs X.stack) ch H H' s.heap h') (hok:wK X.prog X.w H' h') (hg:AllBare g')
  (hch:∀b∈ch,(b∈X.ex∨X.s₀.heap.objs.size<=b)/\b≠X.env.locals/\(∀x c,X.env.cells.lookup x=some c->c≠b)/\∀p∈X.pn ++ pins,p.1≠b):
  Inv X pins σ H' { s with heap:=h',gens:=g',drawn:=d',toks:=t' }:=by
 obtain⟨m,⟨o,es,ep,ho,r⟩,_⟩:=id I.loc
 obtain⟨sl,hL⟩:=u.any ho I.free fun z=>(hch _ z).2.1 rfl
 exact I.step (ch:=ch) hch (fun b o hL hb hc e n=>u.keep b o e n (fun z=>(List.mem_cons.mp (I.stkSub b z)).elim hL hb) hc) (fun b o _ _ hc e n=>u.any e n hc) (fun b o hc e n=>u.free b o e n hc) (fun b o hc e=>u.there b o e hc) u.tups u.frzs u.tbls (fun m' hm=>by
  obtain⟨o',es',ep',ho',r'⟩:=hm
  rw [ho] at ho';cases ho'
  exact⟨_,es',ep',hL,r'⟩) hok hg
theorem Inv.turned {t':Nat} {it:Addr} (I:Inv X pins σ H s) (k:∀b o,b≠it->s.heap.get? b=some o->h'.get? b=some o) (hn:H it=none) (hL:it≠X.env.locals)
  (h1:it∈X.ex∨X.s₀.heap.objs.size<=it) (h2:∀x c,X.env.cells.lookup x=some c->c≠it) (h3:∀p∈X.pn ++ pins,p.1≠it):Inv X pins σ H { s with heap:=h',toks:=t' }:=by
 have nit:∀b u,H b=some u->b≠it:=fun b u e z=>by rw [z,hn] at e;cases e
 refine I.step (g':=s.gens) (d':=s.drawn) (ch:=[it]) (fun b hb=>?_) (fun b o _ _ hc e _=>k b o (fun z=>hc (by simp [z])) e) (fun b o _ _ hc e _=>⟨o.slots,k b o (fun z=>hc (by simp [z])) e⟩) (fun _ _ _ _ n=>n)
  (fun b o hc e=>⟨o,k b o (fun z=>hc (by simp [z])) e⟩) (fun _ _ e=>e) (fun _ _ _ e=>e) (fun b ps e=>⟨#[],by rw [e];simp⟩) (fun m hm=>?_) (fun b u e=>?_) I.bare
 ·have e:b=it:=by simpa using hb
  subst e
  exact⟨h1,hL,h2,h3⟩
 ·obtain⟨o,es,ep,ho,r⟩:=hm
  exact⟨o,es,ep,k _ o (Ne.symm hL) ho,r⟩
 ·refine(I.hok b u e).stay (fun c v hc q=>k c v ?_ q) (fun _ q=>q) fun _ _ q=>q
  rcases hc with z | z
  ·rw [z];exact nit b u e
  ·exact nit c _ z
theorem Inv.tok (I:Inv X pins σ H s) (t:Nat):Inv X pins σ H { s with toks:=t }:=I.un (h':=s.heap) (t':=t) Un.refl I.hok
theorem Inv.kept {t':Nat} (I:Inv X pins σ H s) (k:∀b u,s.heap.get? b=some u->h'.get? b=some u):Inv X pins σ H { s with heap:=h',toks:=t' }:=I.un (Un.kept k) (I.hok.kept k)
theorem Inv.laid {a:Addr} {o:HO} {t':Nat} (I:Inv X pins σ H s) (k:∀b u,s.heap.get? b=some u->h'.get? b=some u) (hp:s.heap.objs.size<=a) (new:fZ X.prog X.w (upd H a o) h' a o):
  Inv X pins σ (upd H a o) { s with heap:=h',toks:=t' }:=I.un (Un.laid k hp (I.hok.fresh hp)) (I.hok.laid k hp new)
theorem Inv.write {x e:Addr} {o:HO} {t':Nat} (I:Inv X pins σ H s) (mu:Xr (H x)) (he:e=x∨H e=some (.own x)) (k:∀b u,b≠e->s.heap.get? b=some u->h'.get? b=some u) (heo:∃u,h'.get? e=some u)
  (new:fZ X.prog X.w (upd H x o) h' x o):Inv X pins σ (upd H x o) { s with heap:=h',toks:=t' }:=I.un (Un.write mu he k heo) (I.hok.write mu he k heo new)
theorem Inv.weak {σ':List (Option V)} (I:Inv X pins σ H s) (hl:σ'.length=σ.length) (w:∀(i:Nat) v,σ'[i]?=some (some v)->σ[i]?=some (some v)):Inv X pins σ' H s:=
 ⟨I.ok,I.os,I.bare,I.base,let ⟨m,hn,hl'⟩:=I.loc;⟨m,hn,fun i x v e1 e2 e3=>hl' i x v e1 (w i v e2) e3⟩,I.cell,I.free,I.freeC,I.pin,I.hok,hl.trans I.len⟩
theorem Inv.pins_of {pins':List (Addr×Obj)} (I:Inv X pins σ H s) (h:∀p∈pins',s.heap.get? p.1=some p.2/\H p.1=none/\p.1≠X.env.locals/\p.1∉X.fs/\∀v,p.2.data≠.cell v):Inv X pins' σ H s:=
 ⟨I.ok,I.os,I.bare,I.base,I.loc,I.cell,I.free,I.freeC,fun p hp=>(List.mem_append.mp hp).elim (fun z=>I.pin p (List.mem_append_left _ z)) (h p),I.hok,I.len⟩
theorem Lr {N:List Str} (hN:N.Nodup) {i j:Nat} {x:Str} (a:N[i]?=some x) (b:N[j]?=some x):i=j:=by
 obtain⟨h1,e1⟩:=List.getElem?_eq_some_iff.mp a
 obtain⟨h2,e2⟩:=List.getElem?_eq_some_iff.mp b
 exact(List.getElem_inj hN).mp (e1.trans e2.symm)
theorem Ag {M:Model} {A:Around} {E:Value->Shared->Prop} {i:Nat} {x:Str} {v:V} {u:Value} {Q:Unit->Shared->Prop} (I:Inv X pins σ H s) (hN:X.N.Nodup) (hi:X.N[i]?=some x) (hx:Loc X.env.scope x) (r:RelV v u)
  (h:∀s',Inv X pins (σ.set i (some v)) H s'->(∃a,Heap.SameBut a s.heap s'.heap/\(a=X.env.locals∨X.env.cells.lookup x=some a))->Q () s') (hf:X.fn x=true∨X.env.scope.names.lookup x=some .local:=by first | exact .inl rfl | exact .inr rfl | assumption):wpAny M A (storeName X.env x u) Q E s:=by
 obtain⟨m,hn,hl⟩:=id I.loc
 have hcls:(X.env.scope.kind == .class || (X.env.scope.kind == .module && X.env.locals != X.env.globals))=false:=by rw [I.ok.kind];rfl
 have hiσ:i <σ.length:=by rw [I.len];exact(List.getElem?_eq_some_iff.mp hi).1
 have cne:=I.cne
 have tracked:∀{a:Addr} {h':Heap},(∃o,s.heap.get? a=some o/\H a=none)->Heap.SameBut a s.heap h'->wK X.prog X.w H h':=fun {a h'} ha hs b ob e=>by
  obtain⟨_,_,hfree⟩:=ha
  refine(I.hok b ob e).stay (fun c w' hc q=>(hs.2 c ?_).trans q) (fun _ q=>q) fun _ _ q=>q
  rintro rfl
  rcases hc with rfl | hc
  ·rw [hfree] at e;cases e
  ·rw [hfree] at hc;cases hc
 rcases hx with hk | hk
 ·refine wpAny_storeName_local hk hn (fun h' hn' hs=>?_) hcls
  obtain⟨oL,_,_,hoL,_⟩:=id hn
  refine h _ ⟨I.ok,I.os,I.bare,⟨fun b o e n hb hx=>?_,fun b o e n hb hx=>?_,I.base.free,fun b o e hx=>?_,I.base.tups,I.base.frzs,I.base.tbls⟩,⟨_,hn',fun j y v' e1 e2 e3=>?_⟩,fun y c e=>?_,I.free,I.freeC,fun p hp=>?_,tracked ⟨oL,hoL,I.free⟩ hs,by simpa using I.len⟩ ⟨_,hs,.inl rfl⟩
  ·exact(hs.2 b (Nat.ne_of_lt (Nat.lt_of_lt_of_le (Heap.lt_size e) I.ok.above))).trans (I.base.keep b o e n hb hx)
  ·obtain⟨sl,e1⟩:=I.base.slot b o e n hb hx
   exact⟨sl,(hs.2 b (Nat.ne_of_lt (Nat.lt_of_lt_of_le (Heap.lt_size e) I.ok.above))).trans e1⟩
  ·obtain⟨o',e1⟩:=I.base.there b o e hx
   exact⟨o',(hs.2 b (Nat.ne_of_lt (Nat.lt_of_lt_of_le (Heap.lt_size e) I.ok.above))).trans e1⟩
  ·by_cases hj:j=i
   ·subst hj
    rw [hi] at e1;cases e1
    rw [List.getElem?_set_self hiσ] at e2
    cases e2
    exact⟨u,r,.inl ⟨hk,by simp⟩⟩
   ·rw [List.getElem?_set_ne (Ne.symm hj)] at e2
    obtain⟨u',r',q⟩:=hl j y v' e1 e2 e3
    refine⟨u',r',?_⟩
    rcases q with ⟨k,e⟩ | ⟨k,c,e,z⟩
    ·refine .inl ⟨k,?_⟩
     have:y≠x:=fun e=>hj (Lr hN e1 (e ▸ hi))
     simp [this,e]
    ·exact .inr ⟨k,c,e,z.sameBut hs (cne y c e)⟩
  ·obtain⟨w',z⟩:=I.cell y c e
   exact⟨w',z.sameBut hs (cne y c e)⟩
  ·obtain⟨e,n,ne,nf,d⟩:=I.pin p hp
   exact⟨(hs.2 p.1 ne).trans e,n,ne,nf,d⟩
 ·have hfn:X.fn x=true:=by
   rcases hf with z | z
   ·exact z
   ·rw [z] at hk;cases hk
  obtain⟨c,hc⟩:=I.ok.has x (.inl hk)
  obtain⟨w',z⟩:=I.cell x c hc
  refine wpAny_storeName_cell I.ok.kind hk hc z (fun h' hc' hs=>?_)
  obtain⟨oc,hoc,hocd⟩:=id z
  refine h { s with heap:=h' } ⟨I.ok,I.os,I.bare,⟨fun b o e n hb hx=>?_,fun b o e n hb hx=>?_,I.base.free,fun b o e hx=>?_,I.base.tups,I.base.frzs,I.base.tbls⟩,⟨m,hn.sameBut hs (Ne.symm (cne x c hc)),fun j y v' e1 e2 e3=>?_⟩,fun y c' e=>?_,I.free,I.freeC,fun p hp=>?_,tracked ⟨oc,hoc,I.freeC x c hc⟩ hs,by simpa using I.len⟩ ⟨c,hs,.inr hc⟩
  ·exact(hs.2 b (Nat.ne_of_lt (Nat.lt_of_lt_of_le (Heap.lt_size e) (I.ok.cab x c hfn hc)))).trans (I.base.keep b o e n hb hx)
  ·obtain⟨sl,e1⟩:=I.base.slot b o e n hb hx
   exact⟨sl,(hs.2 b (Nat.ne_of_lt (Nat.lt_of_lt_of_le (Heap.lt_size e) (I.ok.cab x c hfn hc)))).trans e1⟩
  ·obtain⟨o',e1⟩:=I.base.there b o e hx
   exact⟨o',(hs.2 b (Nat.ne_of_lt (Nat.lt_of_lt_of_le (Heap.lt_size e) (I.ok.cab x c hfn hc)))).trans e1⟩
  ·by_cases hj:j=i
   ·subst hj
    rw [hi] at e1;cases e1
    rw [List.getElem?_set_self hiσ] at e2
    cases e2
    exact⟨u,r,.inr ⟨.inl hk,c,hc,hc'⟩⟩
   ·rw [List.getElem?_set_ne (Ne.symm hj)] at e2
    obtain⟨u',r',q⟩:=hl j y v' e1 e2 e3
    refine⟨u',r',?_⟩
    rcases q with q | ⟨k,c',e,z'⟩
    ·exact .inl q
    ·refine .inr ⟨k,c',e,z'.sameBut hs ?_⟩
     rintro rfl
     exact hj (Lr hN e1 (I.ok.inj _ _ _ e hc ▸ hi))
  ·by_cases hcc:c'=c
   ·subst hcc;exact⟨_,hc'⟩
   ·obtain⟨w2,z2⟩:=I.cell y c' e
    exact⟨w2,z2.sameBut hs hcc⟩
  ·obtain⟨e,n,ne,nf,d⟩:=I.pin p hp
   refine⟨(hs.2 p.1 ?_).trans e,n,ne,nf,d⟩
   intro q
   rw [q,hoc] at e
   have q':oc=p.2:=Option.some.inj e
   exact d w' (by rw [<-q'];exact hocd)
theorem KZ {M:Model} {A:Around} {E:Value->Shared->Prop} {i:Nat} {x:Str} {v:V} {u:Value} {Q:Unit->Shared->Prop} (I:Inv X pins σ H s) (hN:X.N.Nodup) (hi:X.N[i]?=some x) (hx:Loc X.env.scope x) (r:RelV v u)
  (h:∀s',Inv X pins (σ.set i (some v)) H s'->Q () s') (hf:X.fn x=true∨X.env.scope.names.lookup x=some .local:=by first | exact .inl rfl | exact .inr rfl | assumption):wpAny M A (storeName X.env x u) Q E s:=
 Ag I hN hi hx r (fun s' I' _=>h s' I') hf
theorem Inv.call' {s':Shared} {ch:List Addr} (I:Inv X pins σ H s) (ho:s'.os=s.os) (u:Un (frs X.stack) ch H H' s.heap s'.heap) (hok:wK X.prog X.w H' s'.heap) (hg:AllBare s'.gens)
  (hch:∀b∈ch,(b∈X.ex∨X.s₀.heap.objs.size<=b)/\b≠X.env.locals/\(∀x c,X.env.cells.lookup x=some c->c≠b)/\∀p∈X.pn ++ pins,p.1≠b):Inv X pins σ H' s':=by
 obtain⟨h',g',d',t',o'⟩:=s'
 have e:o'=s.os:=ho
 subst e
 exact I.call (g':=g') (t':=t') (d':=d') u hok hg hch
end
noncomputable abbrev XK:=Value->Option Addr->Hp->Prop
noncomputable abbrev St:=List (Option V)
noncomputable abbrev VK:=V->Hp->Prop
noncomputable abbrev TE:=St->Hp->VK->Prop
noncomputable abbrev TT:=St->Hp->(Bool->Hp->Prop)->Prop
noncomputable abbrev TA:=St->Hp->(List V->Hp->Prop)->Prop
structure Ends where
 nx:St->Hp->Prop
 rt:VK
 bk:St->Hp->Prop:=fun _ _=>False
 ct:St->Hp->Prop:=fun _ _=>False
noncomputable abbrev TS:=Ends->St->Hp->Prop
noncomputable def EP (X:Cx) (pins:List (Addr×Obj)) (σ:St) (Q:VK) (u:Value) (s':Shared):Prop:=∃v H',Inv X pins σ H' s'/\RelV v u/\Q v H'
noncomputable def TP (X:Cx) (pins:List (Addr×Obj)) (σ:St) (Q:Bool->Hp->Prop) (b:Bool) (s':Shared):Prop:=∃H',Inv X pins σ H' s'/\Q b H'
noncomputable def AP (X:Cx) (pins:List (Addr×Obj)) (σ:St) (Q:List V->Hp->Prop) (us:List Value) (s':Shared):Prop:=∃vs H',Inv X pins σ H' s'/\Vals vs us/\Q vs H'
noncomputable def SP (X:Cx) (pins:List (Addr×Obj)) (D:Ends) (f:Flow) (s':Shared):Prop:=
 match f with
 | .next=>∃σ' H',Inv X pins σ' H' s'/\D.nx σ' H'
 | .brk=>∃σ' H',Inv X pins σ' H' s'/\D.bk σ' H'
 | .cont=>∃σ' H',Inv X pins σ' H' s'/\D.ct σ' H'
 | .ret u=>∃v σ' H',Inv X pins σ' H' s'/\RelV v u/\D.rt v H'
noncomputable def PE (X:Cx) (e:Expr) (t:TE):Prop:=
 ∀(pins:List (Addr×Obj)) (s:Shared) (σ:St) (H:Hp) (Q:VK),Inv X pins σ H s->t σ H Q->wpAny (model X.prog X.w) X.A (eval e X.env) (EP X pins σ Q) X.xe s
noncomputable def PT (X:Cx) (e:Expr) (t:TT):Prop:=
 ∀(pins:List (Addr×Obj)) (s:Shared) (σ:St) (H:Hp) (Q:Bool->Hp->Prop),Inv X pins σ H s->t σ H Q->wpAny (model X.prog X.w) X.A (isTrue e X.env (eval e X.env)) (TP X pins σ Q) X.xe s
noncomputable def PW (X:Cx) (e:Expr) (t:TT):Prop:=
 ∀(whole:Sem Value) (pins:List (Addr×Obj)) (s:Shared) (σ:St) (H:Hp) (Q:Bool->Hp->Prop),Inv X pins σ H s->t σ H Q->wpAny (model X.prog X.w) X.A (isTrue e X.env whole) (TP X pins σ Q) X.xe s
theorem PW.pt {X:Cx} {e:Expr} {t:TT} (h:PW X e t):PT X e t:=h _
noncomputable def PA (X:Cx) (es:List Expr) (t:TA):Prop:=
 ∀(pos:Pos) (pins:List (Addr×Obj)) (s:Shared) (σ:St) (H:Hp) (Q:List V->Hp->Prop),Inv X pins σ H s->t σ H Q->wpAny (model X.prog X.w) X.A (spliced (backTo pos (starEach es X.env))) (AP X pins σ Q) X.xe s
noncomputable def PS (X:Cx) (st:Stmt) (t:TS):Prop:=
 ∀(pins:List (Addr×Obj)) (s:Shared) (σ:St) (H:Hp) (D:Ends),Inv X pins σ H s->t D σ H->wpAny (model X.prog X.w) X.A (exec st X.env) (SP X pins D) X.xe s
noncomputable def N8 (X:Cx) (st:List Stmt) (t:TS):Prop:=
 ∀(pins:List (Addr×Obj)) (s:Shared) (σ:St) (H:Hp) (D:Ends),Inv X pins σ H s->t D σ H->wpAny (model X.prog X.w) X.A (execs st X.env) (SP X pins D) X.xe s
theorem eX {α:Type} {t:Sem α} {Q Q':α->Shared->Prop} {M:Model} {A:Around} {E:Value->Shared->Prop} {s:Shared} (h:wpAny M A t Q E s) (hQ:∀a s,Q a s->Q' a s):wpAny M A t Q' E s:=wpAny_mono h hQ fun _ _ x=>x
section
variable {X:Cx}
inductive Vj (i:Nat) (σ:St) (H:Hp) (Q:VK):Prop where
 | mk:∀v,σ[i]?=some (some v)->Q v H->Vj i σ H Q
noncomputable def YD (i:Nat):TE:=fun σ H Q=>Vj i σ H Q
noncomputable def tC (v:V):TE:=fun _ H Q=>Q v H
theorem WN {i:Nat} {x:Str} {pos:Pos} (hN:X.N[i]?=some x) (hv:YM X.env.scope x) (hd:(x == ("__debug__" :Str))=false:=by decide) (hcd:(x == ("__classdict__" :Str))=false:=by decide):PE X (.Name x pos) (YD i):=by
 intro pins s σ H Q I h
 obtain⟨v,e,h⟩:=h
 obtain⟨m,hn,hl⟩:=I.loc
 obtain⟨u,r,l⟩:=hl i x v hN e hv
 have fin:EP X pins σ Q u s:=⟨v,H,I,r,h⟩
 rcases l with ⟨hk,hm⟩ | ⟨hk,c,hc,hcell⟩
 ·exact wpAny_Name (wpAny_loadName_local I.ok.kind hk hn hm fin) hd
 ·rcases hk with hk | hk
  ·exact wpAny_Name (wpAny_loadName_cell I.ok.kind hk hc hcell fin) hd
  ·exact wpAny_Name (wpAny_loadName_free I.ok.kind hk hc hcell fin hcd) hd
theorem au {i j pos}:PE X (.Constant (.int i) j pos) (tC (.int i)):=fun _ _ _ H _ I h=>wpAny_Constant_int ⟨.int i,H,I.tok _,⟨_,rfl⟩,h⟩
theorem lH {b j pos}:PE X (.Constant (.bool b) j pos) (tC (.bl b)):=fun _ _ _ H _ I h=>Constant_bool ⟨.bl b,H,I,rfl,h⟩
theorem Ba {j pos}:PE X (.Constant .none j pos) (tC .non):=fun _ _ _ H _ I h=>Constant_none ⟨.non,H,I,rfl,h⟩
theorem bW {x j pos}:PE X (.Constant (.str x) j pos) (tC (.str x)):=fun _ _ _ H _ I h=>Calls.Constant_str ⟨.str x,H,I.tok _,⟨_,rfl⟩,h⟩
noncomputable def Gl (X:Cx) (x:Str):Prop:=X.env.kindOf x=some .globalImplicit
theorem Ij {E:Value->Shared->Prop} {pins:List (Addr×Obj)} {s:Shared} {σ:St} {H:Hp} {x:Str} {u:Value} {pos:Pos} {Q:Value->Shared->Prop} (I:Inv X pins σ H s) (hg:Gl X x) (hm:X.mg x=some u) (h:Q u s)
  (hd:(x == ("__debug__" :Str))=false:=by decide):wpAny (model X.prog X.w) X.A (eval (.Name x pos) X.env) Q E s:=
 Calls.Name_function_global I.ok.kind hg (Calls.loadGlobal_global (by rw [I.ok.glob];exact I.mod.glob.keeps I.bk) hm h) hd
theorem Fx {E:Value->Shared->Prop} {pins:List (Addr×Obj)} {s:Shared} {σ:St} {H:Hp} {x:Str} {u:Value} {pos:Pos} {Q:Value->Shared->Prop} (I:Inv X pins σ H s) (hg:Gl X x) (hm:X.mg x=none) (hv:bootBuiltins x=some u) (h:Q u s)
  (hn:x≠ "__name__" :=by decide) (hd:(x == ("__debug__" :Str))=false:=by decide):wpAny (model X.prog X.w) X.A (eval (.Name x pos) X.env) Q E s:=by
 obtain⟨mb,h1,h2⟩:=I.mod.blt
 exact Calls.Name_function_global I.ok.kind hg (Calls.loadGlobal_builtin (by rw [I.ok.glob];exact I.mod.glob.keeps I.bk) hm (by rw [I.ok.blt];exact h1.keeps I.bk) ((h2 x hn).trans hv) h) hd
theorem Ir {x:Str} {v:V} {u:Value} {pos:Pos} (hg:Gl X x) (hm:X.mg x=some u) (r:RelV v u) (hd:(x == ("__debug__" :Str))=false:=by decide):PE X (.Name x pos) (tC v):=
 fun _ _ _ H _ I h=>Ij I hg hm ⟨v,H,I,r,h⟩ hd
theorem Ul {x:Str} {v:V} {u:Value} {pos:Pos} (hg:Gl X x) (hm:X.mg x=none) (hv:bootBuiltins x=some u) (r:RelV v u) (hn:x≠ "__name__" :=by decide) (hd:(x == ("__debug__" :Str))=false:=by decide):PE X (.Name x pos) (tC v):=
 fun _ _ _ H _ I h=>Fx I hg hm hv ⟨v,H,I,r,h⟩ hn hd
variable {a b:Expr} {ta tb:TE} {pos:Pos}
noncomputable def PC (X:Cx) (op:CmpOp) (a b:Expr) (t:TE):Prop:=
 ∀(pins:List (Addr×Obj)) (s:Shared) (σ:St) (H:Hp) (Q:VK),Inv X pins σ H s->t σ H Q->
  wpAny (model X.prog X.w) X.A (eval a X.env) (fun v s₁=>wpAny (model X.prog X.w) X.A (eval b X.env) (fun u s₂=>wpAny (model X.prog X.w) X.A (compareOp op v u) (EP X pins σ Q) X.xe s₂) X.xe s₁) X.xe s
theorem J7 (b:Expr) {op:CmpOp} (h:op≠.In) (h2:op≠.NotIn):behindInMarks op b=false:=by
 have e1:(op == CmpOp.In)=false:=by cases op <;> first | rfl | exact absurd rfl h
 have e2:(op == CmpOp.NotIn)=false:=by cases op <;> first | rfl | exact absurd rfl h2
 cases b <;> simp [behindInMarks,e1,e2]
noncomputable def ZL (ta:TE):TE:=fun σ H Q=>ta σ H fun x H1=>Q (.bl (decide (x=.non))) H1
noncomputable def Yx (ta:TE):TE:=fun σ H Q=>ta σ H fun x H1=>Q (.bl (!decide (x=.non))) H1
theorem RelV.none_iff {x:V} {v:Value} (r:RelV x v):(v == Value.none)=decide (x=.non):=by
 cases x with
 | non=>cases r;rfl
 | bl _=>cases r;rfl
 | int _=>obtain⟨t,rfl⟩:=r;rfl
 | str _=>obtain⟨t,rfl⟩:=r;rfl
 | byt _=>obtain⟨t,rfl⟩:=r;rfl
 | flt _=>obtain⟨t,rfl⟩:=r;rfl
 | ref _=>cases r;rfl
 | ty _=>cases r;rfl
theorem El {j pos'} (ha:PE X a ta):PC X .Is a (.Constant .none j pos') (ZL ta):=by
 intro pins s σ H Q I h
 refine eX (ha pins s σ H _ I h) fun v s1 hpt=>?_
 obtain⟨x,H1,I1,r1,q1⟩:=hpt
 exact Constant_none (is_none_gen ⟨.bl _,H1,I1,by rw [r1.none_iff];rfl,q1⟩)
theorem IW {j pos'} (ha:PE X a ta):PC X .IsNot a (.Constant .none j pos') (Yx ta):=by
 intro pins s σ H Q I h
 refine eX (ha pins s σ H _ I h) fun v s1 hpt=>?_
 obtain⟨x,H1,I1,r1,q1⟩:=hpt
 exact Constant_none (isnot_none_gen ⟨.bl _,H1,I1,by rw [r1.none_iff];rfl,q1⟩)
inductive ZS (Q:Bool->Hp->Prop) (x:V) (H1:Hp):Prop where
 | mk:∀c,x=.bl c->Q c H1->ZS Q x H1
noncomputable def tB (t:TE):TT:=fun σ H Q=>t σ H fun x H1=>ZS Q x H1
theorem JF {op:CmpOp} {t:TE} (h:PC X op a b t) (h1:behindInMarks op b=false:=by first | exact J7 _ (by decide) (by decide) | rfl):PE X (.Compare a [op] [b] pos) t:=fun pins s σ H Q I hw=>wpAny_Compare1 (h pins s σ H Q I hw) h1
theorem j4 {op:CmpOp} {t:TE} (h:PC X op a b t) (h1:behindInMarks op b=false:=by first | exact J7 _ (by decide) (by decide) | rfl):PT X (.Compare a [op] [b] pos) (tB t):=by
 intro pins s σ H Q I hw
 refine wpAny_isTrue_Compare1 (eX (h pins s σ H _ I hw) fun v s1 h1=>eX h1 fun u s2 h2=>eX h2 fun c s3 hpt=>?_) h1
 obtain⟨x,H1,I1,r1,q1⟩:=hpt
 obtain⟨d,rfl,q⟩:=q1
 cases r1
 exact wpAny_truthy_bool ⟨H1,I1,q⟩
theorem lg {e:Expr} {t:TE} (h:PE X e t) (he:∀whole,isTrue e X.env whole=(do let v <-whole;standAt e.pos;holding [v] (truthy v)):=by intro _;rfl):PT X e (tB t):=by
 intro pins s σ H Q I hw
 refine isTrue_plain (eX (h pins s σ H _ I hw) fun v s1 ⟨x,H1,I1,r1,q1⟩=>?_) (he _)
 obtain⟨d,rfl,q⟩:=q1
 cases r1
 exact wpAny_truthy_bool ⟨H1,I1,q⟩
variable {tA tB':TT} {rest:List Expr}
noncomputable def ZC (t u:TT):TT:=fun σ H Q=>t σ H fun c H1=>if c=true then u σ H1 Q else Q false H1
noncomputable def tOr (t u:TT):TT:=fun σ H Q=>t σ H fun c H1=>if c=true then Q true H1 else u σ H1 Q
noncomputable def ZP (t:TT):TT:=fun σ H Q=>t σ H fun c H1=>Q (!c) H1
theorem Cw (ha:PT X a tA):PW X (.BoolOp .And [a] pos) tA:=by
 intro wh pins s σ H Q I h
 refine isTrue_and (eX (ha pins s σ H Q I h) fun c s1 e=>?_)
 cases c with
 | true=>exact isTrue_and_nil e
 | false=>exact e
theorem qm (ha:PT X a tA):PW X (.BoolOp .Or [a] pos) tA:=by
 intro wh pins s σ H Q I h
 refine isTrue_or (eX (ha pins s σ H Q I h) fun c s1 e=>?_)
 cases c with
 | false=>exact isTrue_or_nil e
 | true=>exact e
theorem DN (ha:PT X a tA) (hb:PW X (.BoolOp .And (b:: rest) pos) tB'):PW X (.BoolOp .And (a:: b:: rest) pos) (ZC tA tB'):=by
 intro wh pins s σ H Q I h
 refine isTrue_and (eX (ha pins s σ H _ I h) fun c s1 hpt=>?_)
 obtain⟨H1,I1,q1⟩:=hpt
 cases c with
 | true=>exact hb wh pins s1 σ H1 Q I1 q1
 | false=>exact⟨H1,I1,q1⟩
theorem wB (ha:PT X a tA) (hb:PW X (.BoolOp .Or (b:: rest) pos) tB'):PW X (.BoolOp .Or (a:: b:: rest) pos) (tOr tA tB'):=by
 intro wh pins s σ H Q I h
 refine isTrue_or (eX (ha pins s σ H _ I h) fun c s1 hpt=>?_)
 obtain⟨H1,I1,q1⟩:=hpt
 cases c with
 | true=>exact⟨H1,I1,q1⟩
 | false=>exact hb wh pins s1 σ H1 Q I1 q1
theorem lV (ha:PT X a tA):PT X (.UnaryOp .Not a pos) (ZP tA):=by
 intro pins s σ H Q I h
 exact isTrue_not (ha pins s σ H (fun c H1=>Q (!c) H1) I h)
inductive R4 (tb:TE) (σ:St) (Q:VK) (x:V) (H1:Hp):Prop where
 | mk:∀c,x=.bl c->(if c=true then tb σ H1 Q else Q (.bl false) H1)->R4 tb σ Q x H1
noncomputable def YB (ta tb:TE):TE:=fun σ H Q=>ta σ H fun x H1=>R4 tb σ Q x H1
inductive VM (tb:TE) (σ:St) (Q:VK) (x:V) (H1:Hp):Prop where
 | mk:∀c,x=.bl c->(if c=true then Q (.bl true) H1 else tb σ H1 Q)->VM tb σ Q x H1
noncomputable def ZM (ta tb:TE):TE:=fun σ H Q=>ta σ H fun x H1=>VM tb σ Q x H1
inductive Q9 (Q:VK) (x:V) (H1:Hp):Prop where
 | mk:∀c,x=.bl c->Q (.bl (!c)) H1->Q9 Q x H1
noncomputable def Yw (ta:TE):TE:=fun σ H Q=>ta σ H fun x H1=>Q9 Q x H1
theorem yd {op} {t:TE} (h:PE X a t):PE X (.BoolOp op [a] pos) t:=fun pins s σ H Q I hw=>BoolOp_one (h pins s σ H Q I hw)
theorem yq (ha:PE X a ta) (hb:PE X (.BoolOp .And (b:: rest) pos) tb):PE X (.BoolOp .And (a:: b:: rest) pos) (YB ta tb):=by
 intro pins s σ H Q I h
 refine BoolOp_and (eX (ha pins s σ H _ I h) fun v s1 hpt=>?_)
 obtain⟨x,H1,I1,r1,q1⟩:=hpt
 obtain⟨c,rfl,q1⟩:=q1
 cases r1
 refine wpAny_truthy_bool ?_
 cases c with
 | true=>exact hb pins s1 σ H1 Q I1 q1
 | false=>exact⟨.bl false,H1,I1,rfl,q1⟩
theorem X8 (ha:PE X a ta) (hb:PE X (.BoolOp .Or (b:: rest) pos) tb):PE X (.BoolOp .Or (a:: b:: rest) pos) (ZM ta tb):=by
 intro pins s σ H Q I h
 refine BoolOp_or (eX (ha pins s σ H _ I h) fun v s1 hpt=>?_)
 obtain⟨x,H1,I1,r1,q1⟩:=hpt
 obtain⟨c,rfl,q1⟩:=q1
 cases r1
 refine wpAny_truthy_bool ?_
 cases c with
 | false=>exact hb pins s1 σ H1 Q I1 q1
 | true=>exact⟨.bl true,H1,I1,rfl,q1⟩
theorem Wa (ha:PE X a ta):PE X (.UnaryOp .Not a pos) (Yw ta):=by
 intro pins s σ H Q I h
 refine UnaryOp_ (eX (ha pins s σ H _ I h) fun v s1 hpt=>?_)
 obtain⟨x,H1,I1,r1,q1⟩:=hpt
 obtain⟨c,rfl,q1⟩:=q1
 cases r1
 exact not_of (wpAny_truthy_bool ⟨.bl (!c),H1,I1,rfl,q1⟩)
noncomputable def tIf (t:TT) (ta tb:TE):TE:=fun σ H Q=>t σ H fun c H1=>if c=true then ta σ H1 Q else tb σ H1 Q
theorem vp {c:Expr} (hc:PT X c tA) (ha:PE X a ta) (hb:PE X b tb):PE X (.IfExp c a b pos) (tIf tA ta tb):=by
 intro pins s σ H Q I h
 refine wpAny_IfExp (eX (hc pins s σ H _ I h) fun d s1 hpt=>?_)
 obtain⟨H1,I1,q1⟩:=hpt
 cases d with
 | true=>exact ha pins s1 σ H1 Q I1 q1
 | false=>exact hb pins s1 σ H1 Q I1 q1
end
noncomputable def bK (K:PySem.W.Frag) (H:Hp) (a:Addr) (xs:List V):Prop:=
 Rd H a (.lst xs)∨
  ∃(o:Obj) (its:Array Value) (n:Nat),K.lookup a=some o/\o.cls=.type "list" /\o.dict=none/\o.data=.seq its n/\its.size<=sizeLine/\Vals xs its.toList
noncomputable def fC (K:PySem.W.Frag) (H:Hp) (a:Addr) (xs:List V):Prop:=
 Rd H a (.tup xs)∨
  ∃(o:Obj) (its:Array Value) (n:Nat),K.lookup a=some o/\o.cls=.type "tuple" /\o.data=.seq its n/\its.size<=sizeLine/\Vals xs its.toList
noncomputable def ZF:Value->Option V
 | .none=>some .non
 | .bool b=>some (.bl b)
 | .int i _=>some (.int i)
 | .str x _=>some (.str x)
 | .bytes b _=>some (.byt b)
 | .float b _=>some (.flt b)
 | .ref a=>some (.ref a)
 | .type n=>some (.ty n)
 | _=>none
theorem RelV.abs {x:V} {u:Value} (r:RelV x u):ZF u=some x:=by
 cases x with
 | non=>cases r;rfl
 | bl _=>cases r;rfl
 | int _=>obtain⟨t,rfl⟩:=r;rfl
 | str _=>obtain⟨t,rfl⟩:=r;rfl
 | byt _=>obtain⟨t,rfl⟩:=r;rfl
 | flt _=>obtain⟨t,rfl⟩:=r;rfl
 | ref _=>cases r;rfl
 | ty _=>cases r;rfl
theorem RelV.inj {x y:V} {u:Value} (r:RelV x u) (q:RelV y u):x=y:=Option.some.inj (r.abs.symm.trans q.abs)
theorem Vals.inj:∀{xs ys:List V} {us:List Value},Vals xs us->Vals ys us->xs=ys
 | _,_,_,.nil,.nil=>rfl
 | _,_,_,.cons r t,.cons r' t'=>by rw [r.inj r',Vals.inj t t']
section
variable {X:Cx} {pins:List (Addr×Obj)} {σ:St} {H:Hp} {s:Shared} {a:Addr} {xs ys:List V}
theorem bK.of {K:PySem.W.Frag} (h:H a=some (.lst xs)):bK K H a xs:=.inl (.inl h)
theorem fC.of {K:PySem.W.Frag} (h:H a=some (.tup xs)):fC K H a xs:=.inl (.inl h)
theorem Inv.list (I:Inv X pins σ H s) (h:bK X.K H a xs):∃its:List Value,Vals xs its/\PlainL s.heap a its.toArray/\xs.length<=sizeLine:=by
 rcases h with h | ⟨o,its,n,hk,hc,hd,hs,hz,r⟩
 ·obtain⟨z,its,n,r,e⟩:=h.ok I.hok
  exact⟨its,r,⟨_,n,e,rfl,rfl,rfl⟩,z⟩
 ·refine⟨its.toList,r,⟨o,n,I.kIn a o hk,hc,hd,by simpa using hs⟩,?_⟩
  have e:=r.length
  simp only [Array.length_toList] at e
  omega
theorem Inv.tuple (I:Inv X pins σ H s) (h:fC X.K H a xs):∃its:List Value,Vals xs its/\IsTup s.heap a its.toArray/\xs.length<=sizeLine:=by
 rcases h with h | ⟨o,its,n,hk,hc,hs,hz,r⟩
 ·obtain⟨z,its,r,p⟩:=h.ok I.hok
  exact⟨its,r,p,z⟩
 ·refine⟨its.toList,r,⟨o,I.kIn a o hk,hc,n,by simpa using hs⟩,?_⟩
  have e:=r.length
  simp only [Array.length_toList] at e
  omega
theorem Inv.list_inj (I:Inv X pins σ H s) (h:bK X.K H a xs) (h':bK X.K H a ys):xs=ys:=by
 obtain⟨its,r,⟨o,n,e,_,_,d⟩,_⟩:=I.list h
 obtain⟨its',r',⟨o',n',e',_,_,d'⟩,_⟩:=I.list h'
 rw [e] at e';cases e'
 rw [d] at d'
 injection d' with d1 _
 have:its=its':=by simpa using congrArg Array.toList d1
 subst this
 exact r.inj r'
theorem Inv.tuple_inj (I:Inv X pins σ H s) (h:fC X.K H a xs) (h':fC X.K H a ys):xs=ys:=by
 obtain⟨its,r,⟨o,e,_,n,d⟩,_⟩:=I.tuple h
 obtain⟨its',r',⟨o',e',_,n',d'⟩,_⟩:=I.tuple h'
 rw [e] at e';cases e'
 rw [d] at d'
 injection d' with d1 _
 have:its=its':=by simpa using congrArg Array.toList d1
 subst this
 exact r.inj r'
end
noncomputable abbrev Cx.wish (X:Cx) (E:Value->Shared->Prop):Cx:={ X with xe:=E }
noncomputable abbrev Cx.nox (X:Cx):Cx:=X.wish fun _ _=>False
theorem Cx.Ok.wish {X:Cx} (ok:X.Ok) (E:Value->Shared->Prop):(X.wish E).Ok:=
 ⟨ok.mod,ok.kind,ok.glob,ok.blt,ok.above,ok.inj,ok.has,ok.cab,ok.hd,ok.frames,ok.stk,ok.exf,ok.bs,ok.bsz,ok.noex,ok.exfs,ok.funs,ok.frf⟩
theorem Cx.Ok.unwish {X:Cx} {E:Value->Shared->Prop} (ok:(X.wish E).Ok):X.Ok:=
 ⟨ok.mod,ok.kind,ok.glob,ok.blt,ok.above,ok.inj,ok.has,ok.cab,ok.hd,ok.frames,ok.stk,ok.exf,ok.bs,ok.bsz,ok.noex,ok.exfs,ok.funs,ok.frf⟩
section
variable {X:Cx} {pins:List (Addr×Obj)} {σ:St} {H:Hp} {s:Shared} {E:Value->Shared->Prop}
theorem Inv.wish (I:Inv X pins σ H s) (E:Value->Shared->Prop):Inv (X.wish E) pins σ H s:=⟨I.ok.wish E,I.os,I.bare,I.base,I.loc,I.cell,I.free,I.freeC,I.pin,I.hok,I.len⟩
theorem Inv.unwish (I:Inv (X.wish E) pins σ H s):Inv X pins σ H s:=⟨I.ok.unwish,I.os,I.bare,I.base,I.loc,I.cell,I.free,I.freeC,I.pin,I.hok,I.len⟩
theorem SP.unwish {D:Ends} {f:Flow} {s':Shared} (h:SP (X.wish E) pins D f s'):SP X pins D f s':=by
 cases f with
 | next=>obtain⟨σ',H',I,q⟩:=h;exact⟨σ',H',I.unwish,q⟩
 | brk=>obtain⟨σ',H',I,q⟩:=h;exact⟨σ',H',I.unwish,q⟩
 | cont=>obtain⟨σ',H',I,q⟩:=h;exact⟨σ',H',I.unwish,q⟩
 | ret u=>obtain⟨v,σ',H',I,r,q⟩:=h;exact⟨v,σ',H',I.unwish,r,q⟩
theorem N8.nox {st:List Stmt} {t:TS} (h:N8 X.nox st t):N8 X st t:=fun pins s σ H D I hw=>
 wpAny_mono (h pins s σ H D (I.wish _) hw) (fun _ _ q=>q.unwish) fun _ _ z=>False.elim z
end
section
variable {X:Cx} {st:Stmt} {rest:List Stmt} {t u:TS} {e:Expr} {te:TE} {pos:Pos}
noncomputable def Ye:TS:=fun D σ H=>D.nx σ H
noncomputable def zr (t u:TS):TS:=fun D σ H=>t { D with nx:=u D } σ H
theorem bL:N8 X [] Ye:=fun _ _ σ H _ I h=>wpAny_execs_nil ⟨σ,H,I,h⟩
theorem az (h1:PS X st t) (h2:N8 X rest u):N8 X (st:: rest) (zr t u):=by
 intro pins s σ H D I h
 refine wpAny_execs_cons (eX (h1 pins s σ H { D with nx:=u D } I h) fun f s1 q=>?_)
 cases f with
 | next=>
  obtain⟨σ',H',I',q⟩:=q
  exact h2 pins s1 σ' H' D I' q
 | ret v=>exact q
 | brk=>exact q
 | cont=>exact q
theorem aA (h1:PS X st t):N8 X [st] t:=by
 intro pins s σ H D I h
 refine wpAny_execs_cons (eX (h1 pins s σ H D I h) fun f s1 q=>?_)
 cases f with
 | next=>exact wpAny_execs_nil q
 | ret v=>exact q
 | brk=>exact q
 | cont=>exact q
theorem Inv.quiet {pins:List (Addr×Obj)} {σ:St} {H:Hp} {s:Shared} (I:Inv X pins σ H s):interactive X.env=false:=by simp [interactive,I.ok.kind]
noncomputable def X5 (te:TE):TS:=fun D σ H=>te σ H fun _ H1=>D.nx σ H1
theorem bN (he:PE X e te) (hs:swapsWith e none pos.line X.env=pure false:=by rfl):PS X (.Expr e pos) (X5 te):=by
 intro pins s σ H D I h
 exact wpAny_Expr_any (eX (he pins s σ H _ I h) fun v s1 ⟨x,H1,I1,r1,q1⟩=>⟨σ,H1,I1,q1⟩) I.quiet hs
noncomputable def Zt (te:TE):TS:=fun D σ H=>te σ H D.rt
theorem aN (he:PE X e te):PS X (.Return (some e) pos) (Zt te):=by
 intro pins s σ H D I h
 exact wpAny_Return_some (eX (he pins s σ H _ I h) fun v s1 ⟨x,H1,I1,r1,q1⟩=>⟨x,σ,H1,I1,r1,q1⟩)
noncomputable def ZK (c:TT) (t u:TS):TS:=fun D σ H=>c σ H fun b H1=>if b=true then t D σ H1 else u D σ H1
theorem cC {c:Expr} {a b:List Stmt} {tc:TT} (hc:PT X c tc) (ha:N8 X a t) (hb:N8 X b u):PS X (.If c a b pos) (ZK tc t u):=by
 intro pins s σ H D I h
 refine wpAny_If (eX (hc pins s σ H _ I h) fun d s1 hpt=>?_)
 obtain⟨H1,I1,q1⟩:=hpt
 cases d with
 | true=>exact ha pins s1 σ H1 D I1 q1
 | false=>exact hb pins s1 σ H1 D I1 q1
noncomputable def Wb:TS:=fun _ _ _=>False
theorem eY:PS X st Wb:=fun _ _ _ _ _ _ h=>h.elim
end
noncomputable abbrev TG:=V->St->Hp->(St->Hp->Prop)->Prop
noncomputable abbrev Tf:=List V->St->Hp->(St->Hp->Prop)->Prop
noncomputable def PG (X:Cx) (target:Expr) (t:TG):Prop:=
 ∀(pins:List (Addr×Obj)) (s:Shared) (σ:St) (H:Hp) (v:V) (u:Value) (Q:St->Hp->Prop),Inv X pins σ H s->RelV v u->t v σ H Q->
  wpAny (model X.prog X.w) X.A (assign target X.env u) (fun _ s'=>∃σ' H',Inv X pins σ' H' s'/\Q σ' H') X.xe s
noncomputable def Yd (X:Cx) (ts:List Expr) (t:Tf):Prop:=
 ∀(pins:List (Addr×Obj)) (s:Shared) (σ:St) (H:Hp) (vs:List V) (us:List Value) (Q:St->Hp->Prop),Inv X pins σ H s->Vals vs us->t vs σ H Q->
  wpAny (model X.prog X.w) X.A (assignInOrder ((assignEach ts X.env).map (·.2)) us) (fun _ s'=>∃σ' H',Inv X pins σ' H' s'/\Q σ' H') X.xe s
section
variable {X:Cx} {pos:Pos}
noncomputable def zq (i:Nat):TG:=fun v σ H Q=>Q (σ.set i (some v)) H
theorem jF {i:Nat} {x:Str} (hN:X.N.Nodup) (hi:X.N[i]?=some x) (hx:Loc X.env.scope x) (hf:X.fn x=true∨X.env.scope.names.lookup x=some .local:=by first | exact .inl rfl | exact .inr rfl | assumption):PG X (.Name x pos) (zq i):=by
 intro pins s σ H v u Q I r h
 exact wpAny_assign_Name (KZ I hN hi hx r (fun s' I'=>⟨_,H,I',h⟩) hf)
noncomputable def Za:Tf:=fun vs σ H Q=>vs=[]/\Q σ H
inductive Rj (t:TG) (u:Tf) (vs:List V) (σ:St) (H:Hp) (Q:St->Hp->Prop):Prop where
 | mk:∀v r,vs=v:: r->(t v σ H fun σ' H'=>u r σ' H' Q)->Rj t u vs σ H Q
noncomputable def Xv (t:TG) (u:Tf):Tf:=fun vs σ H Q=>Rj t u vs σ H Q
theorem jH:Yd X [] Za:=by
 intro pins s σ H vs us Q I r h
 obtain⟨e,h⟩:=h
 subst e
 cases r
 exact assignInOrder_nil ⟨σ,H,I,h⟩
theorem bU {e:Expr} {es:List Expr} {t:TG} {u:Tf} (h1:PG X e t) (h2:Yd X es u)
  (hs:(assignEach (e:: es) X.env).map (·.2)=assign e X.env:: (assignEach es X.env).map (·.2):=by rfl):Yd X (e:: es) (Xv t u):=by
 intro pins s σ H vs us Q I r h
 obtain⟨v,vr,e1,h⟩:=h
 subst e1
 cases r with
 | cons r rr=>
  rw [hs]
  refine assignInOrder_cons (eX (h1 pins s σ H _ _ _ I r h) fun _ s1 hpt=>?_)
  obtain⟨σ1,H1,I1,q1⟩:=hpt
  exact h2 pins s1 σ1 H1 _ _ Q I1 rr q1
inductive Vx (K:PySem.W.Frag) (n:Nat) (t:Tf) (v:V) (σ:St) (H:Hp) (Q:St->Hp->Prop):Prop where
 | mk:∀a xs,v=.ref a->fC K H a xs->xs.length=n->t xs σ H Q->Vx K n t v σ H Q
noncomputable def Yb (K:PySem.W.Frag) (n:Nat) (t:Tf):TG:=fun v σ H Q=>Vx K n t v σ H Q
theorem tE {es:List Expr} {k:Nat} {t:Tf} {n:Nat} (hc:X.calm=true) (h:Yd X es t)
  (hn:(assignEach es X.env).length=n:=by rfl) (hst:(assignEach es X.env).findIdx? (·.1)=none:=by rfl):PG X (.Tuple es k pos) (Yb X.K n t):=by
 intro pins s σ H v u Q I r hw
 obtain⟨a,xs,e1,hq,hl,hw⟩:=hw
 subst e1
 cases r
 obtain⟨its,rv,ht,hz⟩:=I.tuple hq
 refine assign_Tuple_tuple (I.ok.hd hc) ht (by simp [hn,<-hl,rv.length]) hst fun h' hx=>?_
 have I1:Inv X pins σ H { s with heap:=h' }:=I.kept (t':=s.toks) fun b o e=>hx b o (Nat.ne_of_lt (Heap.lt_size e)) e
 exact h pins _ σ H xs _ Q I1 (by simpa using rv) hw
noncomputable def QG (te:TE) (g:TG):TS:=fun D σ H=>te σ H fun x H1=>g x σ H1 D.nx
theorem Wy {tg e:Expr} {te:TE} {g:TG} (he:PE X e te) (hg:PG X tg g) (hs:swapsWithSole [tg] e pos.line X.env=pure false:=by rfl) (hw:swappedStores [tg] e X.env=pure none:=by rfl)
  (h1:(assignEach [tg] X.env).map (·.2)=[assign tg X.env]:=by rfl):PS X (.Assign [tg] e pos) (QG te g):=by
 intro pins s σ H D I h
 refine wpAny_Assign_stores (eX (he pins s σ H _ I h) fun v s1 hpt=>?_) hs hw
 obtain⟨x,H1,I1,r1,q1⟩:=hpt
 rw [h1]
 exact eX (hg pins s1 σ H1 x v _ I1 r1 q1) fun _ s2 q=>q
theorem Wq {i:Nat} {x:Str} {e:Expr} {te:TE} {pos':Pos} (hN:X.N.Nodup) (hi:X.N[i]?=some x) (hx:Loc X.env.scope x) (he:PE X e te) (hs:swapsWith e (some (.Name x pos')) pos.line X.env=pure false:=by rfl) (hf:X.fn x=true∨X.env.scope.names.lookup x=some .local:=by first | exact .inl rfl | exact .inr rfl | assumption):
  PS X (.Assign [.Name x pos'] e pos) (QG te (zq i)):=by
 intro pins s σ H D I h
 refine wpAny_Assign_Name (eX (he pins s σ H _ I h) fun v s1 hpt=>?_) hs
 obtain⟨y,H1,I1,r1,q1⟩:=hpt
 exact KZ I1 hN hi hx r1 (fun s2 I2=>⟨_,H1,I2,q1⟩) hf
end
section
variable {X:Cx} {pos:Pos}
inductive Nv (c:TT) (tb:TS) (D:Ends) (σ:St) (H:Hp):Prop where
 | mk:∀W:Nat->St->Hp->Prop,((∃m,W m σ H))->(∀m σ H,W m σ H->
 c σ H fun b H1=>if b=true then ∃N:St->Hp->Prop,(∀σ' H',N σ' H'->∃m',m' <m/\W m' σ' H')/\tb { D with nx:=N,ct:=N,bk:=D.nx } σ H1 else D.nx σ H1)->Nv c tb D σ H
noncomputable def Qs (c:TT) (tb:TS):TS:=fun D σ H=>Nv c tb D σ H
theorem Kz {c:Expr} {body:List Stmt} {tc:TT} {tb:TS} (hp:PassesOwn (model X.prog X.w) X.A X.env X.xe) (hc:PT X c tc) (hb:N8 X body tb):PS X (.While c body [] pos) (Qs tc tb):=by
 intro pins s σ H D I h
 obtain⟨W,⟨m0,w0⟩,turn⟩:=h
 refine wpAny_While (codeAny_whileLoop (fun n s'=>∃σ' H',Inv X pins σ' H' s'/\W n σ' H') ?_ m0 ⟨σ,H,I,w0⟩)
 rintro n s1 ⟨σ1,H1,I1,w1⟩
 refine wpAny_passesOwn hp (eX (hc pins s1 σ1 H1 _ I1 (turn n σ1 H1 w1)) fun b s2 hpt=>?_)
 obtain⟨H2,I2,q2⟩:=hpt
 cases b with
 | true=>
  obtain⟨N,hN,q2⟩:=q2
  rw [if_pos rfl]
  refine wpAny_passesOwn hp (eX (hb pins s2 σ1 H2 _ I2 q2) fun f s3 q3=>?_)
  cases f with
  | next=>
   obtain⟨σ3,H3,I3,n3⟩:=q3
   obtain⟨m',hm,w3⟩:=hN σ3 H3 n3
   exact⟨m',hm,σ3,H3,I3,w3⟩
  | cont=>
   obtain⟨σ3,H3,I3,n3⟩:=q3
   obtain⟨m',hm,w3⟩:=hN σ3 H3 n3
   exact⟨m',hm,σ3,H3,I3,w3⟩
  | brk=>exact q3
  | ret v=>exact q3
 | false=>
  rw [if_neg Bool.false_ne_true]
  exact wpAny_execs_nil ⟨σ1,H2,I2,q2⟩
end
structure It where
 go:Nat->Hp->Prop
 yld:Nat->Hp->V->Hp->Prop
 stop:Nat->Hp->Prop
noncomputable def JK (X:Cx) (pins:List (Addr×Obj)) (H:Hp) (b:Addr):Prop:=
 H b=none/\b≠X.env.locals/\b∉X.fs/\(b∈X.ex∨X.s₀.heap.objs.size<=b)/\(∀x c,X.env.cells.lookup x=some c->c≠b)/\∀p∈X.pn ++ pins,p.1≠b
theorem Inv.fpOk {X:Cx} {pins:List (Addr×Obj)} {σ:St} {H H':Hp} {s:Shared} {b:Addr} (I:Inv X pins σ H s) (hb:s.heap.objs.size<=b) (hn:H' b=none):JK X pins H' b:=by
 refine⟨hn,Nat.ne_of_gt (Nat.lt_of_lt_of_le I.lt hb),I.nofs hb,.inr (Nat.le_trans I.sz hb),fun x c e z=>?_,fun p hp z=>?_⟩
 ·obtain⟨v,q⟩:=I.cell x c e
  exact absurd (Nat.lt_of_lt_of_le q.lt (by rw [z];exact hb)) (Nat.lt_irrefl _)
 ·exact absurd (Nat.lt_of_lt_of_le (Heap.lt_size (I.pin p hp).1) (by rw [z];exact hb)) (Nat.lt_irrefl _)
structure Turn (P:Program) (w:World) (K:PySem.W.Frag) (tg:Expr) (J:It) (fp:List Addr) (it:Addr) (tn:Nat->Heap->Prop):Prop where
 mem:it∈fp
 obj:∀i h,tn i h->∀b∈fp,∃o,h.get? b=some o/\∀v,o.data≠.cell v
 keep:∀i h h',tn i h->(∀b∈fp,∀o,h.get? b=some o->h'.get? b=some o)->tn i h'
 item:∀(X:Cx),X.prog=P->X.w=w->X.K=K->X.calm=true->∀(i:Nat) (pins:List (Addr×Obj)) (s:Shared) (σ:St) (H:Hp) (E:Value->Shared->Prop),Inv X pins σ H s->(∀b∈fp,JK X pins H b)->tn i s.heap->J.go i H->
  wpAny (model P w) X.A (pyNext (.ref it)) (fun r s1=>∃u,r=some u/\
   wpAny (model P w) X.A (letOwnedTupleGo tg (.ref it) u) (fun _ s2=>∃x H',Inv X pins σ H' s2/\RelV x u/\J.yld i H x H'/\tn (i+1) s2.heap/\∀b∈fp,H' b=none) E s1) E s
 done:∀(X:Cx),X.prog=P->X.w=w->X.K=K->X.calm=true->∀(i:Nat) (pins:List (Addr×Obj)) (s:Shared) (σ:St) (H:Hp) (E:Value->Shared->Prop),Inv X pins σ H s->(∀b∈fp,JK X pins H b)->tn i s.heap->J.stop i H->
  wpAny (model P w) X.A (pyNext (.ref it)) (fun r s1=>r=none/\Inv X pins σ H s1) E s
 self:∀(A:Around) (i:Nat) (s:Shared) (Q:Value->Shared->Prop) (E:Value->Shared->Prop),tn i s.heap->Q (.ref it) s->wpAny (model P w) A (pyIter (.ref it)) Q E s
noncomputable abbrev TI:=St->Hp->(It->Hp->Prop)->Prop
noncomputable def PIE (X:Cx) (pins:List (Addr×Obj)) (σ:St) (tg:Expr) (R:It->Hp->Prop) (itv:Value) (s2:Shared):Prop:=
 ∃(it:Addr) (fp:List Addr) (tn:Nat->Heap->Prop) (J:It) (H':Hp),itv=.ref it/\Inv X pins σ H' s2/\Turn X.prog X.w X.K tg J fp it tn/\tn 0 s2.heap/\(∀b∈fp,JK X pins H' b)/\R J H'
noncomputable def PI (X:Cx) (tg iter:Expr) (wi:TI):Prop:=
 ∀(pins:List (Addr×Obj)) (s:Shared) (σ:St) (H:Hp) (R:It->Hp->Prop),Inv X pins σ H s->wi σ H R->
  wpAny (model X.prog X.w) X.A (eval iter X.env) (fun v s1=>wpAny (model X.prog X.w) X.A (pyIter v) (PIE X pins σ tg R) X.xe s1) X.xe s
theorem Ks {M:Model} {A:Around} {E:Value->Shared->Prop} {s:Shared} {tg:Expr} {it:Addr} {u:Value} {o:Obj} {n:String} {vs:Array Value} {Q:Unit->Shared->Prop} (ho:s.heap.get? it=some o) (hc:o.cls=.type n) (hd:o.data=.fields vs)
  (hn:["enumerate", "zip", "dict_itemiterator", "dict_reverseitemiterator", "odict_iterator", "itertools.zip_longest", "itertools.pairwise"].contains n=false) (hQ:Q () s):wpAny M A (letOwnedTupleGo tg (.ref it) u) Q E s:=by
 unfold letOwnedTupleGo
 cases tg <;> first
  | exact wpAny_pure hQ
  | (cases u <;> first
    | exact wpAny_pure hQ
    | (refine wpAny_bind (wpAny_load ho ?_)
       rw [hc,hd]
       show wpAny M A (if (["enumerate", "zip", "dict_itemiterator", "dict_reverseitemiterator", "odict_iterator", "itertools.zip_longest", "itertools.pairwise"].contains n && vs[0]? == some (rawInt _))=true then _ else _) Q E s
       rw [if_neg (by intro h;rw [hn,Bool.false_and] at h;cases h)]
       exact wpAny_pure hQ))
noncomputable def Wr (K:PySem.W.Frag) (a:Addr):It:=
 ⟨fun i H=>∃xs x,bK K H a xs/\xs[i]?=some x,fun i H x H'=>H'=H/\∀xs,bK K H a xs->xs[i]?=some x,fun i H=>∃xs,bK K H a xs/\xs.length<=i⟩
noncomputable def Xe (K:PySem.W.Frag) (a:Addr):It:=
 ⟨fun i H=>∃xs x,fC K H a xs/\xs[i]?=some x,fun i H x H'=>H'=H/\∀xs,fC K H a xs->xs[i]?=some x,fun i H=>∃xs,fC K H a xs/\xs.length<=i⟩
noncomputable def Wi (lo:Int) (n:Nat):It:=⟨fun i _=>i <n,fun i H x H'=>H'=H/\x=.int (lo+i),fun i _=>n<=i⟩
theorem PK {P:Program} {w:World} {K:PySem.W.Frag} {tg:Expr} (a it:Addr):Turn P w K tg (Wr K a) [it] it (fun i h=>h.IsListIter it a i) where
 mem:=by simp
 obj:=fun i h st b hb=>by
  have e:b=it:=by simpa using hb
  subst e
  obtain⟨o,e,c,d⟩:=st
  exact⟨o,e,fun v z=>by rw [d] at z;cases z⟩
 keep:=fun i h h' st k=>st.at fun o e=>k it (by simp) o e
 item:=by
  intro X hP hw hK hc i pins s σ H E I hf st hg
  subst hP hw hK
  obtain⟨xs,x,hq,hx⟩:=hg
  obtain⟨its,rv,p,hz⟩:=I.list hq
  obtain⟨u,hu,ru⟩:=rv.get hx
  obtain⟨f0,f1,f2,f3,f4,f5⟩:=hf it (by simp)
  refine wpAny_pyNext_list_item st p.isList (x:=u) (by simpa using hu) fun h' st' sb=>?_
  have I1:Inv X pins σ H { s with heap:=h' }:=I.turned (t':=s.toks) (fun b o hb e=>(sb.2 b hb).trans e) f0 f1 f3 f4 f5
  obtain⟨o,e,c,d⟩:=id st'
  exact⟨u,rfl,Ks (s:={ s with heap:=h' }) e c d (by decide) ⟨x,H,I1,ru,⟨rfl,fun ys hy=>by rw [I.list_inj hy hq];exact hx⟩,st',fun b hb=>(hf b hb).1⟩⟩
 done:=by
  intro X hP hw hK hc i pins s σ H E I hf st hg
  subst hP hw hK
  obtain⟨xs,hq,hx⟩:=hg
  obtain⟨its,rv,p,hz⟩:=I.list hq
  obtain⟨f0,f1,f2,f3,f4,f5⟩:=hf it (by simp)
  have hl:=rv.length
  exact wpAny_pyNext_list_end (I.ok.hd hc) st p.isList (by simp;omega) fun h' eb=>⟨rfl,I.turned (t':=s.toks) (fun b o hb e=>eb b o hb e) f0 f1 f3 f4 f5⟩
 self:=fun _ _ _ _ _ st h=>wpAny_pyIter_listiter st h
theorem Ma {P:Program} {w:World} {K:PySem.W.Frag} {tg:Expr} (a it:Addr):Turn P w K tg (Xe K a) [it] it (fun i h=>h.IsTupleIter it a i) where
 mem:=by simp
 obj:=fun i h st b hb=>by
  have e:b=it:=by simpa using hb
  subst e
  obtain⟨o,e,c,d⟩:=st
  exact⟨o,e,fun v z=>by rw [d] at z;cases z⟩
 keep:=fun i h h' st k=>st.at fun o e=>k it (by simp) o e
 item:=by
  intro X hP hw hK hc i pins s σ H E I hf st hg
  subst hP hw hK
  obtain⟨xs,x,hq,hx⟩:=hg
  obtain⟨its,rv,p,hz⟩:=I.tuple hq
  obtain⟨u,hu,ru⟩:=rv.get hx
  obtain⟨f0,f1,f2,f3,f4,f5⟩:=hf it (by simp)
  refine wpAny_pyNext_tuple_item st (show s.heap.IsTuple a its.toArray from p) (x:=u) (by simpa using hu) fun h' st' sb=>?_
  have I1:Inv X pins σ H { s with heap:=h' }:=I.turned (t':=s.toks) (fun b o hb e=>(sb.2 b hb).trans e) f0 f1 f3 f4 f5
  obtain⟨o,e,c,d⟩:=id st'
  exact⟨u,rfl,Ks (s:={ s with heap:=h' }) e c d (by decide) ⟨x,H,I1,ru,⟨rfl,fun ys hy=>by rw [I.tuple_inj hy hq];exact hx⟩,st',fun b hb=>(hf b hb).1⟩⟩
 done:=by
  intro X hP hw hK hc i pins s σ H E I hf st hg
  subst hP hw hK
  obtain⟨xs,hq,hx⟩:=hg
  obtain⟨its,rv,p,hz⟩:=I.tuple hq
  obtain⟨f0,f1,f2,f3,f4,f5⟩:=hf it (by simp)
  have hl:=rv.length
  exact wpAny_pyNext_tuple_end (I.ok.hd hc) st (show s.heap.IsTuple a its.toArray from p) (by simp;omega) fun h' eb=>⟨rfl,I.turned (t':=s.toks) (fun b o hb e=>eb b o hb e) f0 f1 f3 f4 f5⟩
 self:=fun _ _ _ _ _ st h=>wpAny_pyIter_tupleiter st h
theorem M4 {P:Program} {w:World} {K:PySem.W.Frag} {tg:Expr} (it:Addr) (lo:Int) (n:Nat):Turn P w K tg (Wi lo n) [it] it (fun i h=>IsRangeIter h it (lo+(i:Nat) * 1) ((n:Int) - (i:Nat)) 1) where
 mem:=by simp
 obj:=fun i h st b hb=>by
  have e:b=it:=by simpa using hb
  subst e
  exact⟨_,st,fun v z=>by
   have z':Data.fields _=Data.cell v:=z
   cases z'⟩
 keep:=fun i h h' st k=>k it (by simp) _ st
 item:=by
  intro X hP hw hK hc i pins s σ H E I hf st hg
  subst hP hw hK
  obtain⟨f0,f1,f2,f3,f4,f5⟩:=hf it (by simp)
  have W:=Walks.range (prog:=X.prog) (w:=X.w) (I.ok.hd hc) it lo 1 n
  refine W.item i s _ _ hg st fun v h' tk hv st' kk=>?_
  obtain⟨t,rfl⟩:=hv
  have I1:Inv X pins σ H { s with heap:=h',toks:=tk }:=I.turned (fun b o hb e=>kk b o (by simpa using hb) e) f0 f1 f3 f4 f5
  refine⟨_,rfl,Ks (s:={ s with heap:=h',toks:=tk }) (n:= "range_iterator") st' rfl rfl (by decide) ⟨.int (lo+i),H,I1,⟨t,?_⟩,⟨rfl,rfl⟩,st',fun b hb=>(hf b hb).1⟩⟩
  rw [Int.mul_one]
 done:=by
  intro X hP hw hK hc i pins s σ H E I hf st hg
  subst hP hw hK
  obtain⟨f0,f1,f2,f3,f4,f5⟩:=hf it (by simp)
  exact wpAny_pyNext_range_end (I.ok.hd hc) st (by have:n<=i:=hg;omega) fun h' eb=>⟨rfl,I.turned (t':=s.toks) (fun b o hb e=>eb b o hb e) f0 f1 f3 f4 f5⟩
 self:=fun _ _ _ _ _ st h=>wpAny_pyIter_rangeiter st h
section
variable {X:Cx} {tg:Expr}
inductive RB (K:PySem.W.Frag) (R:It->Hp->Prop) (x:V) (H1:Hp):Prop where
 | mk:∀a,x=.ref a->((∃xs,bK K H1 a xs))->R (Wr K a) H1->RB K R x H1
noncomputable def VL (K:PySem.W.Frag) (tl:TE):TI:=fun σ H R=>tl σ H fun x H1=>RB K R x H1
inductive Vn (K:PySem.W.Frag) (R:It->Hp->Prop) (x:V) (H1:Hp):Prop where
 | mk:∀a,x=.ref a->((∃xs,fC K H1 a xs))->R (Xe K a) H1->Vn K R x H1
noncomputable def Xo (K:PySem.W.Frag) (tl:TE):TI:=fun σ H R=>tl σ H fun x H1=>Vn K R x H1
theorem b8 {l:Expr} {tl:TE} (hl:PE X l tl):PI X tg l (VL X.K tl):=by
 intro pins s σ H R I h
 refine eX (hl pins s σ H _ I h) fun v s1 hpt=>?_
 obtain⟨x,H1,I1,r1,q1⟩:=hpt
 obtain⟨a,e,⟨xs,hq⟩,q⟩:=q1
 subst e
 cases r1
 obtain⟨its,rv,p,hz⟩:=I1.list hq
 refine wpAny_pyIter_list p.isList ?_
 refine⟨s1.heap.objs.size,[s1.heap.objs.size],_,_,H1,rfl,I1.kept (t':=s1.toks) fun b o e=>Heap.get?_push_of_some _ e,PK a _,⟨_,Heap.get?_push_size _ rfl,rfl,rfl⟩,fun b hb=>?_,q⟩
 have e:b=s1.heap.objs.size:=by simpa using hb
 subst e
 exact I1.fpOk (Nat.le_refl _) (I1.hok.fresh (Nat.le_refl _))
theorem HY {l:Expr} {tl:TE} (hl:PE X l tl):PI X tg l (Xo X.K tl):=by
 intro pins s σ H R I h
 refine eX (hl pins s σ H _ I h) fun v s1 hpt=>?_
 obtain⟨x,H1,I1,r1,q1⟩:=hpt
 obtain⟨a,e,⟨xs,hq⟩,q⟩:=q1
 subst e
 cases r1
 obtain⟨its,rv,p,hz⟩:=I1.tuple hq
 refine wpAny_pyIter_tuple (show s1.heap.IsTuple a its.toArray from p) ?_
 refine⟨s1.heap.objs.size,[s1.heap.objs.size],_,_,H1,rfl,I1.kept (t':=s1.toks) fun b o e=>Heap.get?_push_of_some _ e,Ma a _,⟨_,Heap.get?_push_size _ rfl,rfl,rfl⟩,fun b hb=>?_,q⟩
 have e:b=s1.heap.objs.size:=by simpa using hb
 subst e
 exact I1.fpOk (Nat.le_refl _) (I1.hok.fresh (Nat.le_refl _))
theorem Ss {pins:List (Addr×Obj)} {σ:St} {H:Hp} {s:Shared} {R:It->Hp->Prop} {E:Value->Shared->Prop} {lo hi:Int} {t u v:Tok} {tk:Nat} (I:Inv X pins σ H s) (h1: -(2 ^ 62)<=lo) (h2:lo <2 ^ 62) (h3: -(2 ^ 62)<=hi) (h4:hi <2 ^ 62)
  (q:R (Wi lo (hi - lo).toNat) H):wpAny (model X.prog X.w) X.A (pyIter (.ref s.heap.objs.size)) (PIE X pins σ tg R) E { s with heap:=s.heap.push { cls:=.type "range",data:=.fields #[.int lo t,.int hi u,.int 1 v] },toks:=tk }:=by
 refine wpAny_pyIter_range (IsRange.new ..) (small_one h1 h2 h3 h4) ?_
 have I1:Inv X pins σ H { s with heap:=s.heap.push { cls:=.type "range",data:=.fields #[.int lo t,.int hi u,.int 1 v] },toks:=tk }:=I.kept fun b o e=>Heap.get?_push_of_some _ e
 refine⟨(s.heap.push { cls:=.type "range",data:=.fields #[.int lo t,.int hi u,.int 1 v] }).objs.size,[(s.heap.push { cls:=.type "range",data:=.fields #[.int lo t,.int hi u,.int 1 v] }).objs.size],_,_,H,rfl,
  I1.kept (t':=tk) fun b o e=>Heap.get?_push_of_some _ e,M4 _ lo (hi - lo).toNat,?_,fun b hb=>?_,q⟩
 ·have e1:lo+((0:Nat):Int) * 1=lo:=by simp
  have e2:(((hi - lo).toNat:Nat):Int) - ((0:Nat):Int)=Builtin.Range.rangeSize lo hi 1:=by rw [rangeSize_one];split <;> omega
  show IsRangeIter _ _ (lo+((0:Nat):Int) * 1) ((((hi - lo).toNat:Nat):Int) - ((0:Nat):Int)) 1
  rw [e1,e2]
  exact Heap.get?_push_size _ rfl
 ·have e:b=(s.heap.push { cls:=.type "range",data:=.fields #[.int lo t,.int hi u,.int 1 v] }).objs.size:=by simpa using hb
  subst e
  exact I1.fpOk (Nat.le_refl _) (I1.hok.fresh (Nat.le_refl _))
inductive Sw (R:It->Hp->Prop) (vs:List V) (H1:Hp):Prop where
 | mk:∀j:Int,vs=[.int j]-> -(2 ^ 62)<=j->j <2 ^ 62->R (Wi 0 j.toNat) H1->Sw R vs H1
noncomputable def Yp (ta:TA):TI:=fun σ H R=>ta σ H fun vs H1=>Sw R vs H1
theorem j9 {a:Expr} {ta:TA} {p pos:Pos} (hg:Gl X "range") (hm:X.mg "range" =none) (ha:PA X [a] ta) (hs:starEach [a] X.env=[(false,eval a X.env)]:=by rfl):PI X tg (.Call (.Name "range" p) [a] [] pos) (Yp ta):=by
 intro pins s σ H R I h
 refine Call_ (Fx I hg hm boot_range (PyProof.Rows.callWith_type1 (eX (ha pos pins s σ H _ I h) fun us s1 ⟨vs,H1,I1,r1,q1⟩=>?_) hs rfl))
 obtain⟨j,e,q1,q2,q⟩:=q1
 subst e
 cases r1 with
 | cons r rr=>
  cases rr
  obtain⟨t,rfl⟩:=r
  exact call_range_1 (Ss I1 (by omega) (by omega) q1 q2 (by simpa using q))
noncomputable def Y8 (wi:TI) (g:TG) (tb:TS):TS:=fun D σ H=>wi σ H fun J H1=>∃W:Nat->Nat->St->Hp->Prop,(∃m,W 0 m σ H1)/\∀i m σ H,W i m σ H->
 (J.stop i H/\D.nx σ H)∨(J.go i H/\∃N:St->Hp->Prop,(∀σ' H',N σ' H'->∃m',m' <m/\W (i+1) m' σ' H')/\∀x H',J.yld i H x H'->g x σ H' fun σ2 H2=>tb { D with nx:=N,ct:=N,bk:=D.nx } σ2 H2)
noncomputable def JN (fp:List Addr) (h:Heap):List (Addr×Obj):=fp.filterMap fun b=>(h.get? b).map fun o=>(b,o)
theorem tQ {fp:List Addr} {h:Heap} {b:Addr} {o:Obj} (hb:b∈fp) (e:h.get? b=some o):(b,o)∈JN fp h:=List.mem_filterMap.mpr ⟨b,hb,by rw [e];rfl⟩
theorem Qg {fp:List Addr} {h:Heap} {p:Addr×Obj} (hp:p∈JN fp h):p.1∈fp/\h.get? p.1=some p.2:=by
 obtain⟨b,hb,e⟩:=List.mem_filterMap.mp hp
 cases q:h.get? b with
 | none=>rw [q] at e;cases e
 | some o=>
  rw [q] at e
  have e':(b,o)=p:=Option.some.inj e
  subst e'
  exact⟨hb,q⟩
theorem Inv.pinned {pins:List (Addr×Obj)} {σ:St} {H:Hp} {s:Shared} {fp:List Addr} (I:Inv X pins σ H s) (hf:∀b∈fp,JK X pins H b) (ho:∀b∈fp,∃o,s.heap.get? b=some o/\∀v,o.data≠.cell v):Inv X (pins ++ JN fp s.heap) σ H s:=
 I.pins_of fun p hp=>(List.mem_append.mp hp).elim (fun z=>I.pin p (List.mem_append_right _ z)) fun z=>by
  obtain⟨hb,e⟩:=Qg z
  obtain⟨f0,f1,f2,_⟩:=hf p.1 hb
  obtain⟨o,e',d⟩:=ho p.1 hb
  rw [e] at e';cases e'
  exact⟨e,f0,f1,f2,d⟩
theorem Inv.unpinned {pins pl:List (Addr×Obj)} {σ:St} {H:Hp} {s:Shared} (I:Inv X (pins ++ pl) σ H s):Inv X pins σ H s:=I.pins_of fun p hp=>I.pin p (List.mem_append_right _ (List.mem_append_left _ hp))
theorem d7 {iter:Expr} {body:List Stmt} {wi:TI} {g:TG} {tb:TS} {pos:Pos} (hp:PassesOwn (model X.prog X.w) X.A X.env X.xe) (hc:X.calm=true) (hi:PI X tg iter wi) (hg:PG X tg g) (hb:N8 X body tb)
  (hs:∀x,foldedSetIterable iter X.env x=pure x:=by intro _;rfl):PS X (.For tg iter body [] pos) (Y8 wi g tb):=by
 intro pins s σ H D I h
 refine wpAny_For (eX (hi pins s σ H _ I h) fun v s1 h1=>eX h1 fun itv s2 h2=>?_) hs
 obtain⟨it,fp,tn,J,H2,e,I2,T,st2,f2,W,⟨m0,w0⟩,turn⟩:=h2
 subst e
 have stat:∀{H':Hp},(∀b∈fp,H' b=none)->∀b∈fp,JK X pins H' b:=fun hn b hb=>⟨hn b hb,(f2 b hb).2⟩
 refine codeAny_forLoop_any (fun n s'=>∃i σ' H',Inv X pins σ' H' s'/\tn i s'.heap/\(∀b∈fp,H' b=none)/\W i n σ' H') ?_ m0 ⟨0,σ,H2,I2,st2,fun b hb=>(f2 b hb).1,w0⟩
 rintro n s3 ⟨i,σ3,H3,I3,st3,fr3,w3⟩
 rcases turn i n σ3 H3 w3 with ⟨stop,qn⟩ | ⟨go,N,hN,step⟩
 ·refine wpAny_passesOwn hp (eX (T.done X rfl rfl rfl hc i pins s3 σ3 H3 X.xe I3 (stat fr3) st3 stop) fun r s4 hpt=>?_)
  obtain⟨hr,I4⟩:=hpt
  subst hr
  exact wpAny_execs_nil ⟨σ3,H3,I4,qn⟩
 ·refine wpAny_passesOwn hp (eX (T.item X rfl rfl rfl hc i pins s3 σ3 H3 X.xe I3 (stat fr3) st3 go) fun r s4 hpt=>?_)
  obtain⟨u,hr,h4⟩:=hpt
  subst hr
  refine wpAny_passesOwn hp (eX h4 fun _ s5 hpt=>?_)
  obtain⟨x,H5,I5,r5,y5,st5,fr5⟩:=hpt
  have I5':=I5.pinned (stat fr5) (T.obj _ _ st5)
  refine wpAny_passesOwn hp (eX (hg _ s5 σ3 H5 x u _ I5' r5 (step x H5 y5)) fun _ s6 hpt=>?_)
  obtain⟨σ6,H6,I6,q6⟩:=hpt
  refine wpAny_passesOwn hp (eX (hb _ s6 σ6 H6 _ I6 q6) fun f s7 q7=>?_)
  have again:∀{σ7:St} {H7:Hp},Inv X (pins ++ JN fp s5.heap) σ7 H7 s7->N σ7 H7->∃m,m <n/\∃i σ' H',Inv X pins σ' H' s7/\tn i s7.heap/\(∀b∈fp,H' b=none)/\W i m σ' H':=fun {σ7 H7} I7 n7=>by
   obtain⟨m',hm,w7⟩:=hN σ7 H7 n7
   refine⟨m',hm,i+1,σ7,H7,I7.unpinned,T.keep _ _ _ st5 fun b hb o e=>(I7.pin (b,o) (List.mem_append_right _ (List.mem_append_right _ (tQ hb e)))).1,fun b hb=>?_,w7⟩
   obtain⟨o,e,d⟩:=T.obj _ _ st5 b hb
   exact(I7.pin (b,o) (List.mem_append_right _ (List.mem_append_right _ (tQ hb e)))).2.1
  cases f with
  | next=>obtain⟨σ7,H7,I7,n7⟩:=q7;exact again I7 n7
  | cont=>obtain⟨σ7,H7,I7,n7⟩:=q7;exact again I7 n7
  | brk=>obtain⟨σ7,H7,I7,q7⟩:=q7;exact⟨σ7,H7,I7.unpinned,q7⟩
  | ret v=>obtain⟨x7,σ7,H7,I7,r7,q7⟩:=q7;exact⟨x7,σ7,H7,I7.unpinned,r7,q7⟩
end
theorem d8 {K:PySem.W.Frag} {a:Addr} {xs:List V} {g:TG} {tb:TS} {D:Ends} {σ:St} {H:Hp} (Pv:Nat->St->Hp->Prop) (h0:Pv 0 σ H) (hl:∀i σ H,i<=xs.length->Pv i σ H->bK K H a xs)
  (hs:∀i x σ H,xs[i]?=some x->Pv i σ H->g x σ H fun σ2 H2=>tb { D with nx:=Pv (i+1),ct:=Pv (i+1),bk:=D.nx } σ2 H2) (hd:∀σ H,Pv xs.length σ H->D.nx σ H):
  ∃W:Nat->Nat->St->Hp->Prop,(∃m,W 0 m σ H)/\∀i m σ H,W i m σ H->
   ((Wr K a).stop i H/\D.nx σ H)∨((Wr K a).go i H/\∃N:St->Hp->Prop,(∀σ' H',N σ' H'->∃m',m' <m/\W (i+1) m' σ' H')/\∀x H',(Wr K a).yld i H x H'->g x σ H' fun σ2 H2=>tb { D with nx:=N,ct:=N,bk:=D.nx } σ2 H2):=by
 refine⟨fun i m σ H=>m=xs.length - i/\i<=xs.length/\Pv i σ H,⟨xs.length,by simp,Nat.zero_le _,h0⟩,?_⟩
 rintro i m σ H ⟨rfl,hi,p⟩
 have q:=hl i σ H hi p
 by_cases hlt:i <xs.length
 ·refine .inr ⟨⟨xs,xs[i],q,by simp [hlt]⟩,Pv (i+1),fun σ' H' p'=>⟨xs.length - (i+1),by omega,rfl,hlt,p'⟩,fun x H' y=>?_⟩
  obtain⟨e,y⟩:=y
  subst e
  exact hs i x σ _ (y xs q) p
 ·have e:i=xs.length:=by omega
  subst e
  exact .inl ⟨⟨xs,q,Nat.le_refl _⟩,hd σ H p⟩
theorem Uh {K:PySem.W.Frag} {a:Addr} {xs:List V} {g:TG} {tb:TS} {D:Ends} {σ:St} {H:Hp} (Pv:Nat->St->Hp->Prop) (h0:Pv 0 σ H) (hl:∀i σ H,i<=xs.length->Pv i σ H->fC K H a xs)
  (hs:∀i x σ H,xs[i]?=some x->Pv i σ H->g x σ H fun σ2 H2=>tb { D with nx:=Pv (i+1),ct:=Pv (i+1),bk:=D.nx } σ2 H2) (hd:∀σ H,Pv xs.length σ H->D.nx σ H):
  ∃W:Nat->Nat->St->Hp->Prop,(∃m,W 0 m σ H)/\∀i m σ H,W i m σ H->
   ((Xe K a).stop i H/\D.nx σ H)∨((Xe K a).go i H/\∃N:St->Hp->Prop,(∀σ' H',N σ' H'->∃m',m' <m/\W (i+1) m' σ' H')/\∀x H',(Xe K a).yld i H x H'->g x σ H' fun σ2 H2=>tb { D with nx:=N,ct:=N,bk:=D.nx } σ2 H2):=by
 refine⟨fun i m σ H=>m=xs.length - i/\i<=xs.length/\Pv i σ H,⟨xs.length,by simp,Nat.zero_le _,h0⟩,?_⟩
 rintro i m σ H ⟨rfl,hi,p⟩
 have q:=hl i σ H hi p
 by_cases hlt:i <xs.length
 ·refine .inr ⟨⟨xs,xs[i],q,by simp [hlt]⟩,Pv (i+1),fun σ' H' p'=>⟨xs.length - (i+1),by omega,rfl,hlt,p'⟩,fun x H' y=>?_⟩
  obtain⟨e,y⟩:=y
  subst e
  exact hs i x σ _ (y xs q) p
 ·have e:i=xs.length:=by omega
  subst e
  exact .inl ⟨⟨xs,q,Nat.le_refl _⟩,hd σ H p⟩
theorem Gu {lo:Int} {n:Nat} {g:TG} {tb:TS} {D:Ends} {σ:St} {H:Hp} (Pv:Nat->St->Hp->Prop) (h0:Pv 0 σ H)
  (hs:∀i σ H,i <n->Pv i σ H->g (.int (lo+i)) σ H fun σ2 H2=>tb { D with nx:=Pv (i+1),ct:=Pv (i+1),bk:=D.nx } σ2 H2) (hd:∀σ H,Pv n σ H->D.nx σ H):
  ∃W:Nat->Nat->St->Hp->Prop,(∃m,W 0 m σ H)/\∀i m σ H,W i m σ H->
   ((Wi lo n).stop i H/\D.nx σ H)∨((Wi lo n).go i H/\∃N:St->Hp->Prop,(∀σ' H',N σ' H'->∃m',m' <m/\W (i+1) m' σ' H')/\∀x H',(Wi lo n).yld i H x H'->g x σ H' fun σ2 H2=>tb { D with nx:=N,ct:=N,bk:=D.nx } σ2 H2):=by
 refine⟨fun i m σ H=>m=n - i/\i<=n/\Pv i σ H,⟨n,by simp,Nat.zero_le _,h0⟩,?_⟩
 rintro i m σ H ⟨rfl,hi,p⟩
 by_cases hlt:i <n
 ·refine .inr ⟨hlt,Pv (i+1),fun σ' H' p'=>⟨n - (i+1),by omega,rfl,hlt,p'⟩,fun x H' y=>?_⟩
  obtain⟨e,y⟩:=y
  subst e y
  exact hs i σ _ hlt p
 ·have e:i=n:=by omega
  subst e
  exact .inl ⟨Nat.le_refl _,hd σ H p⟩
theorem Kf {c:TT} {tb:TS} {D:Ends} {σ:St} {H:Hp} (Pv:St->Hp->Prop) (μ:St->Hp->Nat) (h0:Pv σ H)
  (hs:∀σ H,Pv σ H->c σ H fun b H1=>if b=true then tb { D with nx:=fun σ' H'=>Pv σ' H'/\μ σ' H' <μ σ H,ct:=fun σ' H'=>Pv σ' H'/\μ σ' H' <μ σ H,bk:=D.nx } σ H1 else D.nx σ H1)
  (mono:∀σ H Q Q',(∀b H1,Q b H1->Q' b H1)->c σ H Q->c σ H Q'):Qs c tb D σ H:=by
 refine⟨fun m σ H=>m=μ σ H/\Pv σ H,⟨_,rfl,h0⟩,?_⟩
 rintro m σ H ⟨rfl,p⟩
 refine mono σ H _ _ (fun b H1 q=>?_) (hs σ H p)
 cases b with
 | true=>exact⟨_,fun σ' H' ⟨p',l⟩=>⟨_,l,rfl,p'⟩,q⟩
 | false=>exact q
noncomputable abbrev R2:=V->V->Hp->VK->Prop
noncomputable def wN (X:Cx) (f:Value->Value->Sem Value) (r:R2):Prop:=
 ∀(pins:List (Addr×Obj)) (s:Shared) (σ:St) (H:Hp) (x y:V) (v u:Value) (Q:VK),Inv X pins σ H s->RelV x v->RelV y u->r x y H Q->
  wpAny (model X.prog X.w) X.A (f v u) (EP X pins σ Q) X.xe s
noncomputable def lu (X:Cx) (f:Value) (r:List V->Hp->VK->Prop):Prop:=
 ∀(pins:List (Addr×Obj)) (s:Shared) (σ:St) (H:Hp) (xs:List V) (us:List Value) (Q:VK),Inv X pins σ H s->Vals xs us->r xs H Q->
  wpAny (model X.prog X.w) X.A (call f us) (EP X pins σ Q) X.xe s
noncomputable def Xm (r:R2) (ta tb:TE):TE:=fun σ H Q=>ta σ H fun x H1=>tb σ H1 fun y H2=>r x y H2 Q
inductive ZX (C:Int->Int->Prop) (g:Int->Int->V) (x:V) (y:V) (H:Hp) (Q:VK):Prop where
 | mk:∀i j,x=.int i->y=.int j->C i j->Q (g i j) H->ZX C g x y H Q
noncomputable def rI (C:Int->Int->Prop) (g:Int->Int->V):R2:=fun x y H Q=>ZX C g x y H Q
inductive Yq (g:Int->Int->V) (x:V) (y:V) (H:Hp) (Q:VK):Prop where
 | mk:∀i j,x=.int i->y=.int j->Q (g i j) H->Yq g x y H Q
noncomputable def Tc (g:Int->Int->V):R2:=fun x y H Q=>Yq g x y H Q
section
variable {X:Cx} {a b c:Expr} {ta tb tc:TE} {pos:Pos}
theorem Wv (ha:PE X a ta) (hb:PE X b tb) {pins:List (Addr×Obj)} {s:Shared} {σ:St} {H:Hp} {R:V->V->Hp->Prop} (I:Inv X pins σ H s)
  (h:ta σ H fun x H1=>tb σ H1 fun y H2=>R x y H2) {Q:Value->Shared->Prop} {f:Value->Value->Sem Value}
  (hf:∀v u s2 x y H2,Inv X pins σ H2 s2->RelV x v->RelV y u->R x y H2->wpAny (model X.prog X.w) X.A (f v u) Q X.xe s2):
  wpAny (model X.prog X.w) X.A (eval a X.env) (fun v s₁=>wpAny (model X.prog X.w) X.A (eval b X.env) (fun u s₂=>wpAny (model X.prog X.w) X.A (f v u) Q X.xe s₂) X.xe s₁) X.xe s:=by
 refine eX (ha pins s σ H _ I h) fun v s1 hpt=>?_
 obtain⟨x,H1,I1,r1,q1⟩:=hpt
 refine eX (hb pins s1 σ H1 _ I1 q1) fun u s2 hpt=>?_
 obtain⟨y,H2,I2,r2,q2⟩:=hpt
 exact hf v u s2 x y H2 I2 r1 r2 q2
theorem bA {op:Operator} {r:R2} (ho:wN X (binaryOp op) r) (ha:PE X a ta) (hb:PE X b tb):PE X (.BinOp a op b pos) (Xm r ta tb):=by
 intro pins s σ H Q I h
 exact wpAny_BinOp (Wv ha hb I h fun v u s2 x y H2 I2 rx ry q=>ho pins s2 σ H2 x y v u Q I2 rx ry q)
theorem Xw {f:Value->Value->Sem Value} {C:Int->Int->Prop} {g:Int->Int->Int}
  (rule:∀(i j:Int) (t u:Tok) (s:Shared) (Q:Value->Shared->Prop) (E:Value->Shared->Prop),C i j->Q (.int (g i j) s.toks) { s with toks:=s.toks+1 }->wpAny (model X.prog X.w) X.A (f (.int i t) (.int j u)) Q E s):
  wN X f (rI C fun i j=>.int (g i j)):=by
 intro pins s σ H x y v u Q I rx ry h
 obtain⟨i,j,rfl,rfl,hc,q⟩:=h
 obtain⟨t,rfl⟩:=rx
 obtain⟨t',rfl⟩:=ry
 exact rule i j t t' s _ _ hc ⟨.int (g i j),H,I.tok _,⟨_,rfl⟩,q⟩
theorem UW {f:Value->Value->Sem Value} {g:Int->Int->Int}
  (rule:∀(i j:Int) (t u:Tok) (s:Shared) (Q:Value->Shared->Prop) (E:Value->Shared->Prop),Q (.int (g i j) s.toks) { s with toks:=s.toks+1 }->wpAny (model X.prog X.w) X.A (f (.int i t) (.int j u)) Q E s):
  wN X f (Tc fun i j=>.int (g i j)):=by
 intro pins s σ H x y v u Q I rx ry h
 obtain⟨i,j,rfl,rfl,q⟩:=h
 obtain⟨t,rfl⟩:=rx
 obtain⟨t',rfl⟩:=ry
 exact rule i j t t' s _ _ ⟨.int (g i j),H,I.tok _,⟨_,rfl⟩,q⟩
theorem U3 {f:Value->Value->Sem Value} {g:Int->Int->Bool}
  (rule:∀(i j:Int) (t u:Tok) (s:Shared) (Q:Value->Shared->Prop) (E:Value->Shared->Prop),Q (.bool (g i j)) s->wpAny (model X.prog X.w) X.A (f (.int i t) (.int j u)) Q E s):
  wN X f (Tc fun i j=>.bl (g i j)):=by
 intro pins s σ H x y v u Q I rx ry h
 obtain⟨i,j,rfl,rfl,q⟩:=h
 obtain⟨t,rfl⟩:=rx
 obtain⟨t',rfl⟩:=ry
 exact rule i j t t' s _ _ ⟨.bl (g i j),H,I,rfl,q⟩
noncomputable def Zx (i j:Int):Prop:=0<=j/\j<=1000000/\i.natAbs <2 ^ 64
theorem Mu (k:Nat):(0:Int)<=2 ^ k:=by
 rw [two_pow_cast]
 exact Int.natCast_nonneg _
theorem eQ:wN X (binaryOp .Add) (Tc fun i j=>.int (i+j)):=UW fun _ _ _ _ _ _ _ q=>add_int q
theorem Es:wN X (binaryOp .Sub) (Tc fun i j=>.int (i - j)):=UW fun _ _ _ _ _ _ _ q=>sub_int q
theorem cH:wN X (binaryOp .Mod) (rI (fun _ j=>0 <j) fun i j=>.int (i % j)):=Xw fun i j _ _ _ _ _ hc q=>by
 have h1:(0:Int) <j:=hc
 exact mod_int' (by omega) (by rw [Int.fmod_eq_emod_of_nonneg i (by omega)];exact q)
theorem Jf:wN X (binaryOp .Pow) (rI Zx fun i j=>.int (i ^ j.toNat)):=Xw fun _ _ _ _ _ _ _ hc q=>pow_int_small hc.1 hc.2.1 hc.2.2 q
theorem QD:wN X (binaryOp .RShift) (rI (fun _ j=>0<=j) fun i j=>.int (i / 2 ^ j.toNat)):=Xw fun i j _ _ _ _ _ hc q=>
 rshift_int hc (by rw [Int.fdiv_eq_ediv_of_nonneg i (Mu _)];exact q)
theorem Wl:wN X (binaryOp .BitAnd) (Tc fun i j=>.int (Builtin.bitAnd i j)):=UW fun _ _ _ _ _ _ _ q=>and_int q
theorem Iz:wN X (inplaceOp .Add) (Tc fun i j=>.int (i+j)):=UW fun _ _ _ _ _ _ _ q=>iadd_int q
end
noncomputable def Xl:V->V->Bool
 | .non,.non=>true | .non,.int _=>true | .int _,.non=>true | .non,.bl _=>true | .bl _,.non=>true | .non,.str _=>true | .str _,.non=>true
 | .int _,.int _=>true | .bl _,.bl _=>true | .str _,.str _=>true | .byt _,.byt _=>true
 | .int _,.str _=>true | .str _,.int _=>true | .bl _,.str _=>true | .str _,.bl _=>true
 | _,_=>false
noncomputable def rEq:R2:=fun x y H Q=>Xl x y=true/\Q (.bl (decide (x=y))) H
noncomputable def rNe:R2:=fun x y H Q=>Xl x y=true/\Q (.bl (!decide (x=y))) H
theorem Oq {i j:Int}:decide (V.int i=V.int j)=(i == j):=by
 rw [Bool.eq_iff_iff]
 simp
theorem RD {i j:Bool}:decide (V.bl i=V.bl j)=(i == j):=by
 rw [Bool.eq_iff_iff]
 simp
theorem NK {i j:Str}:decide (V.str i=V.str j)=(i == j):=by
 rw [Bool.eq_iff_iff]
 simp
theorem Ow {i j:Array UInt8}:decide (V.byt i=V.byt j)=(i.toList == j.toList):=by
 rw [Bool.eq_iff_iff]
 cases i
 cases j
 simp
section
variable {X:Cx} {a b c:Expr} {ta tb tc:TE} {pos:Pos}
theorem dz {pins:List (Addr×Obj)} {σ:St} {H:Hp} {s:Shared} {Q:VK} {k k':Bool} (I:Inv X pins σ H s) (q:Q (.bl k) H) (e:k=k'):EP X pins σ Q (.bool k') s:=by
 subst e
 exact⟨.bl k,H,I,rfl,q⟩
theorem iw:wN X (compareOp .Eq) rEq:=by
 intro pins s σ H x y v u Q I rx ry h
 obtain⟨hs,q⟩:=h
 cases x with
 | non=>
  cases rx
  cases y with
  | non=>cases ry;exact PySem.EqNone.eq_none_none (dz I q (by simp))
  | bl j=>cases ry;exact PySem.EqNone.eq_none_bool (dz I q (by simp))
  | int j=>obtain⟨t',rfl⟩:=ry;exact PySem.EqNone.eq_none_int (dz I q (by simp))
  | str j=>obtain⟨t',rfl⟩:=ry;exact PySem.EqNone.eq_none_str (dz I q (by simp))
  | _=>exact absurd (show false=true from hs) Bool.false_ne_true
 | bl i=>
  cases rx
  cases y with
  | non=>cases ry;exact PySem.EqNone.eq_bool_none (dz I q (by simp))
  | bl j=>cases ry;exact eq_bool (dz I q RD)
  | str j=>obtain⟨t',rfl⟩:=ry;exact PySem.EqMixed.eq_bool_str (dz I q (by simp))
  | _=>exact absurd (show false=true from hs) Bool.false_ne_true
 | int i=>
  obtain⟨t,rfl⟩:=rx
  cases y with
  | non=>cases ry;exact PySem.EqNone.eq_int_none (dz I q (by simp))
  | int j=>obtain⟨t',rfl⟩:=ry;exact eq_int (dz I q Oq)
  | str j=>obtain⟨t',rfl⟩:=ry;exact PySem.EqMixed.eq_int_str (dz I q (by simp))
  | _=>exact absurd (show false=true from hs) Bool.false_ne_true
 | str i=>
  obtain⟨t,rfl⟩:=rx
  cases y with
  | non=>cases ry;exact PySem.EqNone.eq_str_none (dz I q (by simp))
  | bl j=>cases ry;exact PySem.EqMixed.eq_str_bool (dz I q (by simp))
  | int j=>obtain⟨t',rfl⟩:=ry;exact PySem.EqMixed.eq_str_int (dz I q (by simp))
  | str j=>obtain⟨t',rfl⟩:=ry;exact eq_str (dz I q NK)
  | _=>exact absurd (show false=true from hs) Bool.false_ne_true
 | byt i=>
  obtain⟨t,rfl⟩:=rx
  cases y with
  | byt j=>obtain⟨t',rfl⟩:=ry;exact PySem.W.eq_bytes (dz I q Ow)
  | _=>exact absurd (show false=true from hs) Bool.false_ne_true
 | _=>cases y <;> exact absurd (show false=true from hs) Bool.false_ne_true
theorem Ny:wN X (compareOp .NotEq) rNe:=by
 intro pins s σ H x y v u Q I rx ry h
 obtain⟨hs,q⟩:=h
 cases x with
 | non=>
  cases rx
  cases y with
  | non=>cases ry;exact PySem.EqNone.ne_none_none (dz I q (by simp))
  | bl j=>cases ry;exact PySem.EqNone.ne_none_bool (dz I q (by simp))
  | int j=>obtain⟨t',rfl⟩:=ry;exact PySem.EqNone.ne_none_int (dz I q (by simp))
  | str j=>obtain⟨t',rfl⟩:=ry;exact PySem.EqNone.ne_none_str (dz I q (by simp))
  | _=>exact absurd (show false=true from hs) Bool.false_ne_true
 | bl i=>
  cases rx
  cases y with
  | non=>cases ry;exact PySem.EqNone.ne_bool_none (dz I q (by simp))
  | bl j=>cases ry;exact ne_bool (dz I q (congrArg not RD))
  | str j=>obtain⟨t',rfl⟩:=ry;exact PySem.EqMixed.ne_bool_str (dz I q (by simp))
  | _=>exact absurd (show false=true from hs) Bool.false_ne_true
 | int i=>
  obtain⟨t,rfl⟩:=rx
  cases y with
  | non=>cases ry;exact PySem.EqNone.ne_int_none (dz I q (by simp))
  | int j=>obtain⟨t',rfl⟩:=ry;exact ne_int (dz I q (congrArg not Oq))
  | str j=>obtain⟨t',rfl⟩:=ry;exact PySem.EqMixed.ne_int_str (dz I q (by simp))
  | _=>exact absurd (show false=true from hs) Bool.false_ne_true
 | str i=>
  obtain⟨t,rfl⟩:=rx
  cases y with
  | non=>cases ry;exact PySem.EqNone.ne_str_none (dz I q (by simp))
  | bl j=>cases ry;exact PySem.EqMixed.ne_str_bool (dz I q (by simp))
  | int j=>obtain⟨t',rfl⟩:=ry;exact PySem.EqMixed.ne_str_int (dz I q (by simp))
  | str j=>obtain⟨t',rfl⟩:=ry;exact ne_str (dz I q (congrArg not NK))
  | _=>exact absurd (show false=true from hs) Bool.false_ne_true
 | byt i=>
  obtain⟨t,rfl⟩:=rx
  cases y with
  | byt j=>obtain⟨t',rfl⟩:=ry;exact PySem.W.ne_bytes (dz I q (congrArg not Ow))
  | _=>exact absurd (show false=true from hs) Bool.false_ne_true
 | _=>cases y <;> exact absurd (show false=true from hs) Bool.false_ne_true
theorem yG:wN X (compareOp .Lt) (Tc fun i j=>.bl (decide (i <j))):=U3 fun _ _ _ _ _ _ _ q=>lt_int q
theorem wY:wN X (compareOp .LtE) (Tc fun i j=>.bl (decide (i<=j))):=U3 fun _ _ _ _ _ _ _ q=>le_int q
theorem Ka:wN X (compareOp .Gt) (Tc fun i j=>.bl (decide (j <i))):=U3 fun _ _ _ _ _ _ _ q=>gt_int q
theorem XF:wN X (compareOp .GtE) (Tc fun i j=>.bl (decide (j<=i))):=U3 fun _ _ _ _ _ _ _ q=>ge_int q
theorem Ad:wN X (compareOp .In) (fun x y H Q=>∃i j,x=.str i/\y=.str j/\Q (.bl (!(Builtin.Str.occurrences j i 0 j.length 1).isEmpty)) H):=by
 intro pins s σ H x y v u Q I rx ry h
 obtain⟨i,j,rfl,rfl,q⟩:=h
 obtain⟨t,rfl⟩:=rx
 obtain⟨t',rfl⟩:=ry
 exact in_str (dz I q rfl)
theorem bR (b:Expr) {op:CmpOp} (h:op≠.In:=by decide) (h2:op≠.NotIn:=by decide):behindInMarks op b=false:=by
 have e1:(op == CmpOp.In)=false:=by cases op <;> first | rfl | exact absurd rfl h
 have e2:(op == CmpOp.NotIn)=false:=by cases op <;> first | rfl | exact absurd rfl h2
 cases b <;> simp [behindInMarks,e1,e2]
theorem uq {op:CmpOp} {r:R2} (ho:wN X (compareOp op) r) (ha:PE X a ta) (hb:PE X b tb) (hm:behindInMarks op b=false):PE X (.Compare a [op] [b] pos) (Xm r ta tb):=by
 intro pins s σ H Q I h
 exact wpAny_Compare1 (Wv ha hb I h fun v u s2 x y H2 I2 rx ry q=>ho pins s2 σ H2 x y v u Q I2 rx ry q) hm
inductive QS (Q:Bool->Hp->Prop) (x:V) (H':Hp):Prop where
 | mk:∀k,x=.bl k->Q k H'->QS Q x H'
noncomputable def Vs (t:TE):TT:=fun σ H Q=>t σ H fun x H'=>QS Q x H'
theorem bF {op:CmpOp} {r:R2} (ho:wN X (compareOp op) r) (ha:PE X a ta) (hb:PE X b tb) (hm:behindInMarks op b=false):PT X (.Compare a [op] [b] pos) (Vs (Xm r ta tb)):=by
 intro pins s σ H Q I h
 refine wpAny_isTrue_Compare1 (eX (ha pins s σ H _ I h) fun v s1 ⟨x,H1,I1,r1,q1⟩=>eX (hb pins s1 σ H1 _ I1 q1) fun u s2 ⟨y,H2,I2,r2,q2⟩=>
  eX (ho pins s2 σ H2 x y v u _ I2 r1 r2 q2) fun c s3 ⟨z,H3,I3,r3,k,e,q3⟩=>?_) hm
 subst e
 cases r3
 exact wpAny_truthy_bool ⟨H3,I3,q3⟩
inductive Oc (r':R2) (tc:TE) (σ:St) (Q:VK) (y:V) (z:V) (H3:Hp):Prop where
 | mk:∀k,z=.bl k->((if k=true then tc σ H3 fun w' H4=>r' y w' H4 Q else Q (.bl false) H3))->Oc r' tc σ Q y z H3
noncomputable def QQ (r r':R2) (ta tb tc:TE):TE:=fun σ H Q=>ta σ H fun x H1=>tb σ H1 fun y H2=>r x y H2 fun z H3=>Oc r' tc σ Q y z H3
theorem QL {op op':CmpOp} {r r':R2} (ho:wN X (compareOp op) r) (ho':wN X (compareOp op') r') (ha:PE X a ta) (hb:PE X b tb) (hc:PE X c tc)
  (hm:lastMarks [op,op'] [b,c]=false:=by with_unfolding_all rfl):PE X (.Compare a [op,op'] [b,c] pos) (QQ r r' ta tb tc):=by
 intro pins s σ H Q I h
 refine Compare_chain (eX (ha pins s σ H _ I h) fun v s1 ⟨x,H1,I1,r1,q1⟩=>chain_link (eX (hb pins s1 σ H1 _ I1 q1) fun u s2 ⟨y,H2,I2,r2,q2⟩=>
  eX (ho pins s2 σ H2 x y v u _ I2 r1 r2 q2) fun d s3 ⟨z,H3,I3,r3,k,e,q3⟩=>?_)) hm
 subst e
 cases r3
 refine wpAny_truthy_bool ?_
 cases k with
 | false=>exact ite_ff ⟨.bl false,H3,I3,rfl,q3⟩
 | true=>exact ite_tt (chain_last (eX (hc pins s3 σ H3 _ I3 q3) fun w' s4 ⟨z',H4,I4,r4,q4⟩=>ho' pins s4 σ H4 y z' u w' Q I4 r2 r4 q4))
theorem zW {op op':CmpOp} {r r':R2} (ho:wN X (compareOp op) r) (ho':wN X (compareOp op') r') (ha:PE X a ta) (hb:PE X b tb) (hc:PE X c tc)
  (hm:lastMarks [op,op'] [b,c]=false:=by with_unfolding_all rfl):PT X (.Compare a [op,op'] [b,c] pos) (Vs (QQ r r' ta tb tc)):=by
 intro pins s σ H Q I h
 refine isTrue_chain (eX (ha pins s σ H _ I h) fun v s1 ⟨x,H1,I1,r1,q1⟩=>test_link (eX (hb pins s1 σ H1 _ I1 q1) fun u s2 ⟨y,H2,I2,r2,q2⟩=>
  eX (ho pins s2 σ H2 x y v u _ I2 r1 r2 q2) fun d s3 ⟨z,H3,I3,r3,k,e,q3⟩=>?_)) hm
 subst e
 cases r3
 refine wpAny_truthy_bool ?_
 cases k with
 | false=>
  obtain⟨k',e',q'⟩:=q3
  cases e'
  exact ite_ff ⟨H3,I3,q'⟩
 | true=>
  refine ite_tt (test_last (eX (hc pins s3 σ H3 _ I3 q3) fun w' s4 ⟨z',H4,I4,r4,q4⟩=>eX (ho' pins s4 σ H4 y z' u w' _ I4 r2 r4 q4) fun d' s5 hpt=>?_))
  obtain⟨z2,H5,I5,r5,k2,e2,q5⟩:=hpt
  subst e2
  cases r5
  exact wpAny_truthy_bool ⟨H5,I5,q5⟩
theorem HQ:(sizeLine:Nat) <2 ^ 63:=by rw [sizeLine_eq];decide
theorem yr:wN X (binaryOp .Add) (fun x y H Q=>∃i j,x=.str i/\y=.str j/\i.length+j.length<=sizeLine/\Q (.str (i ++ j)) H):=by
 intro pins s σ H x y v u Q I rx ry h
 obtain⟨i,j,rfl,rfl,hz,q⟩:=h
 obtain⟨t,rfl⟩:=rx
 obtain⟨t',rfl⟩:=ry
 exact add_str (fun t' tk=>⟨.str (i ++ j),H,I.tok _,⟨_,rfl⟩,q⟩) hz
theorem vals1 {x:V} {us:List Value} (r:Vals [x] us):∃u,us=[u]/\RelV x u:=by
 cases r with
 | cons r1 r2=>cases r2;exact⟨_,rfl,r1⟩
theorem vals2 {x y:V} {us:List Value} (r:Vals [x,y] us):∃u w',us=[u,w']/\RelV x u/\RelV y w':=by
 cases r with
 | cons r1 r2=>
  cases r2 with
  | cons r3 r4=>cases r4;exact⟨_,_,rfl,r1,r3⟩
theorem Hs (hc:X.calm=true):lu X (.builtin "max") (fun xs H Q=>∃i j,xs=[.int i,.int j]/\Q (.int (if j >i then j else i)) H):=by
 intro pins s σ H xs us Q I r h
 obtain⟨i,j,rfl,q⟩:=h
 obtain⟨u,w',rfl,⟨t,rfl⟩,⟨t',rfl⟩⟩:=vals2 r
 refine max_two_ints (I.ok.hd hc) fun h' tk k=>⟨_,H,I.kept k,?_,q⟩
 by_cases hj:j >i
 ·rw [if_pos hj,if_pos hj];exact⟨_,rfl⟩
 ·rw [if_neg hj,if_neg hj];exact⟨_,rfl⟩
theorem Ia:lu X (.type "str") (fun xs H Q=>∃i,xs=[.int i]/\i.natAbs.log2 <1920/\Q (.str (toString i)) H):=by
 intro pins s σ H xs us Q I r h
 obtain⟨i,rfl,hz,q⟩:=h
 obtain⟨u,rfl,t,rfl⟩:=vals1 r
 exact PySem.P.str_of_int hz ⟨.str _,H,I.tok _,⟨_,rfl⟩,q⟩
noncomputable def XH (K:PySem.W.Frag) (x:V) (H:Hp) (n:Nat):Prop:=
 match x with
 | .str y=>y.length<=sizeLine/\n=y.length
 | .byt y=>y.size<=sizeLine/\n=y.size
 | .ref p=>(∃xs,bK K H p xs/\n=xs.length)∨∃xs,fC K H p xs/\n=xs.length
 | _=>False
theorem cz:lu X (.builtin "len") (fun xs H Q=>∃x n,xs=[x]/\XH X.K x H n/\Q (.int n) H):=by
 intro pins s σ H xs us Q I r h
 obtain⟨x,n,rfl,e,q⟩:=h
 obtain⟨u,rfl,rx⟩:=vals1 r
 have hl:=HQ
 have hs:sizeLine=16777216:=sizeLine_eq
 cases x with
 | str y=>
  obtain⟨t,rfl⟩:=rx
  obtain⟨hy,e'⟩:y.length<=sizeLine/\n=y.length:=e
  subst e'
  exact len_str (by omega) ⟨.int _,H,I.tok _,⟨_,rfl⟩,q⟩
 | byt y=>
  obtain⟨t,rfl⟩:=rx
  obtain⟨hy,e'⟩:y.size<=sizeLine/\n=y.size:=e
  subst e'
  exact PySem.W.len_bytes (by omega) ⟨.int _,H,I.tok _,⟨_,rfl⟩,q⟩
 | ref p=>
  cases rx
  have e':(∃xs,bK X.K H p xs/\n=xs.length)∨∃xs,fC X.K H p xs/\n=xs.length:=e
  rcases e' with ⟨xs,hx,e'⟩ | ⟨xs,hx,e'⟩
  ·subst e'
   obtain⟨its,r',pl,hz⟩:=I.list hx
   have hlen:=r'.length
   exact Calls.call_len_list pl.isList (by simp only [List.size_toArray];omega) ⟨.int xs.length,H,I.tok _,⟨_,by simp only [List.size_toArray];rw [hlen]⟩,q⟩
  ·subst e'
   obtain⟨its,r',pl,hz⟩:=I.tuple hx
   have hlen:=r'.length
   exact len_tuple pl (by simp only [List.size_toArray];omega) ⟨.int xs.length,H,I.tok _,⟨_,by simp only [List.size_toArray];rw [hlen]⟩,q⟩
 | _=>exact(show False from e).elim
end
structure Nr (h:Heap) (x dx C:Addr) (mA:Str->Option Value):Prop where
 obj:h.get? x=some (PySem.W.instObj C dx)
 ns:h.Ns1 dx mA
 ne:dx≠x
theorem OJ {h:Heap} {dx:Addr} {mA:Str->Option Value} (n:h.Ns1 dx mA):∃od,h.get? dx=some od/\∀name,PySem.W.lookIn name od=some (mA name):=by
 obtain⟨o,es,ep,ho,hd,hk,_,hm⟩:=n
 refine⟨o,ho,fun name=>?_⟩
 have e:=hm name
 unfold nsFind findBy at e
 rw [<-Array.find?_toList] at e
 unfold PySem.W.lookIn
 rw [hd]
 dsimp only
 split
 ·rename_i y q
  rw [q] at e
  exact congrArg some e
 ·rename_i q
  rw [q] at e
  have a:es.toList.any (·.refKey)=false:=by
   rw [List.any_eq_false]
   intro y hy
   obtain⟨z,t,hkey⟩:=hk y (Array.mem_toList_iff.mp hy)
   simp [DictEntry.refKey,hkey]
  have a':¬es.toList.any (·.refKey)=true:=by rw [a];exact Bool.false_ne_true
  rw [if_neg a']
  exact congrArg some e
theorem Nr.look {h:Heap} {x dx C:Addr} {mA:Str->Option Value} (I:Nr h x dx C mA):∃od,PySem.W.InstAt h x (PySem.W.instObj C dx) C (some od)/\∀name,PySem.W.lookIn name od=some (mA name):=
 let ⟨od,ho,hl⟩:=OJ I.ns
 ⟨od,⟨I.obj,rfl,rfl,ho⟩,hl⟩
section
variable {prog:Program} {w:World} {A:Around} {E:Value->Shared->Prop} {s:Shared} {K:PySem.W.Frag} {x dx C f:Addr} {mA:Str->Option Value} {name:Str} {v:Value}
theorem Ue {expr:Bool} {Q:Value->Shared->Prop} (X:K.In s.heap) (I:Nr s.heap x dx C mA) (hg:PySem.W.plainGet K C name=true) (hh:PySem.W.hasDictIn K C=true)
  (ha:PySem.W.findIn K (.ref C) name=some none) (hv:mA name=some v) (hv':PySem.W.handedIn v=true) (h:Q v { s with toks:=s.toks+1 }):
  wpAny (model prog w) A (getAttr (.ref x) name expr) Q E s:=by
 obtain⟨od,J,hl⟩:=I.look
 exact PySem.W.get_value X J (PySem.W.plainGet_of hg).1 (PySem.W.findObj_own hh ha rfl (by rw [hl,hv])) hv' h
theorem RN {pl:Sem Bool} {Q:Value×List Value->Shared->Prop} (X:K.In s.heap) (I:Nr s.heap x dx C mA) (hg:PySem.W.plainGet K C name=true)
  (hf:PySem.W.findIn K (.ref C) name=some (some (.ref f))) (ht:PySem.W.isFn K (.ref f)=true) (hv:mA name=none) (h:Q (.ref f,[.ref x]) s):
  wpAny (model prog w) A (getMethod (.ref x) name pl) Q E s:=by
 obtain⟨od,J,hl⟩:=I.look
 exact PySem.W.method_fn X J (PySem.W.plainGet_of hg).1 (PySem.W.plainGet_of hg).2 hf (beq_iff_eq.mp ht) (by show(PySem.W.lookIn name od).map (·.isSome)=some false;rw [hl,hv];rfl) h
theorem Va {ns:List Str} {Q:Unit->Shared->Prop} (X:K.In s.heap) (I:Nr s.heap x dx C mA)
  (hs:PySem.W.findIn K (.ref C) "__setattr__" =some (some (.builtin "object.__setattr__"))) (hp:PySem.W.plainOver K C=true) (ht:PySem.W.takerIn K C name=some none) (hh:PySem.W.hasDictIn K C=true)
  (hw:PySem.Within mA ns) (hsz:ns.length<=sizeLine)
  (h:∀h',Nr h' x dx C (fun y=>if y=name then some v else mA y)->Heap.SameBut dx s.heap h'->Q () { s with heap:=h',toks:=s.toks+2 }):
  wpAny (model prog w) A (setAttr (.ref x) name v) Q E s:=by
 obtain⟨od,J,hl⟩:=I.look
 refine PySem.W.set_plain X J hs (PySem.W.osa_open (s:={ s with toks:=s.toks+1 }) (r:=none) X J hp ht fun b=>?_)
 obtain⟨cd,hc,hd'⟩:=PySem.W.any_some hh
 have hx:s.heap.get? x=some ⟨.ref C,some dx,.plain,#[]⟩:=I.obj
 refine wpAny_bind (wpAny_pure (wpAny_bind (wpAny_bind (wpAny_loadPart hx (wpAny_bind (PySem.W.Looks.here (s:={ s with toks:=s.toks+1 }) (PySem.W.looks_clsIn X hc) ?_))))))
 rw [hd']
 refine wpAny_pure (a:=some dx) (wpAny_bind (wpAny_pure (wpAny_bind ?_)))
 refine wpAny_nsSet1 (s:={ s with toks:=s.toks+1 }) I.ns fun h' hn2 hs2=>?_
 obtain⟨oD,esD,epD,hoD,hdD,hcD⟩:=hn2.count (PySem.Within.cons name v hw)
 refine wpAny_bind (wpAny_lookBehind hoD (by rw [hdD];exact pastItsLine_dict (Nat.le_trans hcD (by rw [List.length_cons];omega))) ?_)
 exact wpAny_pure (h _ ⟨(hs2.2 _ (Ne.symm I.ne)).trans I.obj,hn2,I.ne⟩ hs2)
theorem Sd {R:Result->Shared->Prop} {vs:List Value} {kw:List (Str×Value)} (X:K.In s.heap) (hm:PySem.W.makesIn K C=true)
  (hi:PySem.W.findIn K (.ref C) "__init__" =some (some (.ref f))) (hf:PySem.W.typeIn K (.ref f)=some (.type "function"))
  (h:codeAny (model prog w) (A.under (.builtin "type.__call__" ⟨.ref C:: vs,kw⟩)) (.call (.ref f) ⟨.ref (s.heap.objs.size+1):: vs,kw⟩) (PySem.W.InitBack (s.heap.objs.size+1) R)
   { s with heap:=(s.heap.push PySem.W.emptyDict).push (PySem.W.instObj C s.heap.objs.size) }):
  codeAny (model prog w) A (.call (.ref C) ⟨vs,kw⟩) R s:=by
 obtain⟨hh,g,d,t,os⟩:=s
 exact PySem.W.make_core (PySem.W.makes_of X hm) (PySem.W.looks_findIn X hi) (fun self=>PySem.W.bind_fn X self hf) (.inl rfl) h
end
noncomputable def aK (f:Str) (v:V):List (Str×V)->List (Str×V)
 | []=>[(f,v)]
 | (g,x):: r=>if g=f then(g,v):: r else(g,x):: aK f v r
theorem aC (f g:Str) (v:V):∀fs:List (Str×V),(aK f v fs).lookup g=if g=f then some v else fs.lookup g
 | []=>by
  show List.lookup g [(f,v)]=_
  by_cases h:g=f
  ·have hb:(g == f)=true:=beq_iff_eq.mpr h
   simp only [List.lookup,hb,if_pos h]
  ·have hb:(g == f)=false:=beq_eq_false_iff_ne.mpr h
   simp only [List.lookup,hb,if_neg h]
 | (k,x):: r=>by
  have ih:=aC f g v r
  rw [show aK f v ((k,x):: r)=(if k=f then(k,v):: r else(k,x):: aK f v r) from rfl]
  by_cases hk:k=f
  ·rw [if_pos hk]
   by_cases h:g=k
   ·have hb:(g == k)=true:=beq_iff_eq.mpr h
    simp only [List.lookup,hb,if_pos (h.trans hk)]
   ·have hb:(g == k)=false:=beq_eq_false_iff_ne.mpr h
    simp only [List.lookup,hb,if_neg (fun e:g=f=>h (e.trans hk.symm))]
  ·rw [if_neg hk]
   by_cases h:g=k
   ·have hb:(g == k)=true:=beq_iff_eq.mpr h
    simp only [List.lookup,hb,if_neg (fun e:g=f=>hk (h.symm.trans e))]
   ·have hb:(g == k)=false:=beq_eq_false_iff_ne.mpr h
    simp only [List.lookup,hb]
    exact ih
theorem Ak (f:Str) (v:V):∀fs:List (Str×V),f∈(aK f v fs).map (·.1)/\∀g,g∈fs.map (·.1)->g∈(aK f v fs).map (·.1)
 | []=>⟨by simp [aK],fun g h=>by simp at h⟩
 | (k,x):: r=>by
  obtain⟨i1,i2⟩:=Ak f v r
  rw [show aK f v ((k,x):: r)=(if k=f then(k,v):: r else(k,x):: aK f v r) from rfl]
  by_cases hk:k=f
  ·rw [if_pos hk]
   subst hk
   exact⟨by simp,fun g h=>by simpa using h⟩
  ·rw [if_neg hk]
   refine⟨?_,fun g h=>?_⟩
   ·rw [List.map_cons]
    exact List.mem_cons_of_mem _ i1
   ·rw [List.map_cons] at h ⊢
    rcases List.mem_cons.mp h with e | e
    ·exact List.mem_cons.mpr (.inl e)
    ·exact List.mem_cons_of_mem _ (i2 g e)
theorem uX (f:Str) (v:V):∀fs:List (Str×V),(aK f v fs).length<=fs.length+1
 | []=>by simp [aK]
 | (k,x):: r=>by
  have ih:=uX f v r
  rw [show aK f v ((k,x):: r)=(if k=f then(k,v):: r else(k,x):: aK f v r) from rfl]
  by_cases hk:k=f
  ·rw [if_pos hk,List.length_cons,List.length_cons];omega
  ·rw [if_neg hk,List.length_cons,List.length_cons];omega
theorem uH.some_of {v:V} {o:Option Value} (r:uH (some v) o):∃u,o=some u/\RelV v u:=by
 cases o with
 | none=>exact(show False from r).elim
 | some u=>exact⟨u,rfl,r⟩
theorem uH.none_of {o:Option Value} (r:uH none o):o=none:=by
 cases o with
 | none=>rfl
 | some u=>exact(show False from r).elim
theorem PQ {v:V} {u:Value} (r:RelV v u):PySem.W.handedIn u=true:=by
 cases v with
 | non=>cases (show u=Value.none from r);rfl
 | bl b=>cases (show u=Value.bool b from r);rfl
 | int i=>obtain⟨t,e⟩:=(show ∃t,u=Value.int i t from r);cases e;rfl
 | str x=>obtain⟨t,e⟩:=(show ∃t,u=Value.str x t from r);cases e;rfl
 | byt b=>obtain⟨t,e⟩:=(show ∃t,u=Value.bytes b t from r);cases e;rfl
 | flt b=>obtain⟨t,e⟩:=(show ∃t,u=Value.float b t from r);cases e;rfl
 | ref a=>cases (show u=Value.ref a from r);rfl
 | ty n=>cases (show u=Value.type n from r);rfl
section
variable {P:Program} {w:World} {H H':Hp} {h h':Heap} {a C dx:Addr} {fs fs':List (Str×V)}
theorem JC (hok:wK P w H h) (e:H a=some (.ins C dx fs)):∃mA,Nr h a dx C mA/\(∀f,uH (fs.lookup f) (mA f))/\PySem.Within mA (fs.map (·.1))/\fs.length<=1000/\H dx=some (.own a):=by
 obtain⟨d,z,ne,ob,mA,n,r,q⟩:=(show fZ P w H h a (.ins C dx fs) from hok a _ e)
 exact⟨mA,⟨ob,n,ne⟩,r,q,z,d⟩
end
structure Qi (K:PySem.W.Frag) (C:Addr):Prop where
 pg:PySem.W.plainGet K C Str.empty=true
 hd:PySem.W.hasDictIn K C=true
 po:PySem.W.plainOver K C=true
 sa:PySem.W.findIn K (.ref C) "__setattr__" =some (some (.builtin "object.__setattr__"))
theorem Qi.get {K:PySem.W.Frag} {C:Addr} (c:Qi K C) (f:Str):PySem.W.plainGet K C f=true:=c.pg
noncomputable def p8 (K:PySem.W.Frag) (C:Addr) (f:Str):Prop:=PySem.W.findIn K (.ref C) f=some none
theorem p8.taker {K:PySem.W.Frag} {C:Addr} {f:Str} (n:p8 K C f):PySem.W.takerIn K C f=some none:=by
 unfold PySem.W.takerIn
 rw [show PySem.W.findIn K (.ref C) f=some none from n]
 rfl
structure Meth (K:PySem.W.Frag) (C:Addr) (m:Str) (f:Addr):Prop where
 at_:PySem.W.findIn K (.ref C) m=some (some (.ref f))
 fn:PySem.W.isFn K (.ref f)=true
 kp:PySem.W.keepIn K (.ref f)=true
section
variable {X:Cx} {pins:List (Addr×Obj)} {σ:St} {H:Hp} {s:Shared} {a C dx:Addr} {fs:List (Str×V)} {f:Str} {v:V} {A:Around} {E:Value->Shared->Prop}
theorem Ei {b:Bool} {Q:Value->Shared->Prop} (I:Inv X pins σ H s) (e:H a=some (.ins C dx fs)) (c:Qi X.K C) (n:p8 X.K C f) (l:fs.lookup f=some v)
  (h:∀u s',Inv X pins σ H s'->RelV v u->Q u s'):wpAny (model X.prog X.w) A (getAttr (.ref a) f b) Q E s:=by
 obtain⟨mA,O,r,_,_,_⟩:=JC I.hok e
 obtain⟨u,hu,ru⟩:=uH.some_of (v:=v) (o:=mA f) (by rw [<-l];exact r f)
 exact Ue I.kIn O (c.get f) c.hd n hu (PQ ru) (h u _ (I.tok _) ru)
theorem uw {m:Str} {g:Addr} {pl:Sem Bool} {Q:Value×List Value->Shared->Prop} (I:Inv X pins σ H s) (e:H a=some (.ins C dx fs)) (c:Qi X.K C) (k:Meth X.K C m g) (l:fs.lookup m=none)
  (h:Q (.ref g,[.ref a]) s):wpAny (model X.prog X.w) A (getMethod (.ref a) m pl) Q E s:=by
 obtain⟨mA,O,r,_,_,_⟩:=JC I.hok e
 have hn:mA m=none:=uH.none_of (by rw [<-l];exact r m)
 exact RN I.kIn O (c.get m) k.at_ k.fn hn h
theorem DQ {y:V} {u:Value} {Q:Unit->Shared->Prop} (I:Inv X pins σ H s) (e:H a=some (.ins C dx fs)) (c:Qi X.K C) (n:p8 X.K C f) (hl:fs.length <1000) (ry:RelV y u)
  (h:∀s',Inv X pins σ (upd H a (.ins C dx (aK f y fs))) s'->Q () s'):wpAny (model X.prog X.w) A (setAttr (.ref a) f u) Q E s:=by
 obtain⟨mA,O,r,wi,_,ho⟩:=JC I.hok e
 have hz:(fs.map (·.1)).length<=sizeLine:=by rw [List.length_map,sizeLine_eq];omega
 refine Va I.kIn O c.sa c.po n.taker c.hd wi hz fun h' O' sb=>h _ ?_
 have hd:∃o,h'.get? dx=some o:=let ⟨o,_,_,e',_⟩:=O'.ns;⟨o,e'⟩
 refine I.write (x:=a) (e:=dx) (by rw [e];exact True.intro) (.inr ho) (fun b q hb z=>(sb.2 b hb).trans z) hd ?_
 refine⟨by rw [aH O.ne];exact ho,?_,O.ne,O'.obj,_,O'.ns,fun g=>?_,fun g hg=>?_⟩
 ·have:=uX f y fs;omega
 ·show uH ((aK f y fs).lookup g) (if g=f then some u else mA g)
  rw [aC]
  by_cases q:g=f
  ·rw [if_pos q,if_pos q];exact ry
  ·rw [if_neg q,if_neg q];exact r g
 ·by_cases q:g=f
  ·rw [q];exact(Ak f y fs).1
  ·refine(Ak f y fs).2 g (wi g fun z=>hg ?_)
   show(if g=f then some u else mA g)=none
   rw [if_neg q];exact z
theorem Inv.made (I:Inv X pins σ H s):Inv X pins σ (upd (upd H s.heap.objs.size (.own (s.heap.objs.size+1))) (s.heap.objs.size+1) (.ins C s.heap.objs.size []))
  { s with heap:=(s.heap.push PySem.W.emptyDict).push (PySem.W.instObj C s.heap.objs.size) }:=by
 have e1:(s.heap.push PySem.W.emptyDict).get? s.heap.objs.size=some PySem.W.emptyDict:=Heap.get?_push_size s.heap rfl
 have e2:((s.heap.push PySem.W.emptyDict).push (PySem.W.instObj C s.heap.objs.size)).get? (s.heap.objs.size+1)=some (PySem.W.instObj C s.heap.objs.size):=by
  have:=Heap.get?_push_size (s.heap.push PySem.W.emptyDict) (o:=PySem.W.instObj C s.heap.objs.size) rfl
  rwa [Heap.size_push] at this
 have e3:(s.heap.push PySem.W.emptyDict).Ns s.heap.objs.size (fun _=>none):=⟨PySem.W.emptyDict,#[],_,e1,rfl,(fun e he=>absurd he (by simp)),fun _=>rfl⟩
 have I1:=I.laid (a:=s.heap.objs.size) (o:=.own (s.heap.objs.size+1)) (h':=s.heap.push PySem.W.emptyDict) (t':=s.toks) (fun b u q=>Heap.get?_push_of_some _ q) (Nat.le_refl _) ⟨_,e1⟩
 refine I1.laid (a:=s.heap.objs.size+1) (o:=.ins C s.heap.objs.size []) (t':=s.toks) (fun b u q=>Heap.get?_push_of_some _ q) (Nat.le_of_eq (Heap.size_push _ _)) ?_
 have ne:s.heap.objs.size≠s.heap.objs.size+1:=Nat.ne_of_lt (Nat.lt_succ_self _)
 refine⟨by rw [aH ne,ao],Nat.zero_le _,ne,e2,fun _=>none,(Heap.Ns1.of_empty e3).at fun o q=>Heap.get?_push_of_some _ q,fun _=>True.intro,fun y hy=>absurd rfl hy⟩
theorem Tu {prog:Program} {w:World} {env:Env} {e:Expr} {f:Str} {pos:Pos} {s:Shared} {Q:Value->Shared->Prop} (hb:attributeBase e f env (eval e env)=eval e env)
  (h:wpAny (model prog w) A (eval e env) (fun o s₁=>wpAny (model prog w) A (getAttr o f true) Q E s₁) E s):wpAny (model prog w) A (eval (.Attribute e f pos) env) Q E s:=
 Attribute_any_ h (by rw [arm_eval_Attribute,hb])
end
inductive Vg (K:PySem.W.Frag) (f:Str) (Q:VK) (x:V) (H1:Hp):Prop where
 | mk:∀a C dx fs v,x=.ref a->H1 a=some (.ins C dx fs)->Qi K C->p8 K C f->fs.lookup f=some v->Q v H1->Vg K f Q x H1
noncomputable def YF (K:PySem.W.Frag) (ta:TE) (f:Str):TE:=fun σ H Q=>ta σ H fun x H1=>Vg K f Q x H1
inductive V0 (K:PySem.W.Frag) (f:Str) (D:Ends) (σ:St) (y:V) (x:V) (H2:Hp):Prop where
 | mk:∀a C dx fs,x=.ref a->H2 a=some (.ins C dx fs)->Qi K C->p8 K C f->fs.length <1000->D.nx σ (upd H2 a (.ins C dx (aK f y fs)))->V0 K f D σ y x H2
noncomputable def Ze (K:PySem.W.Frag) (ta tv:TE) (f:Str):TS:=fun D σ H=>tv σ H fun y H1=>ta σ H1 fun x H2=>V0 K f D σ y x H2
noncomputable def Yl (X:Cx) (op:Operator) (rd:V->V->Hp->VK->Prop):Prop:=
 ∀(pins:List (Addr×Obj)) (s:Shared) (σ:St) (H:Hp) (x y:V) (u v:Value) (Q:VK),Inv X pins σ H s->RelV x u->RelV y v->rd x y H Q->wpAny (model X.prog X.w) X.A (inplaceOp op u v) (EP X pins σ Q) X.xe s
inductive Ko (K:PySem.W.Frag) (tv:TE) (rd:V->V->Hp->VK->Prop) (f:Str) (D:Ends) (σ:St) (x:V) (H1:Hp):Prop where
 | mk:∀a C dx fs v,x=.ref a->H1 a=some (.ins C dx fs)->Qi K C->p8 K C f->fs.lookup f=some v->(tv σ H1 fun y H2=>rd v y H2 fun z H3=>∃dx' fs',H3 a=some (.ins C dx' fs')/\fs'.length <1000/\D.nx σ (upd H3 a (.ins C dx' (aK f z fs'))))->Ko K tv rd f D σ x H1
noncomputable def Ui (K:PySem.W.Frag) (ta tv:TE) (rd:V->V->Hp->VK->Prop) (f:Str):TS:=fun D σ H=>ta σ H fun x H1=>Ko K tv rd f D σ x H1
section
variable {X:Cx} {o e value:Expr} {f:Str} {pos pos' tpos:Pos} {ta tv:TE}
theorem aQ (he:PE X e ta) (hb:attributeBase e f X.env (eval e X.env)=eval e X.env):PE X (.Attribute e f pos) (YF X.K ta f):=by
 intro pins s σ H Q I h
 refine Tu hb (eX (he pins s σ H _ I h) fun u s1 hpt=>?_)
 obtain⟨x,H1,I1,rx,a,C,dx,fs,v,ex,ea,c,n,l,q⟩:=hpt
 subst ex
 obtain rfl:u=Value.ref a:=rx
 exact Ei I1 ea c n l fun u' s2 I2 ru=>⟨v,H1,I2,ru,q⟩
theorem jq (ha:PE X o ta) (hv:PE X value tv) (hs:swapsWith value (some (.Attribute o f pos')) pos.line X.env=pure false):PS X (.Assign [.Attribute o f pos'] value pos) (Ze X.K ta tv f):=by
 intro pins s σ H D I h
 refine plainObj_wpAny_Assign_Attribute (eX (hv pins s σ H _ I h) fun u s1 ⟨y,H1,I1,ry,q⟩=>eX (ha pins s1 σ H1 _ I1 q) fun ov s2 hpt=>?_) hs
 obtain⟨x,H2,I2,rx,a,C,dx,fs,ex,ea,c,n,l,q2⟩:=hpt
 subst ex
 obtain rfl:ov=Value.ref a:=rx
 exact DQ I2 ea c n l ry fun s3 I3=>⟨σ,_,I3,q2⟩
theorem Qa {op:Operator} {rd:V->V->Hp->VK->Prop} (ha:PE X o ta) (hv:PE X value tv) (hop:Yl X op rd):PS X (.AugAssign (.Attribute o f tpos) op value pos) (Ui X.K ta tv rd f):=by
 intro pins s σ H D I h
 refine wpAny_AugAssign_AttributeAny (eX (ha pins s σ H _ I h) fun ov s1 hpt=>?_)
 obtain⟨x,H1,I1,rx,a,C,dx,fs,v,ex,ea,c,n,l,q⟩:=hpt
 subst ex
 obtain rfl:ov=Value.ref a:=rx
 refine Ei I1 ea c n l fun u s2 I2 ru=>eX (hv pins s2 σ H1 _ I2 q) fun w3 s3 ⟨y,H2,I3,ry,q3⟩=>eX (hop pins s3 σ H2 v y u w3 _ I3 ru ry q3) fun w4 s4 hpt=>?_
 obtain⟨z,H3,I4,rz,dx',fs',ea',l',q4⟩:=hpt
 exact DQ I4 ea' c n l' rz fun s5 I5=>⟨σ,_,I5,q4⟩
end
section
variable {X:Cx} {pins:List (Addr×Obj)} {σ:St} {H:Hp} {s:Shared} {A:Around} {E:Value->Shared->Prop} {Q:Value->Shared->Prop} {c:Value} {b:Bool}
end
structure jM (k:Nat) (A:Around):Prop where
 hd:A.handled=none
 dp:A.depth+3 * k+5 <recursionLimit
 un:A.units+16 * k+200 <cLine
theorem jM.mono {j k:Nat} {A:Around} (r:jM k A) (h:j<=k):jM j A:=⟨r.hd,by have:=r.dp;omega,by have:=r.un;omega⟩
theorem jM.deeper {k:Nat} {A:Around} (r:jM (k+1) A) (env:Env):jM k (A.deeper env):=
 ⟨r.hd,by have:=r.dp;show A.depth+1+3 * k+5 <_;omega,by have:=r.un;show A.units+3+16 * k+200 <_;omega⟩
theorem Mf {A:Around} {C:Addr} {us:List Value} {kw:List (Str×Value)}:(A.under (.builtin "type.__call__" ⟨.ref C:: us,kw⟩)).depth=A.depth+1:=by
 first | rfl | simp [Around.under,Code.weight,Code.isCreation,Code.isGuard,Code.isCaller,Code.frames,Code.isFrame,guardIds]
theorem Ng {A:Around} {C:Addr} {us:List Value} {kw:List (Str×Value)}:(A.under (.builtin "type.__call__" ⟨.ref C:: us,kw⟩)).units=A.units+1:=by
 first | rfl | simp [Around.under,Code.cUnits,Code.frames,Code.isFrame]
theorem jM.make {k:Nat} {A:Around} (r:jM (k+1) A) (C:Addr) (us:List Value) (kw:List (Str×Value)):jM k (A.under (.builtin "type.__call__" ⟨.ref C:: us,kw⟩)):=
 ⟨r.hd,by have:=r.dp;rw [Mf];omega,by have:=r.un;rw [Ng];omega⟩
theorem jM.depth {k:Nat} {A:Around} (r:jM k A):A.depth <recursionLimit:=by have:=r.dp;omega
theorem jM.units {k:Nat} {A:Around} (r:jM k A):A.units+64 <cLine:=by have:=r.un;omega
noncomputable def Qw:TA:=fun _ H Q=>Q [] H
noncomputable def X4 (ta:TE) (tr:TA):TA:=fun σ H Q=>ta σ H fun x H1=>tr σ H1 fun xs H2=>Q (x:: xs) H2
section
variable {X:Cx} {e:Expr} {es:List Expr} {te:TE} {t:TA} {pos:Pos}
theorem ak:PA X [] Qw:=fun _ _ _ _ H Q I h=>Calls.spliced_nil ⟨[],H,I,.nil,h⟩
theorem aa (ha:PE X e te) (hr:PA X es t) (hs:starEach (e:: es) X.env=(false,eval e X.env):: starEach es X.env:=by rfl):PA X (e:: es) (X4 te t):=by
 intro pos pins s σ H Q I h
 rw [hs]
 show wpAny _ _ (spliced ((false,eval e X.env):: backTo pos (starEach es X.env))) _ _ s
 refine Calls.spliced_cons (eX (ha pins s σ H _ I h) fun u s1 hpt=>?_)
 obtain⟨x,H1,I1,r1,q1⟩:=hpt
 exact eX (hr pos pins s1 σ H1 _ I1 q1) fun us s2 ⟨xs,H2,I2,r2,q2⟩=>⟨x:: xs,H2,I2,.cons r1 r2,q2⟩
noncomputable def Zm (t:TA):TE:=fun σ H Q=>t σ H fun xs H1=>xs.length<=sizeLine/\∀p,H1 p=none->Q (.ref p) (upd H1 p (.tup xs))
noncomputable def Zq (t:TA):TE:=fun σ H Q=>t σ H fun xs H1=>xs.length<=sizeLine/\∀p,H1 p=none->Q (.ref p) (upd H1 p (.lst xs))
theorem cB {x1} (h:PA X es t):PE X (.Tuple es x1 pos) (Zm t):=by
 intro pins s σ H Q I hq
 refine wpAny_Tuple_spliced (eX (h pos pins s σ H _ I hq) fun us s1 ⟨xs,H1,I1,r,z,q⟩=>⟨by rw [<-r.length];exact z,?_⟩)
 have hf:H1 s1.heap.objs.size=none:=I1.hok.fresh (Nat.le_refl _)
 refine⟨.ref s1.heap.objs.size,upd H1 s1.heap.objs.size (.tup xs),I1.laid (t':=s1.toks) (fun b u e=>Heap.get?_push_of_some _ e) (Nat.le_refl _) ?_,rfl,q _ hf⟩
 exact⟨z,us,r,⟨_,Heap.get?_push_size _ rfl,rfl,_,rfl⟩⟩
theorem bM (h:PA X es t):PE X (.List es pos) (Zq t):=by
 intro pins s σ H Q I hq
 refine wpAny_List_spliced (eX (h pos pins s σ H _ I hq) fun us s1 ⟨xs,H1,I1,r,z,q⟩=>⟨by rw [<-r.length];exact z,?_⟩)
 have hf:H1 s1.heap.objs.size=none:=I1.hok.fresh (Nat.le_refl _)
 refine⟨.ref s1.heap.objs.size,upd H1 s1.heap.objs.size (.lst xs),I1.laid (t':=s1.toks) (fun b u e=>Heap.get?_push_of_some _ e) (Nat.le_refl _) ?_,rfl,q _ hf⟩
 exact⟨z,us,0,r,Heap.get?_push_size _ rfl⟩
end
noncomputable abbrev Sp:=List V->Hp->VK->XK->Prop
noncomputable abbrev Hu:=List Env->Hp->Shared->XK->Value->Shared->Prop
structure Mp (P:Program) (w:World) (K:PySem.W.Frag) (mg:Str->Option Value) (base:Heap) (A:Around) (outer:List Env) (s:Shared) (H:Hp):Prop where
 frames:A.frames=some outer
 mod:Mod K mg base
 bs:∀b o,base.get? b=some o->s.heap.get? b=some o/\H b=none
 bsz:base.objs.size<=s.heap.objs.size
 funs:s.heap.FunFrames base outer
 frf:∀b∈frs outer,H b=none
 hok:wK P w H s.heap
 bare:AllBare s.gens
noncomputable def CE (outer:List Env) (P:Program) (w:World) (H:Hp) (s:Shared) (Q:VK) (u:Value) (s':Shared):Prop:=
 ∃v H',s'.os=s.os/\AllBare s'.gens/\Un (frs outer) [] H H' s.heap s'.heap/\wK P w H' s'.heap/\RelV v u/\Q v H'
noncomputable def CR (CX:Hu) (outer:List Env) (P:Program) (w:World) (H:Hp) (s:Shared) (Q:VK) (E:XK) (r:Result) (s':Shared):Prop:=
 match r with
 | .ok (.ret u)=>CE outer P w H s Q u s'
 | .ok _=>False
 | .error e=>CX outer H s E e s'
structure jB (P:Program) (w:World) (K:PySem.W.Frag) (mg:Str->Option Value) (base:Heap) (CX:Hu) (k:Nat) (f:Addr) (fd:FuncData) (ps:List Str) (sp:Sp):Prop where
 len:∀vs H Q E,sp vs H Q E->vs.length=ps.length
 run:∀(A:Around) (outer:List Env) (s:Shared) (H:Hp) (args:Args) (us:List Value) (vs:List V) (Q:VK) (E:XK),jM k A->Mp P w K mg base A outer s H->BindsTo s fd args (ps.zip us)->Vals vs us->sp vs H Q E->
  codeAny (model P w) A (.call (.ref f) args) (CR CX outer P w H s Q E) s
theorem jB.mono {P:Program} {w:World} {K:PySem.W.Frag} {mg:Str->Option Value} {base:Heap} {CX:Hu} {j k:Nat} {f:Addr} {fd:FuncData} {ps:List Str} {sp:Sp} (F:jB P w K mg base CX j f fd ps sp) (h:j<=k):
  jB P w K mg base CX k f fd ps sp:=⟨F.len,fun A outer s H args us vs Q E hr=>F.run A outer s H args us vs Q E (hr.mono h)⟩
theorem jB.imp {P:Program} {w:World} {K:PySem.W.Frag} {mg:Str->Option Value} {base:Heap} {CX:Hu} {k:Nat} {f:Addr} {fd:FuncData} {ps:List Str} {sp sp':Sp} (F:jB P w K mg base CX k f fd ps sp)
  (h:∀vs H Q E,sp' vs H Q E->sp vs H Q E):jB P w K mg base CX k f fd ps sp':=
 ⟨fun vs H Q E q=>F.len vs H Q E (h _ _ _ _ q),fun A outer s H args us vs Q E hr he hb hv hs=>F.run A outer s H args us vs Q E hr he hb hv (h _ _ _ _ hs)⟩
theorem Mp.make {P:Program} {w:World} {K:PySem.W.Frag} {mg:Str->Option Value} {base:Heap} {A:Around} {outer:List Env} {s:Shared} {H:Hp} (e:Mp P w K mg base A outer s H) (C:Addr) (us:List Value) (kw:List (Str×Value)):
  Mp P w K mg base (A.under (.builtin "type.__call__" ⟨.ref C:: us,kw⟩)) outer s H:=⟨by first | exact e.frames | (simpa [Around.under,Code.envs,Code.isFrame,pushEnvs] using e.frames),e.mod,e.bs,e.bsz,e.funs,e.frf,e.hok,e.bare⟩
section
variable {X:Cx} {pins:List (Addr×Obj)} {σ:St} {H:Hp} {s s':Shared}
theorem Inv.env0 (I:Inv X pins σ H s):Mp X.prog X.w X.K X.mg X.base X.A X.stack s H:=
 ⟨I.ok.frames,I.ok.mod,I.bs,Nat.le_trans I.ok.bsz I.sz,I.stack,I.stkFree,I.hok,I.bare⟩
theorem Inv.after {Q:VK} {u:Value} (I:Inv X pins σ H s) (h:CE X.stack X.prog X.w H s Q u s'):EP X pins σ Q u s':=by
 obtain⟨v,H',os,bare,un,hok,r,q⟩:=h
 obtain⟨hh,g,d,t,os'⟩:=s'
 obtain rfl:os'=s.os:=os
 exact⟨v,H',I.call (h':=hh) (g':=g) (d':=d) (t':=t) (ch:=[]) un hok bare (fun b z=>absurd z (by simp)),r,q⟩
end
noncomputable def VH (sp:Sp) (dvs:List V) (E:XK) (t:TA):TE:=fun σ H Q=>t σ H fun vs H1=>sp (vs ++ dvs) H1 Q E
inductive Rv (C:Addr) (m:Str) (sp:Sp) (dvs:List V) (E:XK) (t:TA) (σ:St) (Q:VK) (x:V) (H1:Hp):Prop where
 | mk:∀a dx fs,x=.ref a->H1 a=some (.ins C dx fs)->fs.lookup m=none->(t σ H1 fun vs H2=>sp (x:: (vs ++ dvs)) H2 Q E)->Rv C m sp dvs E t σ Q x H1
noncomputable def Ou (C:Addr) (m:Str) (sp:Sp) (dvs:List V) (E:XK) (ta:TE) (t:TA):TE:=fun σ H Q=>ta σ H fun x H1=>Rv C m sp dvs E t σ Q x H1
noncomputable def X7 (C:Addr) (sp:Sp) (dvs:List V) (E:XK) (t:TA):TE:=fun σ H Q=>t σ H fun vs H1=>∀x dx,H1 x=none->H1 dx=none->dx≠x->
 sp (.ref x:: (vs ++ dvs)) (upd (upd H1 dx (.own x)) x (.ins C dx [])) (fun v H2=>v=.non/\Q (.ref x) H2) E
noncomputable def Binds (K:PySem.W.Frag) (fd:FuncData) (ps:List Str) (ds:List Value):Prop:=
 ∀(s:Shared) (us:List Value),K.In s.heap->(us ++ ds).length=ps.length->BindsTo s fd ⟨us,[]⟩ (ps.zip (us ++ ds))
theorem Binds.all {K:PySem.W.Frag} {fd:FuncData} {ps:List Str} (h:∀us:List Value,us.length=ps.length->bindArgs fd ⟨us,[]⟩=pure (ps.zip us)):Binds K fd ps []:=fun s us _ hl=>by
 rw [List.append_nil] at hl ⊢
 exact .of_eq (h us hl)
noncomputable def rR (CX:Hu) (X:Cx) (E:XK):Prop:=∀(pins:List (Addr×Obj)) (σ:St) (H:Hp) (s:Shared) (e:Value) (s':Shared),Inv X pins σ H s->CX X.stack H s E e s'->X.xe e s'
section
variable {X:Cx} {CX:Hu} {k:Nat} {f C:Addr} {fd:FuncData} {ps:List Str} {sp:Sp} {dvs:List V} {ds:List Value} {E:XK} {x m:Str} {p pos apos:Pos} {e o:Expr} {es:List Expr} {ta:TE} {t:TA}
theorem DX {pins:List (Addr×Obj)} {σ:St} {H:Hp} {s:Shared} {Q:VK} {us:List Value} {vs:List V} (F:jB X.prog X.w X.K X.mg X.base CX k f fd ps sp) (hr:jM k X.A) (hb:Binds X.K fd ps ds) (hd:Vals dvs ds) (hx:rR CX X E)
  (I:Inv X pins σ H s) (r:Vals vs us) (h:sp (vs ++ dvs) H Q E):wpAny (model X.prog X.w) X.A (call (.ref f) us) (EP X pins σ Q) X.xe s:=by
 have r2:Vals (vs ++ dvs) (us ++ ds):=r.append hd
 have hl:(us ++ ds).length=ps.length:=by rw [<-r2.length];exact F.len _ _ _ _ h
 refine wpAny_call (codeAny_mono (F.run X.A X.stack s H ⟨us,[]⟩ (us ++ ds) (vs ++ dvs) Q E hr I.env0 (hb s us I.kIn hl) r2 h) fun r s' hq=>?_)
 cases r with
 | error e=>exact hx pins σ H s e s' I hq
 | ok fl=>
  cases fl with
  | ret u=>exact I.after hq
  | next=>exact False.elim hq
  | brk=>exact False.elim hq
  | cont=>exact False.elim hq
theorem U8 (F:jB X.prog X.w X.K X.mg X.base CX k f fd ps sp) (hr:jM k X.A) (hg:Gl X x) (hm:X.mg x=some (.ref f)) (hk:PySem.W.keepIn X.K (.ref f)=true) (hb:Binds X.K fd ps ds) (hd:Vals dvs ds) (hx:rR CX X E)
  (ha:PA X (e:: es) t) (hdb:(x == ("__debug__" :Str))=false:=by decide) (he:starEach (e:: es) X.env=(false,eval e X.env):: starEach es X.env:=by rfl) (hpl:(backTo pos (starEach es X.env)).any (·.1)=false:=by rfl):
  PE X (.Call (.Name x p) (e:: es) [] pos) (VH sp dvs E t):=by
 intro pins s σ H Q I h
 refine wpAny_Call_Name_kw (Ij I hg hm ?_ hdb)
 refine PySem.W.callWith_K (h₀:=X.base) I.ok.mod.kin hk (eX (ha pos pins s σ H _ I h) fun us s1 ⟨vs,H1,I1,r,q⟩=>⟨I1.kIn,?_⟩) he hpl
 exact DX F hr hb hd hx I1 r q
theorem Cy {pl:Sem Bool} (he:PE X o ta) (c:Qi X.K C) (hm:Meth X.K C m f) (F:jB X.prog X.w X.K X.mg X.base CX k f fd ps sp) (hr:jM k X.A) (hb:Binds X.K fd ps ds) (hd:Vals dvs ds) (hx:rR CX X E) (ha:PA X (e:: es) t)
  (hst:starEach (e:: es) X.env=(false,eval e X.env):: starEach es X.env:=by rfl) (hpl:(backTo pos (starEach es X.env)).any (·.1)=false:=by rfl)
  (ht:eval (.Call (.Attribute o m apos) (e:: es) [] pos) X.env=(do
   let ov <-eval o X.env
   standAt apos.atName
   let (f,first) <-holding [ov] (getMethod ov m pl)
   callWith pos f first (backTo pos (starEach (e:: es) X.env)) (backToKw pos (keywordEach [] X.env))):=by rfl):
  PE X (.Call (.Attribute o m apos) (e:: es) [] pos) (Ou C m sp dvs E ta t):=by
 intro pins s σ H Q I h
 refine PySem.W.methodCall_KW (pl:=pl) (eX (he pins s σ H _ I h) fun u s1 hpt=>?_) ht
 obtain⟨x,H1,I1,rx,a,dx,fs,ex,ea,l,q⟩:=hpt
 subst ex
 obtain rfl:u=Value.ref a:=rx
 refine uw I1 ea c hm l ?_
 refine PySem.W.callWith_K (first:=[.ref a]) (h₀:=X.base) I.ok.mod.kin hm.kp (eX (ha pos pins s1 σ H1 _ I1 q) fun us s2 ⟨vs,H2,I2,r,q2⟩=>⟨I2.kIn,?_⟩) hst hpl
 exact DX (us:=.ref a:: us) (vs:=.ref a:: vs) F hr hb hd hx I2 (.cons rfl r) q2
theorem Rh {pl:Sem Bool} (he:PE X o ta) (c:Qi X.K C) (hm:Meth X.K C m f) (F:jB X.prog X.w X.K X.mg X.base CX k f fd ps sp) (hr:jM k X.A) (hb:Binds X.K fd ps ds) (hd:Vals dvs ds) (hx:rR CX X E)
  (ht:eval (.Call (.Attribute o m apos) [] [] pos) X.env=(do
   let ov <-eval o X.env
   standAt apos.atName
   let (f,first) <-holding [ov] (getMethod ov m pl)
   callWith pos f first (backTo pos (starEach [] X.env)) (backToKw pos (keywordEach [] X.env))):=by rfl):
  PE X (.Call (.Attribute o m apos) [] [] pos) (Ou C m sp dvs E ta Qw):=by
 intro pins s σ H Q I h
 refine PySem.W.methodCall_KW (pl:=pl) (eX (he pins s σ H _ I h) fun u s1 hpt=>?_) ht
 obtain⟨x,H1,I1,rx,a,dx,fs,ex,ea,l,q⟩:=hpt
 subst ex
 obtain rfl:u=Value.ref a:=rx
 refine uw I1 ea c hm l ?_
 exact PySem.W.callWith_K0 (first:=[.ref a]) I1.kIn hm.kp (DX (us:=[.ref a]) (vs:=[.ref a]) F hr hb hd hx I1 (.cons rfl .nil) q)
structure Mk (K:PySem.W.Frag) (C f:Addr):Prop where
 makes:PySem.W.makesIn K C=true
 init:PySem.W.findIn K (.ref C) "__init__" =some (some (.ref f))
 fn:PySem.W.isFn K (.ref f)=true
 kp:PySem.W.keepIn K (.ref C)=true
theorem RK {pins:List (Addr×Obj)} {σ:St} {H:Hp} {s:Shared} {Q:VK} {us:List Value} {vs:List V} (M:Mk X.K C f) (F:jB X.prog X.w X.K X.mg X.base CX k f fd ps sp) (hr:jM (k+1) X.A) (hb:Binds X.K fd ps ds) (hd:Vals dvs ds)
  (hx:rR CX X E) (I:Inv X pins σ H s) (r:Vals vs us)
  (h:∀x dx,H x=none->H dx=none->dx≠x->sp (.ref x:: (vs ++ dvs)) (upd (upd H dx (.own x)) x (.ins C dx [])) (fun v H2=>v=.non/\Q (.ref x) H2) E):
  wpAny (model X.prog X.w) X.A (call (.ref C) us) (EP X pins σ Q) X.xe s:=by
 have hq:=h (s.heap.objs.size+1) s.heap.objs.size (I.hok.fresh (Nat.le_succ _)) (I.hok.fresh (Nat.le_refl _)) (Nat.ne_of_lt (Nat.lt_succ_self _))
 have I2:=Inv.made (C:=C) I
 have r2:Vals (V.ref (s.heap.objs.size+1):: (vs ++ dvs)) (Value.ref (s.heap.objs.size+1):: (us ++ ds)):=.cons rfl (r.append hd)
 have hl:(Value.ref (s.heap.objs.size+1):: us ++ ds).length=ps.length:=by
  have e:=r2.length
  rw [F.len _ _ _ _ hq] at e
  exact e.symm
 refine wpAny_call (Sd (f:=f) I.kIn M.makes M.init (beq_iff_eq.mp M.fn) (codeAny_mono (F.run _ X.stack _ _ ⟨Value.ref (s.heap.objs.size+1):: us,[]⟩ (Value.ref (s.heap.objs.size+1):: (us ++ ds)) _ _ E (hr.make C us [])
  (I2.env0.make C us []) (hb _ (Value.ref (s.heap.objs.size+1):: us) I2.kIn hl) r2 hq) fun r s' hq'=>?_))
 cases r with
 | error e=>exact hx pins σ _ _ e s' I2 hq'
 | ok fl=>
  cases fl with
  | ret u=>
   obtain⟨v,H',I3,rv,ev,q3⟩:=I2.after hq'
   subst ev
   exact⟨rv,⟨V.ref (s.heap.objs.size+1),H',I3,rfl,q3⟩⟩
  | next=>exact False.elim hq'
  | brk=>exact False.elim hq'
  | cont=>exact False.elim hq'
theorem gj (M:Mk X.K C f) (F:jB X.prog X.w X.K X.mg X.base CX k f fd ps sp) (hr:jM (k+1) X.A) (hg:Gl X x) (hm:X.mg x=some (.ref C)) (hb:Binds X.K fd ps ds) (hd:Vals dvs ds) (hx:rR CX X E)
  (ha:PA X (e:: es) t) (hdb:(x == ("__debug__" :Str))=false:=by decide) (he:starEach (e:: es) X.env=(false,eval e X.env):: starEach es X.env:=by rfl) (hpl:(backTo pos (starEach es X.env)).any (·.1)=false:=by rfl):
  PE X (.Call (.Name x p) (e:: es) [] pos) (X7 C sp dvs E t):=by
 intro pins s σ H Q I h
 refine wpAny_Call_Name_kw (Ij I hg hm ?_ hdb)
 refine PySem.W.callWith_K (h₀:=X.base) I.ok.mod.kin M.kp (eX (ha pos pins s σ H _ I h) fun us s1 ⟨vs,H1,I1,r,q⟩=>⟨I1.kIn,?_⟩) he hpl
 exact RK M F hr hb hd hx I1 r q
end
section
variable {X:Cx} {CX:Hu} {k:Nat} {f C:Addr} {fd:FuncData} {ps ks:List Str} {sp:Sp} {E:XK} {x m:Str} {p pos apos kpos:Pos} {e o:Expr} {es:List Expr} {kws:List Keyword} {te ta:TE} {t tk:TA} {nm:Option Str}
variable {g:List Value->List Value->List Value} {gV:List V->List V->List V}
end
structure gm (N P:List Str) (sc:Scope):Prop where
 kind:sc.kind=.function
 co:sc.isCoroutine=false
 gen:sc.isGenerator=false
 nd:N.Nodup
 pre:N.take P.length=P
 par:∀x∈P,sc.names.lookup x=some .local∨sc.names.lookup x=some .cell
 nofree:∀y∈sc.names,y.2≠.free
theorem G8 {kindOf:Str->Option NameKind} {x:Str}:∀{binds:List (Str×Value)} {m:Str->Option Value},(∀v,(x,v)∉binds)->bindL kindOf binds m x=m x
 | [],_,_=>rfl
 | (n,v):: r,m,h=>by
  unfold bindL
  rw [G8 fun w hw=>h w (List.mem_cons_of_mem _ hw)]
  split
  ·have:x≠n:=by rintro rfl;exact h v List.mem_cons_self
   simp [this]
  ·rfl
theorem Gq {kindOf:Str->Option NameKind} {x:Str}:∀{binds:List (Str×Value)} {m:Str->Option Value},(∀v,(x,v)∉binds)->bindC kindOf binds m x=m x
 | [],_,_=>rfl
 | (n,v):: r,m,h=>by
  unfold bindC
  rw [Gq fun w hw=>h w (List.mem_cons_of_mem _ hw)]
  split
  ·rfl
  ·have:x≠n:=by rintro rfl;exact h v List.mem_cons_self
   simp [this]
theorem Gw {kindOf:Str->Option NameKind} {x:Str} {v:Value}:∀{P:List Str} {vs:List Value} {i:Nat} {m:Str->Option Value},P.Nodup->P[i]?=some x->vs[i]?=some v->kindOf x=some .local->
  bindL kindOf (P.zip vs) m x=some v
 | [],_,_,_,_,h,_,_=>by simp at h
 | _:: _,[],_,_,_,_,h,_=>by simp at h
 | p:: P,w:: vs,0,m,nd,h1,h2,hk=>by
  simp at h1 h2;subst h1;subst h2
  show bindL kindOf ((p,w):: P.zip vs) m p=_
  unfold bindL
  rw [G8 fun v hv=>(List.nodup_cons.mp nd).1 (List.of_mem_zip hv).1,if_pos hk]
  simp
 | p:: P,w:: vs,i+1,m,nd,h1,h2,hk=>by
  show bindL kindOf ((p,w):: P.zip vs) m x=_
  unfold bindL
  exact Gw (i:=i) (List.nodup_cons.mp nd).2 (by simpa using h1) (by simpa using h2) hk
theorem Gy {kindOf:Str->Option NameKind} {x:Str} {v:Value}:∀{P:List Str} {vs:List Value} {i:Nat} {m:Str->Option Value},P.Nodup->P[i]?=some x->vs[i]?=some v->kindOf x≠some .local->
  bindC kindOf (P.zip vs) m x=some v
 | [],_,_,_,_,h,_,_=>by simp at h
 | _:: _,[],_,_,_,_,h,_=>by simp at h
 | p:: P,w:: vs,0,m,nd,h1,h2,hk=>by
  simp at h1 h2;subst h1;subst h2
  show bindC kindOf ((p,w):: P.zip vs) m p=_
  unfold bindC
  rw [Gq fun v hv=>(List.nodup_cons.mp nd).1 (List.of_mem_zip hv).1,if_neg hk]
  simp
 | p:: P,w:: vs,i+1,m,nd,h1,h2,hk=>by
  show bindC kindOf ((p,w):: P.zip vs) m x=_
  unfold bindC
  exact Gy (i:=i) (List.nodup_cons.mp nd).2 (by simpa using h1) (by simpa using h2) hk
noncomputable def start (N:List Str) (vs:List V):St:=vs.map some ++ List.replicate (N.length - vs.length) none
noncomputable def Ni (CX:Hu) (P:Program) (w:World) (K:PySem.W.Frag) (mg:Str->Option Value) (base:Heap) (N:List Str) (qual:Str) (scope:Scope) (f:Addr) (cd:Value) (A:Around) (outer:List Env) (s:Shared) (H:Hp) (E:XK):Cx where
 prog:=P
 w:=w
 K:=K
 mg:=mg
 base:=base
 A:=A.deeper (envOfC qual scope s.heap.objs.size f cd)
 N:=N
 s₀:=s
 H₀:=H
 env:=envOfC qual scope s.heap.objs.size f cd
 outer:=outer
 stack:=envOfC qual scope s.heap.objs.size f cd:: outer
 ex:=[]
 calm:=true
 fn:=fun _=>true
 pn:=[]
 xe:=fun e s'=>wpAny (model P w) (A.deeper (envOfC qual scope s.heap.objs.size f cd)) (leaving (envOfC qual scope s.heap.objs.size f cd) e) (fun _ s''=>CX outer H s E e s'') (fun e' s''=>CX outer H s E e' s'') s'
theorem J1 {sc:Scope} {n:Nat} {x:Str} (h:sc.names.lookup x=some .cell):∃c,(cellsFrom n sc.names []).lookup x=some c:=by
 have q:=PySem.W.cellsFrom_some sc.names n [] (.inl h)
 exact Option.isSome_iff_exists.mp q
theorem Qe {CX:Hu} {P:Program} {w:World} {K:PySem.W.Frag} {mg:Str->Option Value} {base:Heap} {N ps:List Str} {qual:Str} {scope:Scope} {f:Addr} {cd:Value} {A:Around} {outer:List Env} {s s1:Shared} {H:Hp} {E:XK} {us:List Value} {vs:List V}
  (S:gm N ps scope) (hd:A.handled=none) (e0:Mp P w K mg base A outer s H) (hl:vs.length=ps.length) (r:Vals vs us)
  (x:InCallC s s.heap.objs.size (bindL (envOfC qual scope s.heap.objs.size f cd).kindOf (ps.zip us) fun _=>none) (cellsFrom (s.heap.objs.size+1) scope.names []) (bindC (envOfC qual scope s.heap.objs.size f cd).kindOf (ps.zip us) fun _=>none) s1):
  Inv (Ni CX P w K mg base N qual scope f cd A outer s H E) [] (start N vs) H s1:=by
 have hpl:ps.length<=N.length:=by have:=congrArg List.length S.pre;rw [List.length_take] at this;omega
 obtain⟨h1,tk,rfl,hk⟩:=x.done
 have noA:∀b:Addr,b∉(Ni CX P w K mg base N qual scope f cd A outer s H E).ex:=fun b z=>absurd (show b∈([]:List Addr) from z) (by simp)
 refine⟨⟨e0.mod,S.kind,rfl,rfl,Nat.le_refl _,fun y z c h1 h2=>?_,fun y hy=>?_,fun y c _ h=>?_,fun _=>hd,Around.frames_deeper e0.frames,.inr ⟨rfl,rfl⟩,fun b z=>absurd z (noA b),e0.bs,e0.bsz,fun b _ _=>noA b,fun b z=>absurd z (noA b),e0.funs,e0.frf⟩,
  rfl,e0.bare,Un.kept hk,⟨_,x.toInCall.ns,fun i y v h1 h2 h3=>?_⟩,fun y c h=>⟨_,x.cell y c h⟩,e0.hok.fresh (Nat.le_refl _),fun y c h=>?_,fun p hp=>absurd (show p∈([]:List (Addr×Obj)) from hp) (by simp),e0.hok.kept hk,?_⟩
 ·exact name_of_addr x.apart (PySem.mem_of_lookup h1) (PySem.mem_of_lookup h2)
 ·have hy:scope.names.lookup y=some .cell∨scope.names.lookup y=some .free:=hy
  rcases hy with hy | hy
  ·exact J1 hy
  ·exact absurd rfl (S.nofree _ (PySem.mem_of_lookup hy))
 ·exact Nat.le_of_lt (x.above y c (PySem.mem_of_lookup h))
 ·have hi:i <vs.length:=by
   unfold start at h2
   by_cases hi:i <vs.length
   ·exact hi
   ·rw [List.getElem?_append_right (by simpa using hi)] at h2
    rw [List.getElem?_replicate] at h2
    split at h2 <;> cases h2
  have ha:vs[i]?=some v:=by
   unfold start at h2
   rw [List.getElem?_append_left (by simpa using hi),List.getElem?_map] at h2
   cases e:vs[i]? with
   | none=>rw [e] at h2;cases h2
   | some a=>rw [e] at h2;cases h2;rfl
  obtain⟨u,hu,rv⟩:=r.get ha
  have hp:ps[i]?=some y:=by
   rw [<-S.pre,List.getElem?_take_of_lt (by omega)];exact h1
  have ndP:ps.Nodup:=by rw [<-S.pre];exact S.nd.sublist (List.take_sublist _ _)
  refine⟨u,rv,?_⟩
  rcases S.par y (List.mem_of_getElem? hp) with k | k
  ·exact .inl ⟨k,Gw ndP hp hu k⟩
  ·obtain⟨c,e⟩:=J1 (n:=s.heap.objs.size+1) k
   refine .inr ⟨.inl k,c,e,?_⟩
   have q:=x.cell y c e
   rw [Gy ndP hp hu (by show scope.names.lookup y≠_;rw [k];decide)] at q
   exact q
 ·exact e0.hok.fresh (Nat.le_of_lt (x.above y c (PySem.mem_of_lookup h)))
 ·unfold start
  show _=N.length
  rw [List.length_append,List.length_map,List.length_replicate]
  omega
theorem VF {CX:Hu} {P:Program} {w:World} {K:PySem.W.Frag} {mg:Str->Option Value} {base:Heap} {k:Nat} {f:Addr} {name qual:Str} {params:Arguments} {body:List Stmt} {scope:Scope} {dV kV doc pm cdv ct oc:Value} {an od:Option Addr}
  {osl:Array (Option Value)} {N ps:List Str} {sp:Sp} (lk:K.lookup f=some ⟨oc,od,.func (PySem.W.fnOf name qual params body scope dV kV doc pm an cdv ct),osl⟩) (hcd:PySem.W.codeIn K cdv qual=true) (S:gm N ps scope)
  (len:∀vs H Q E,sp vs H Q E->vs.length=ps.length)
  (hbody:∀(A:Around) (outer:List Env) (s:Shared) (H:Hp) (vs:List V) (Q:VK) (E:XK),jM k (A.deeper (envOfC qual scope s.heap.objs.size f cdv))->sp vs H Q E->
   ∃t,N8 (Ni CX P w K mg base N qual scope f cdv A outer s H E) body t/\t { nx:=fun _ H'=>Q .non H',rt:=Q } (start N vs) H):
  jB P w K mg base CX (k+1) f (PySem.W.fnOf name qual params body scope dV kV doc pm an cdv ct) ps sp:=by
 refine⟨len,fun A outer s H args us vs Q E hr e0 hb r hsp=>?_⟩
 have hl:=len _ _ _ _ hsp
 have KX:K.In s.heap:=e0.mod.kin.keeps fun b o e=>(e0.bs b o e).1
 have lim:s.heap.NoLimit:=e0.mod.nolimit.keeps fun b o e=>(e0.bs b o e).1
 have hkind:∀y∈ps.zip us,scope.names.lookup y.1=some .local∨(scope.names.lookup y.1=some .cell/\((cellsFrom (s.heap.objs.size+1) scope.names []).lookup y.1).isSome=true):=fun⟨n,v⟩ hy=>by
  rcases S.par n (List.of_mem_zip hy).1 with q | q
  ·exact .inl q
  ·exact .inr ⟨q,PySem.W.cellsFrom_some _ _ _ (.inl q)⟩
 refine codeAny_call_function hr.depth (KX _ _ lk) rfl S.co S.gen rfl (PySem.W.codeRec_of KX hcd) (hb _ _ _ _ ?_)
 refine wpAny_newFunctionEnv_cells S.kind hkind fun env he s1 x=>?_
 subst he
 refine⟨lim.keeps x.toInCall.keep,codeAny_func ?_⟩
 obtain⟨t,ht,hq⟩:=hbody A outer s H vs Q E (hr.deeper _) hsp
 have I:Inv (Ni CX P w K mg base N qual scope f cdv A outer s H E) [] (start N vs) H s1:=Qe S hr.hd e0 hl r x
 refine wpAny_mono (ht [] s1 (start N vs) H _ I hq) (fun fl s' hs=>?_) fun e s' hs=>hs
 have fin:∀{σ':St} {H':Hp} {v:V} {u:Value},Inv (Ni CX P w K mg base N qual scope f cdv A outer s H E) [] σ' H' s'->RelV v u->Q v H'->CE outer P w H s Q u s':=
  fun {σ' H' v u} J rv q=>⟨v,H',J.os,J.bare,J.base,J.hok,rv,q⟩
 cases fl with
 | ret u=>
  obtain⟨v,σ',H',J,rv,q⟩:=hs
  exact fin J rv q
 | next=>
  obtain⟨σ',H',J,q⟩:=hs
  exact fin (v:=V.non) (u:=Value.none) J rfl q
 | brk=>
  obtain⟨_,_,_,q⟩:=hs
  exact False.elim q
 | cont=>
  obtain⟨_,_,_,q⟩:=hs
  exact False.elim q
section
variable {X:Cx} {x:Str} {p pos:Pos} {e:Expr} {es:List Expr} {t:TA} {id T:String} {r:List V->Hp->VK->Prop}
noncomputable def ZR (r:List V->Hp->VK->Prop) (t:TA):TE:=fun σ H Q=>t σ H fun vs H1=>r vs H1 Q
theorem bG (hc:lu X (.builtin id) r) (hg:Gl X x) (hm:X.mg x=none) (hv:bootBuiltins x=some (.builtin id)) (ha:PA X (e:: es) t) (hn:x≠ "__name__" :=by decide) (hdb:(x == ("__debug__" :Str))=false:=by decide)
  (he:starEach (e:: es) X.env=(false,eval e X.env):: starEach es X.env:=by rfl) (hpl:(backTo pos (starEach es X.env)).any (·.1)=false:=by rfl):PE X (.Call (.Name x p) (e:: es) [] pos) (ZR r t):=by
 intro pins s σ H Q I h
 refine wpAny_Call_Name_kw (Fx I hg hm hv ?_ hn hdb)
 exact PyProof.Rows.callWith_builtin1 (eX (ha pos pins s σ H _ I h) fun us s1 ⟨vs,H1,I1,r1,q1⟩=>hc pins s1 σ H1 vs us Q I1 r1 q1) he hpl
theorem cW (hc:lu X (.type T) r) (hg:Gl X x) (hm:X.mg x=none) (hv:bootBuiltins x=some (.type T)) (ha:PA X (e:: es) t) (hn:x≠ "__name__" :=by decide) (hdb:(x == ("__debug__" :Str))=false:=by decide)
  (he:starEach (e:: es) X.env=(false,eval e X.env):: starEach es X.env:=by rfl) (hpl:(backTo pos (starEach es X.env)).any (·.1)=false:=by rfl):PE X (.Call (.Name x p) (e:: es) [] pos) (ZR r t):=by
 intro pins s σ H Q I h
 refine wpAny_Call_Name_kw (Fx I hg hm hv ?_ hn hdb)
 exact PyProof.Rows.callWith_type1 (eX (ha pos pins s σ H _ I h) fun us s1 ⟨vs,H1,I1,r1,q1⟩=>hc pins s1 σ H1 vs us Q I1 r1 q1) he hpl
end
end L2
namespace HT
open PySem PyProof.Rows
section
open PySem.SeqAt
open PySem.AutoSeq1 (wpAny_loadPart')
open PySem.MeetsSeq PySem.MeetsSeq2 PySem.MeetsSeq3
end
section
variable {prog:Program} {w:World} {A:Around} {E:Value->Shared->Prop} {s:Shared}
noncomputable def KR (n d:Nat):Option Int->Nat
 | none=>d
 | some v=>if v <0 then(v+(n:Int)).toNat else min v.toNat n
theorem zM (n d:Nat):KR n d none=d:=rfl
theorem wI (n d k:Nat):KR n d (some (k:Int))=min k n:=by
 show(if (k:Int) <0 then((k:Int)+(n:Int)).toNat else min (k:Int).toNat n)=min k n
 rw [if_neg (by omega),Int.toNat_natCast]
end
end HT
namespace L2
open PySem PySem.Spec PyProof.Rows
noncomputable abbrev TO:=St->Hp->(Option Int->Hp->Prop)->Prop
noncomputable def PO (X:Cx) (e:Option Expr) (t:TO):Prop:=
 ∀(pins:List (Addr×Obj)) (s:Shared) (σ:St) (H:Hp) (Q:Option Int->Hp->Prop),Inv X pins σ H s->t σ H Q->
  wpAny (model X.prog X.w) X.A (evalPart e X.env) (fun u s'=>∃o H',Inv X pins σ H' s'/\IsPart u o/\Q o H') X.xe s
noncomputable def U9:TO:=fun _ H Q=>Q none H
inductive Qz (Q:Option Int->Hp->Prop) (x:V) (H1:Hp):Prop where
 | mk:∀i,x=.int i->Q (some i) H1->Qz Q x H1
noncomputable def Yz (t:TE):TO:=fun σ H Q=>t σ H fun x H1=>Qz Q x H1
section
variable {X:Cx} {e:Expr} {te:TE} {lo hi:Option Expr} {tl th:TO} {pos p2:Pos}
theorem kZ:PO X none U9:=by
 intro pins s σ H Q I h
 rw [evalPart_none]
 exact wpAny_pure ⟨none,H,I,.none,h⟩
theorem jK (h:PE X e te):PO X (some e) (Yz te):=by
 intro pins s σ H Q I hw
 rw [evalPart_some]
 refine eX (h pins s σ H _ I hw) fun u s1 hpt=>?_
 obtain⟨x,H1,I1,r1,q1⟩:=hpt
 obtain⟨i,rfl,q⟩:=q1
 obtain⟨t,rfl⟩:=r1
 exact⟨some i,H1,I1,.int i t,q⟩
noncomputable def Y4 (X:Cx) (r:V->Option Int->Option Int->Hp->VK->Prop):Prop:=
 ∀(pins:List (Addr×Obj)) (s:Shared) (σ:St) (H:Hp) (x:V) (v vl vu:Value) (lo hi:Option Int) (sl:Addr) (Q:VK),Inv X pins σ H s->RelV x v->s.heap.IsSliceOf sl vl vu .none->IsPart vl lo->IsPart vu hi->r x lo hi H Q->
  ∃T id,typeLookup (.type T) "__getitem__" =pure (some (.builtin id))/\s.TypeIs v T/\wpAny (model X.prog X.w) X.A (getItem v (.ref sl)) (EP X pins σ Q) X.xe s
noncomputable def tSl (r:V->Option Int->Option Int->Hp->VK->Prop) (te:TE) (tl th:TO):TE:=fun σ H Q=>te σ H fun x H1=>tl σ H1 fun l H2=>th σ H2 fun u H3=>r x l u H3 Q
theorem ji {r:V->Option Int->Option Int->Hp->VK->Prop} (hr:Y4 X r) (he:PE X e te) (hl:PO X lo tl) (hu:PO X hi th):PE X (.Subscript e (.Slice lo hi none p2) pos) (tSl r te tl th):=by
 intro pins s σ H Q I h
 refine Subscript_ (eX (he pins s σ H _ I h) fun v s1 hpt=>?_)
 obtain⟨x,H1,I1,r1,q1⟩:=hpt
 refine wpAny_Slice (eX (hl pins s1 σ H1 _ I1 q1) fun vl s2 ⟨l,H2,I2,pl,q2⟩=>eX (hu pins s2 σ H2 _ I2 q2) fun vu s3 hpt=>?_)
 obtain⟨u,H3,I3,pu,q3⟩:=hpt
 rw [evalPart_none]
 refine wpAny_pure ?_
 have I4:Inv X pins σ H3 { s3 with heap:=s3.heap.push { cls:=.type "slice",data:=.fields #[vl,vu,.none] } }:=I3.kept (t':=s3.toks) fun b ob q=>Heap.get?_push_of_some _ q
 obtain⟨T,id,hT,ht,hg⟩:=hr pins { s3 with heap:=s3.heap.push { cls:=.type "slice",data:=.fields #[vl,vu,.none] } } σ H3 x v vl vu l u s3.heap.objs.size Q I4 r1 (Heap.IsSliceOf.new ..) pl pu q3
 show wpAny (model X.prog X.w) X.A (subscriptTail e (.Slice lo hi none p2) v (.ref s3.heap.objs.size)) (EP X pins σ Q) X.xe { s3 with heap:=s3.heap.push { cls:=.type "slice",data:=.fields #[vl,vu,.none] } }
 exact tail_any (ops:=[.ref s3.heap.objs.size,v]) ht hT hg (by with_unfolding_all rfl)
noncomputable def yp (xs:List V) (lo hi:Option Int):List V:=(xs.drop (HT.KR xs.length 0 lo)).take (HT.KR xs.length xs.length hi - HT.KR xs.length 0 lo)
theorem JX (xs:List V) (lo hi:Option Int):(yp xs lo hi).length<=xs.length:=by
 unfold yp
 rw [List.length_take,List.length_drop]
 omega
end
noncomputable def Xd (n:Nat) (i:Int):Option Nat:=if 0<=i then(if i <n then some i.toNat else none) else if -(n:Int)<=i then some (i+n).toNat else none
noncomputable def J0 {α:Type} (xs:List α) (i:Int):Option α:=(Xd xs.length i).bind fun j=>xs[j]?
theorem Uk {n:Nat} {i:Int} {j:Nat} (h:Xd n i=some j):seqIndex? i n=some j/\j <n/\ -(n:Int)<=i/\i <n:=by
 unfold Xd at h
 by_cases h0:0<=i
 ·rw [if_pos h0] at h
  by_cases h1:i <n
  ·rw [if_pos h1] at h
   have e:i.toNat=j:=Option.some.inj h
   exact⟨by rw [seqIndex_of h0 h1,e],by omega,by omega,h1⟩
  ·rw [if_neg h1] at h;cases h
 ·rw [if_neg h0] at h
  by_cases h1: -(n:Int)<=i
  ·rw [if_pos h1] at h
   have e:(i+n).toNat=j:=Option.some.inj h
   exact⟨by rw [seqIndex_neg (by omega) h1,e],by omega,h1,by omega⟩
  ·rw [if_neg h1] at h;cases h
theorem Ja {α:Type} {xs:List α} {i:Int} {v:α} (h:J0 xs i=some v):∃j,seqIndex? i xs.length=some j/\xs[j]?=some v/\j <xs.length/\ -(xs.length:Int)<=i/\i <xs.length:=by
 unfold J0 at h
 cases e:Xd xs.length i with
 | none=>rw [e] at h;cases h
 | some j=>
  rw [e] at h
  obtain⟨h1,h2,h3,h4⟩:=Uk e
  exact⟨j,h1,h,h2,h3,h4⟩
theorem aM {α:Type} {xs:List α} {j:Nat} {v:α} (h:xs[j]?=some v):J0 xs (j:Int)=some v:=by
 have hj:j <xs.length:=(List.getElem?_eq_some_iff.mp h).1
 have e:Xd xs.length (j:Int)=some j:=by
  unfold Xd
  rw [if_pos (by omega),if_pos (by omega)];simp
 unfold J0;rw [e];exact h
noncomputable def Oo (b:Expr):Prop:=∀o i,subscripted b false o i=operate [o,i] (getItem o i)
noncomputable def Qm (X:Cx) (r:R2):Prop:=
 ∀(value slice:Expr) (pins:List (Addr×Obj)) (s:Shared) (σ:St) (H:Hp) (x y:V) (v u:Value) (Q:VK),Inv X pins σ H s->RelV x v->RelV y u->r x y H Q->
  subscripted slice false v u=operate [v,u] (getItem v u)->wpAny (model X.prog X.w) X.A (subscriptTail value slice v u) (EP X pins σ Q) X.xe s
noncomputable def YX (X:Cx) (id:String) (r:V->List V->Hp->VK->Prop):Prop:=
 ∀(pins:List (Addr×Obj)) (s:Shared) (σ:St) (H:Hp) (x:V) (xs:List V) (v:Value) (us:List Value) (Q:VK),Inv X pins σ H s->RelV x v->Vals xs us->r x xs H Q->
  wpAny (model X.prog X.w) X.A (call (.builtin id) (v:: us)) (EP X pins σ Q) X.xe s
section
variable {X:Cx} {a b:Expr} {ta tb:TE} {pos:Pos}
theorem Qm.or {r r':R2} (h:Qm X r) (h':Qm X r'):Qm X (fun x y H Q=>r x y H Q∨r' x y H Q):=by
 intro value slice pins s σ H x y v u Q I rx ry q hs
 rcases q with q | q
 ·exact h value slice pins s σ H x y v u Q I rx ry q hs
 ·exact h' value slice pins s σ H x y v u Q I rx ry q hs
theorem bf {r:R2} (hr:Qm X r) (ha:PE X a ta) (hb:PE X b tb) (hs:Oo b):PE X (.Subscript a b pos) (Xm r ta tb):=by
 intro pins s σ H Q I h
 exact Subscript_ (Wv ha hb I h fun v u s2 x y H2 I2 rx ry q=>hr a b pins s2 σ H2 x y v u Q I2 rx ry q (hs _ _))
inductive Ve (K:PySem.W.Frag) (x:V) (y:V) (H:Hp) (Q:VK):Prop where
 | mk:∀p xs i v,x=.ref p->y=.int i->bK K H p xs->J0 xs i=some v->Q v H->Ve K x y H Q
noncomputable def Ww (K:PySem.W.Frag):R2:=fun x y H Q=>Ve K x y H Q
inductive Vh (K:PySem.W.Frag) (x:V) (y:V) (H:Hp) (Q:VK):Prop where
 | mk:∀p xs i v,x=.ref p->y=.int i->fC K H p xs->J0 xs i=some v->Q v H->Vh K x y H Q
noncomputable def WT (K:PySem.W.Frag):R2:=fun x y H Q=>Vh K x y H Q
inductive Vw (x:V) (y:V) (H:Hp) (Q:VK):Prop where
 | mk:∀z i c,x=.str z->y=.int i->z.length<=sizeLine->J0 z.cps.toList i=some c->Q (.str ⟨#[c]⟩) H->Vw x y H Q
noncomputable def XR:R2:=fun x y H Q=>Vw x y H Q
theorem bw:Qm X (Ww X.K):=by
 intro value slice pins s σ H x y v u Q I rx ry h hs
 obtain⟨p,xs,i,z,rfl,rfl,hq,he,q⟩:=h
 cases rx
 obtain⟨t,rfl⟩:=ry
 obtain⟨its,r,pl,hz⟩:=I.list hq
 obtain⟨j,h1,h2,h3,h4,h5⟩:=Ja he
 obtain⟨w,ew,rw'⟩:=r.get h2
 have hl:=r.length
 have hn:=HQ
 have fin:EP X pins σ Q w s:=⟨z,H,I,rw',q⟩
 by_cases h0:0<=i
 ·have hj:i.toNat=j:=by
   rw [seqIndex_of h0 h5] at h1
   exact Option.some.inj h1
  exact item_listR pl.isList h0 (by omega) (by rw [hj];simpa using ew) fin hs
 ·have hj:(i+(its.toArray.size:Int)).toNat=j:=by
   rw [seqIndex_neg (by omega) h4] at h1
   rw [List.size_toArray,<-hl]
   exact Option.some.inj h1
  exact subscriptTail_builtinR (x:=w) pl.isList.typeIs slot_list_getitem.lookup
   (wpAny_getItem_list_neg (Q:=fun r s'=>r=w/\EP X pins σ Q r s') pl.isList (by omega) (by rw [List.size_toArray] <;> omega) (by omega) (by rw [hj];simpa using ew) ⟨rfl,fin⟩) hs
theorem dN:Qm X (WT X.K):=by
 intro value slice pins s σ H x y v u Q I rx ry h hs
 obtain⟨p,xs,i,z,rfl,rfl,hq,he,q⟩:=h
 cases rx
 obtain⟨t,rfl⟩:=ry
 obtain⟨its,r,pl,hz⟩:=I.tuple hq
 obtain⟨j,h1,h2,h3,h4,h5⟩:=Ja he
 obtain⟨w,ew,rw'⟩:=r.get h2
 have hl:=r.length
 have hn:=HQ
 have fin:EP X pins σ Q w s:=⟨z,H,I,rw',q⟩
 exact subscriptTail_builtinR (x:=w) pl.typeIs slot_tuple_getitem.lookup
  (getItem_tuple (j:=j) (Q:=fun r s'=>r=w/\EP X pins σ Q r s') pl (by omega) (by omega) (by rw [List.size_toArray,<-hl];exact h1) (by simpa using ew) ⟨rfl,fin⟩) hs
theorem Dp:Qm X XR:=by
 intro value slice pins s σ H x y v u Q I rx ry h hs
 obtain⟨z,i,c,rfl,rfl,hz,he,q⟩:=h
 obtain⟨t,rfl⟩:=rx
 obtain⟨t',rfl⟩:=ry
 obtain⟨j,h1,h2,h3,h4,h5⟩:=Ja he
 have hl:z.cps.toList.length=z.length:=by simp [Str.length]
 rw [hl] at h1 h4 h5
 have hn:=HQ
 exact tail_any (typeIs_str s z t) slot_str_getitem.lookup (getItem_str (c:=c) (by
  have e1:decide (i < -(2 ^ 63:Int))=false:=decide_eq_false (by omega)
  have e2:decide (i≥2 ^ 63)=false:=decide_eq_false (by omega)
  rw [e1,e2,Bool.or_false]) (by rw [h1];simpa using h2) ⟨.str ⟨#[c]⟩,H,I.tok _,⟨_,rfl⟩,q⟩) hs
noncomputable def rIx (K:PySem.W.Frag):R2:=fun x y H Q=>Ww K x y H Q∨WT K x y H Q∨XR x y H Q
theorem LK:Qm X (rIx X.K):=bw.or (dN.or Dp)
theorem Ih (lo hi:Option Int) (n:Nat):(sliceBounds lo hi none n).1=((HT.KR n 0 lo:Nat):Int)/\(sliceBounds lo hi none n).2.1=((HT.KR n n hi:Nat):Int)/\(sliceBounds lo hi none n).2.2=1:=by
 refine⟨?_,?_,rfl⟩
 ·cases lo with
  | none=>simp [sliceBounds,HT.KR]
  | some i=>
   simp only [sliceBounds,HT.KR,Option.getD_none,show(1:Int) >0 by decide,if_true]
   by_cases h:i <0
   ·simp only [h,if_true] <;> omega
   ·simp only [h,if_false] <;> omega
 ·cases hi with
  | none=>simp [sliceBounds,HT.KR]
  | some i=>
   simp only [sliceBounds,HT.KR,Option.getD_none,show(1:Int) >0 by decide,if_true]
   by_cases h:i <0
   ·simp only [h,if_true] <;> omega
   ·simp only [h,if_false] <;> omega
theorem FN (its:List Value) (lo hi:Option Int):slicePick its.toArray lo hi none=((its.drop (HT.KR its.length 0 lo)).take (HT.KR its.length its.length hi - HT.KR its.length 0 lo)).toArray:=by
 obtain⟨h1,h2,h3⟩:=Ih lo hi its.toArray.size
 unfold slicePick
 rw [h1,h2,h3]
 simp only [sliceRange_one,pick_run,List.size_toArray] <;> rfl
inductive V3 (K:PySem.W.Frag) (x:V) (lo:Option Int) (hi:Option Int) (H:Hp) (Q:VK):Prop where
 | mk:∀a xs,x=.ref a->bK K H a xs->(∀p,H p=none->Q (.ref p) (upd H p (.lst (yp xs lo hi))))->V3 K x lo hi H Q
noncomputable def Zv (K:PySem.W.Frag):V->Option Int->Option Int->Hp->VK->Prop:=fun x lo hi H Q=>V3 K x lo hi H Q
theorem mQ:Y4 X (Zv X.K):=by
 intro pins s σ H x v vl vu lo hi sl Q I rx hs pl pu h
 obtain⟨a,xs,rfl,hx,q⟩:=h
 cases rx
 obtain⟨its,r,ht,hz⟩:=I.list hx
 have hlen:=r.length
 refine⟨"list",_,slot_list_getitem.lookup,ht.isList.typeIs,?_⟩
 refine wpAny_getItem_list_slice ht.isList hs pl pu .none (by simp) ?_ (by rw [List.size_toArray] <;> omega)
 rw [FN,<-hlen]
 refine⟨.ref s.heap.objs.size,_,I.laid (t':=s.toks) (o:=.lst (yp xs lo hi)) (fun b ob q=>Heap.get?_push_of_some _ q) (Nat.le_refl _) ?_,rfl,q _ (I.hok.fresh (Nat.le_refl _))⟩
 exact⟨Nat.le_trans (JX xs lo hi) hz,_,0,(r.drop (HT.KR xs.length 0 lo)).take (HT.KR xs.length xs.length hi - HT.KR xs.length 0 lo),Heap.get?_push_size _ rfl⟩
noncomputable def qC:V->Bool
 | .non=>true
 | .bl _=>true
 | .int _=>true
 | .str _=>true
 | _=>false
noncomputable def JR:V->V->Bool
 | .non,.non=>true
 | .bl a,.bl b=>a == b
 | .bl a,.int b=>(if a then 1 else 0) == b
 | .int a,.bl b=>a == (if b then 1 else 0)
 | .int a,.int b=>a == b
 | .str a,.str b=>a == b
 | _,_=>false
theorem V5 {A:Around} {s:Shared} {y x:V} {u v:Value} (ry:RelV y u) (rx:RelV x v) (fy:qC y=true) (fx:qC x=true):SeqAt.EqAt A s u v (JR y x):=by
 cases y with
 | non=>
  cases ry
  cases x with
  | non=>cases rx;exact SeqAt.EqAt.same _
  | bl b=>cases rx;exact SeqAt.EqAt.none_bool b
  | int b=>obtain⟨t,rfl⟩:=rx;exact SeqAt.EqAt.none_int b t
  | str b=>obtain⟨t,rfl⟩:=rx;exact SeqAt.EqAt.none_str b t
  | _=>exact absurd (show false=true from fx) Bool.false_ne_true
 | bl a=>
  cases ry
  cases x with
  | non=>cases rx;exact SeqAt.EqAt.bool_none a
  | bl b=>cases rx;exact SeqAt.EqAt.bool_bool a b
  | int b=>obtain⟨t,rfl⟩:=rx;exact SeqAt.EqAt.bool_int a b t
  | str b=>obtain⟨t,rfl⟩:=rx;exact SeqAt.EqAt.bool_str a b t
  | _=>exact absurd (show false=true from fx) Bool.false_ne_true
 | int a=>
  obtain⟨t',rfl⟩:=ry
  cases x with
  | non=>cases rx;exact SeqAt.EqAt.int_none a t'
  | bl b=>cases rx;exact SeqAt.EqAt.int_bool a t' b
  | int b=>obtain⟨t,rfl⟩:=rx;exact SeqAt.EqAt.int_int a t' b t
  | str b=>obtain⟨t,rfl⟩:=rx;exact SeqAt.EqAt.int_str a t' b t
  | _=>exact absurd (show false=true from fx) Bool.false_ne_true
 | str a=>
  obtain⟨t',rfl⟩:=ry
  cases x with
  | non=>cases rx;exact SeqAt.EqAt.str_none a t'
  | bl b=>cases rx;exact SeqAt.EqAt.str_bool a t' b
  | int b=>obtain⟨t,rfl⟩:=rx;exact SeqAt.EqAt.str_int a t' b t
  | str b=>obtain⟨t,rfl⟩:=rx;exact SeqAt.EqAt.str_str a t' b t
  | _=>exact absurd (show false=true from fx) Bool.false_ne_true
 | _=>exact absurd (show false=true from fy) Bool.false_ne_true
noncomputable def Mm (x:V) (u:Value):Bool:=match u with
 | .none=>JR .non x
 | .bool b=>JR (.bl b) x
 | .int i _=>JR (.int i) x
 | .str z _=>JR (.str z) x
 | _=>false
theorem QR {x y:V} {u:Value} (r:RelV y u) (f:qC y=true):Mm x u=JR y x:=by
 cases y with
 | non=>cases r;rfl
 | bl b=>cases r;rfl
 | int i=>obtain⟨t,rfl⟩:=r;rfl
 | str z=>obtain⟨t,rfl⟩:=r;rfl
 | _=>exact absurd (show false=true from f) Bool.false_ne_true
theorem yx {x:V}:∀{xs:List V} {us:List Value},Vals xs us->xs.all qC=true->us.any (Mm x)=xs.any fun y=>JR y x
 | _,_,.nil,_=>rfl
 | y:: xs,u:: us,.cons r t,f=>by
  rw [List.all_cons,Bool.and_eq_true] at f
  rw [List.any_cons,List.any_cons,QR r f.1,yx t f.2]
theorem vO {A:Around} {s:Shared} {x:V} {v:Value} (rx:RelV x v) (fx:qC x=true):∀{xs:List V} {us:List Value},Vals xs us->xs.all qC=true->∀u∈us,SeqAt.EqAt A s u v (Mm x u)
 | _,_,.nil,_=>fun u hu=>by cases hu
 | y:: xs,u:: us,.cons r t,f=>fun u' hu=>by
  rw [List.all_cons,Bool.and_eq_true] at f
  rcases List.mem_cons.mp hu with rfl | hu
  ·rw [QR r f.1];exact V5 r rx f.1 fx
  ·exact vO rx fx t f.2 u' hu
noncomputable def inV (x:V) (xs:List V):Bool:=xs.any fun y=>JR y x
inductive XM (K:PySem.W.Frag) (neg:Bool) (x:V) (y:V) (H:Hp) (Q:VK):Prop where
 | mk:∀p xs,y=.ref p->((bK K H p xs∨fC K H p xs))->qC x=true->xs.all qC=true->(Q (.bl (if neg then !inV x xs else inV x xs)) H)->XM K neg x y H Q
noncomputable def YL (K:PySem.W.Frag) (neg:Bool):R2:=fun x y H Q=>XM K neg x y H Q
theorem Pg:wN X (compareOp .In) (YL X.K false):=by
 intro pins s σ H x y v u Q I rx ry h
 obtain⟨p,xs,rfl,hq,fx,fs,q⟩:=h
 cases ry
 rcases hq with hq | hq
 ·obtain⟨its,r,pl,hz⟩:=I.list hq
  refine SeqAt.in_listAt (Mm x) pl.isList (fun w hw=>vO rx fx r fs w (by simpa using hw)) ⟨.bl _,H,I,rfl,?_⟩
  rw [show its.toArray.any (Mm x)=its.any (Mm x) by simp,yx r fs]
  exact q
 ·obtain⟨its,r,pl,hz⟩:=I.tuple hq
  refine SeqAt.in_tupleAt (Mm x) pl (fun w hw=>vO rx fx r fs w (by simpa using hw)) ⟨.bl _,H,I,rfl,?_⟩
  rw [show its.toArray.any (Mm x)=its.any (Mm x) by simp,yx r fs]
  exact q
theorem lA:wN X (compareOp .NotIn) (YL X.K true):=by
 intro pins s σ H x y v u Q I rx ry h
 obtain⟨p,xs,rfl,hq,fx,fs,q⟩:=h
 cases ry
 rcases hq with hq | hq
 ·obtain⟨its,r,pl,hz⟩:=I.list hq
  refine SeqAt.notIn_listAt (Mm x) pl.isList (fun w hw=>vO rx fx r fs w (by simpa using hw)) ⟨.bl _,H,I,rfl,?_⟩
  rw [show its.toArray.any (Mm x)=its.any (Mm x) by simp,yx r fs]
  exact q
 ·obtain⟨its,r,pl,hz⟩:=I.tuple hq
  refine SeqAt.notIn_tupleAt (Mm x) pl (fun w hw=>vO rx fx r fs w (by simpa using hw)) ⟨.bl _,H,I,rfl,?_⟩
  rw [show its.toArray.any (Mm x)=its.any (Mm x) by simp,yx r fs]
  exact q
theorem iJ:lu X (.type "list") (fun xs H Q=>∃p ys,xs=[.ref p]/\(bK X.K H p ys∨fC X.K H p ys)/\∀l,H l=none->Q (.ref l) (upd H l (.lst ys))):=by
 intro pins s σ H xs us Q I r h
 obtain⟨p,ys,rfl,hq,q⟩:=h
 obtain⟨u,rfl,rx⟩:=vals1 r
 cases rx
 have fin:∀(its:List Value),Vals ys its->ys.length<=sizeLine->∀(h':Heap) (c':Nat),(∀b o',s.heap.get? b=some o'->h'.get? b=some o')->
   h'.get? s.heap.objs.size=some { cls:=.type "list",dict:=none,data:=.seq its.toArray c',slots:=#[] }->EP X pins σ Q (.ref s.heap.objs.size) { s with heap:=h' }:=fun its r' hz h' c' kp e=>
  ⟨.ref s.heap.objs.size,_,I.laid (t':=s.toks) kp (Nat.le_refl _) (show fZ X.prog X.w _ h' _ (.lst ys) from⟨hz,its,c',r',e⟩),rfl,q _ (I.hok.fresh (Nat.le_refl _))⟩
 rcases hq with hq | hq
 ·obtain⟨its,r',pl,hz⟩:=I.list hq
  have hlen:=r'.length
  obtain⟨o,ho,hc,n,hd⟩:=pl.isList
  exact call_list_seq p (.inl rfl) ho hc hd (fun h' c' kp e=>fin its r' hz h' c' kp e) (by simp only [List.size_toArray] <;> omega)
 ·obtain⟨its,r',pl,hz⟩:=I.tuple hq
  have hlen:=r'.length
  obtain⟨o,ho,hc,n,hd⟩:=pl
  exact call_list_seq p (.inr rfl) ho hc hd (fun h' c' kp e=>fin its r' hz h' c' kp e) (by simp only [List.size_toArray] <;> omega)
theorem Gh:lu X (.type "tuple") (fun xs H Q=>∃p ys,xs=[.ref p]/\((bK X.K H p ys/\∀l,H l=none->Q (.ref l) (upd H l (.tup ys)))∨(fC X.K H p ys/\Q (.ref p) H))):=by
 intro pins s σ H xs us Q I r h
 obtain⟨p,ys,rfl,h⟩:=h
 obtain⟨u,rfl,rx⟩:=vals1 r
 cases rx
 rcases h with ⟨hq,q⟩ | ⟨hq,q⟩
 ·obtain⟨its,r',pl,hz⟩:=I.list hq
  have hlen:=r'.length
  refine call_tuple_list pl.isList (fun h' kp=>?_) (by simp only [List.size_toArray] <;> omega)
  have I1:Inv X pins σ H { s with heap:=h' }:=I.kept (t':=s.toks) kp
  have I2:Inv X pins σ (upd H h'.objs.size (.tup ys)) { s with heap:=h'.push { cls:=.type "tuple",data:=.seq its.toArray } }:=
   I1.laid (t':=s.toks) (fun b o e=>Heap.get?_push_of_some _ e) (Nat.le_refl _) (show fZ X.prog X.w _ _ _ (.tup ys) from⟨hz,its,r',IsTup.new _ _⟩)
  exact⟨.ref h'.objs.size,_,I2,rfl,q _ (I1.hok.fresh (Nat.le_refl _))⟩
 ·obtain⟨its,r',pl,hz⟩:=I.tuple hq
  exact call_tuple_same pl ⟨.ref p,H,I,rfl,q⟩
noncomputable def Zc (K:PySem.W.Frag) (T:String) (x:V) (H:Hp):Prop:=match x with
 | .str _=>T= "str"
 | .int _=>T= "int"
 | .ref p=>(T= "list" /\∃xs,bK K H p xs)∨(T= "tuple" /\∃o,K.lookup p=some o/\o.cls=.type "tuple" /\o.dict=none)∨
   (T= "dict" /\((∃kvs,H p=some (.dK kvs))∨∃kvs,H p=some (.dT kvs)))∨(T= "set" /\∃S n,H p=some (.set S n))
 | _=>False
theorem RG {pins:List (Addr×Obj)} {σ:St} {H:Hp} {s:Shared} {T:String} {x:V} {v:Value} (I:Inv X pins σ H s) (r:RelV x v) (ty:Zc X.K T x H):
  s.TypeIs v T/\∀a,v=.ref a->∃ob,s.heap.get? a=some ob/\ob.dict=none:=by
 cases x with
 | str z=>
  obtain⟨t,rfl⟩:=r
  cases (show T= "str" from ty)
  exact⟨typeIs_str s z t,fun _ e=>nomatch e⟩
 | int i=>
  obtain⟨t,rfl⟩:=r
  cases (show T= "int" from ty)
  exact⟨typeIs_int s i t,fun _ e=>nomatch e⟩
 | ref p=>
  cases r
  rcases ty with ⟨rfl,xs,hq⟩ | ⟨rfl,o,hk,hc,hd⟩ | ⟨rfl,hk⟩ | ⟨rfl,S,n,hk⟩
  ·obtain⟨its,_,pl,_⟩:=I.list hq
   refine⟨pl.isList.typeIs,fun a e=>?_⟩
   cases e
   obtain⟨o,n,e,c,hd,_⟩:=pl
   exact⟨o,e,hd⟩
  ·refine⟨⟨o,I.kIn p o hk,hc⟩,fun a e=>?_⟩
   cases e
   exact⟨o,I.kIn _ o hk,hd⟩
  ·have z:∃o,s.heap.get? p=some o/\o.ExactDict:=by
    rcases hk with ⟨kvs,hk⟩ | ⟨kvs,hk⟩
    ·obtain⟨_,_,_,_,o,_,_,e,ex,_⟩:=I.hok p _ hk
     exact⟨o,e,ex⟩
    ·obtain⟨_,_,_,_,o,_,_,e,ex,_⟩:=I.hok p _ hk
     exact⟨o,e,ex⟩
   obtain⟨o,e,ex⟩:=z
   refine⟨⟨o,e,ex.1⟩,fun a e2=>?_⟩
   cases e2
   exact⟨o,e,ex.2.1⟩
  ·obtain⟨o,_,_,_,e,ex,_⟩:=I.hok p _ hk
   refine⟨⟨o,e,ex.1⟩,fun a e2=>?_⟩
   cases e2
   exact⟨o,e,ex.2.1⟩
 | _=>exact False.elim ty
noncomputable def YZ (K:PySem.W.Frag) (T:String) (r:V->List V->Hp->VK->Prop) (to:TE):TE:=fun σ H Q=>to σ H fun x H1=>Zc K T x H1/\r x [] H1 Q
noncomputable def ZQ (K:PySem.W.Frag) (T:String) (r:V->List V->Hp->VK->Prop) (to:TE) (t:TA):TE:=fun σ H Q=>to σ H fun x H1=>Zc K T x H1/\t σ H1 fun xs H2=>r x xs H2 Q
variable {o e:Expr} {es:List Expr} {to:TE} {t:TA} {name:Str} {apos cpos:Pos} {T id:String} {r:V->List V->Hp->VK->Prop}
theorem My (pa:PlainAttrs T) (slot:Slot T name id) (hty:typeOf (.builtin id)=pure (.type "method_descriptor")) (hm:YX X id r) (ho:PE X o to)
  (hbase:attributeBase o name X.env (eval o X.env)=eval o X.env:=by rfl) (hline:(apos.endLine == cpos.line)=true:=by rfl):PE X (.Call (.Attribute o name apos) [] [] cpos) (YZ X.K T r to):=by
 intro pins s σ H Q I h
 refine wpAny_Call_method0_late hbase hline (eX (ho pins s σ H _ I h) fun v s1 hpt=>?_)
 obtain⟨x,H1,I1,r1,ty,q1⟩:=hpt
 obtain⟨h1,h2⟩:=RG I1 r1 ty
 exact⟨T,id,pa,slot,hty,h1,h2,Calls.callWith_builtin rfl (PySem.evalArgs_none (hm pins s1 σ H1 x [] v [] Q I1 r1 .nil q1))⟩
theorem Er (pa:PlainAttrs T) (slot:Slot T name id) (hty:typeOf (.builtin id)=pure (.type "method_descriptor")) (hm:YX X id r) (ho:PE X o to) (ha:PA X (e:: es) t)
  (hbase:attributeBase o name X.env (eval o X.env)=eval o X.env:=by rfl)
  (hfew:((backTo cpos (starEach (e:: es) X.env)).all (fun x=>!x.1) && (backToKw cpos (keywordEach [] X.env)).all (fun x=>x.1.isSome)
   && decide ((e:: es).length+([]:List Keyword).length+(if ([]:List Keyword).isEmpty then 0 else 1) <30))=true:=by rfl)
  (hline:(apos.endLine == cpos.line)=true:=by rfl) (hs:starEach (e:: es) X.env=(false,eval e X.env):: starEach es X.env:=by rfl) (hplain:(backTo cpos (starEach es X.env)).any (·.1)=false:=by rfl):
  PE X (.Call (.Attribute o name apos) (e:: es) [] cpos) (ZQ X.K T r to t):=by
 intro pins s σ H Q I h
 refine wpAny_Call_method_late hbase hfew hline rfl (eX (ho pins s σ H _ I h) fun v s1 hpt=>?_)
 obtain⟨x,H1,I1,r1,ty,q1⟩:=hpt
 obtain⟨h1,h2⟩:=RG I1 r1 ty
 refine⟨T,id,pa,slot,hty,h1,h2,?_⟩
 have hA:=ha cpos pins s1 σ H1 _ I1 q1
 rw [hs] at hA ⊢
 refine Calls.callWith_builtin (by show(false || (backTo cpos (starEach es X.env)).any (·.1))=false;rw [hplain] <;> rfl) (Calls.evalArgs_plain ?_)
 exact eX hA fun us s2 ⟨vs,H2,I2,r2,q2⟩=>hm pins s2 σ H2 x vs v us Q I2 r1 r2 q2
end
noncomputable def YT (X:Cx) (id:String) (r:V->List V->Hp->VK->Prop):Prop:=
 ∀(pins:List (Addr×Obj)) (s:Shared) (σ:St) (H:Hp) (x:V) (xs:List V) (v:Value) (us:List Value) (Q:VK),Inv X pins σ H s->RelV x v->Vals xs us->r x xs H Q->
  wpAny (model X.prog X.w) X.A (call (.builtin id) (v:: us)) (EP X pins σ Q) X.xe s
theorem Vals.one:∀{x:V} {us:List Value},Vals [x] us->∃u,us=[u]/\RelV x u
 | _,_,.cons r .nil=>⟨_,rfl,r⟩
theorem Vals.zero:∀{us:List Value},Vals [] us->us=[]
 | _,.nil=>rfl
theorem Vals.dropLast {xs:List V} {us:List Value} (h:Vals xs us):Vals xs.dropLast us.dropLast:=by
 induction h with
 | nil=>exact .nil
 | cons r t ih=>
  cases t with
  | nil=>exact .nil
  | cons q t'=>exact .cons r ih
theorem Vals.eraseIdx:∀{xs:List V} {us:List Value} (i:Nat),Vals xs us->Vals (xs.eraseIdx i) (us.eraseIdx i)
 | _,_,_,.nil=>.nil
 | _,_,0,.cons _ t=>t
 | _,_,i+1,.cons r t=>.cons r (Vals.eraseIdx i t)
theorem MN {α:Type} (l:List α):l.eraseIdx (l.length - 1)=l.dropLast:=by
 induction l with
 | nil=>rfl
 | cons a r ih=>
  cases r with
  | nil=>rfl
  | cons b r=>
   have e:(a:: b:: r).length - 1=((b:: r).length - 1)+1:=by
    have h1:(a:: b:: r).length=r.length+2:=rfl
    have h2:(b:: r).length=r.length+1:=rfl
    omega
   rw [e,List.eraseIdx_cons_succ,ih]
   all_goals rfl
theorem Hm {α:Type}:∀(l:List α) (i:Nat),(l.eraseIdx i).length<=l.length
 | [],_=>Nat.le_refl _
 | _:: _,0=>Nat.le_succ _
 | _:: r,i+1=>Nat.succ_le_succ (Hm r i)
section
variable {X:Cx} {pins:List (Addr×Obj)} {σ:St} {H:Hp} {s:Shared} {l b:Addr} {xs ys zs:List V}
theorem Inv.lset {its its':List Value} {n:Nat} {f:Array Value->Array Value} {t':Nat} (I:Inv X pins σ H s) (hH:H l=some (.lst xs))
  (e:s.heap.get? l=some { cls:=.type "list",data:=.seq its.toArray n }) (hf:f its.toArray=its'.toArray) (hv:Vals ys its') (hz:ys.length<=sizeLine):
  Inv X pins σ (upd H l (.lst ys)) { s with heap:=s.heap.update l (Obj.mapSeq f),toks:=t' }:=by
 have q:=PySem.IsL.update e f
 rw [hf] at q
 refine I.write (x:=l) (e:=l) (by rw [hH];exact trivial) (.inl rfl) (fun b' u hb hu=>(Heap.get?_update_other s.heap (Obj.mapSeq f) (Ne.symm hb)).trans hu) ⟨_,q⟩ ?_
 exact⟨hz,its',_,hv,q⟩
theorem Inv.lnew {its:List Value} {t':Nat} (I:Inv X pins σ H s) (hv:Vals ys its) (hz:ys.length<=sizeLine):
  Inv X pins σ (upd H s.heap.objs.size (.lst ys)) { s with heap:=s.heap.push { cls:=.type "list",data:=.seq its.toArray },toks:=t' }:=
 I.laid (fun _ _ q=>Heap.get?_push_of_some _ q) (Nat.le_refl _) ⟨hz,its,0,hv,Heap.get?_push_size _ rfl⟩
theorem Inv.fresh (I:Inv X pins σ H s):H s.heap.objs.size=none:=I.hok.fresh (Nat.le_refl _)
theorem Inv.lstM (I:Inv X pins σ H s) (hH:H l=some (.lst xs)):xs.length<=sizeLine/\∃(its:List Value) (n:Nat),Vals xs its/\xs.length=its.length/\s.heap.get? l=some { cls:=.type "list",data:=.seq its.toArray n }:=by
 obtain⟨z,its,n,r,e⟩:=I.hok l _ hH
 exact⟨z,its,n,r,r.length,e⟩
theorem Ry {n:Nat} (h:n<=sizeLine):Builtin.List.listTooLong n=false:=by
 unfold Builtin.List.listTooLong
 exact decide_eq_false (by omega)
end
section
variable {X:Cx}
inductive Kr (x:V) (vs:List V) (H:Hp) (Q:VK):Prop where
 | mk:∀l xs y,x=.ref l->vs=[y]->H l=some (.lst xs)->xs.length <sizeLine->Q .non (upd H l (.lst (xs ++ [y])))->Kr x vs H Q
noncomputable def Ol:V->List V->Hp->VK->Prop:=fun x vs H Q=>Kr x vs H Q
theorem Pj:YT X "list.append" Ol:=by
 intro pins s σ H x vs v us Q I rx rv h
 obtain⟨l,xs,y,rfl,rfl,hH,hz,q⟩:=h
 cases rx
 obtain⟨u,rfl,ru⟩:=rv.one
 obtain⟨z,its,n,r,hl,e⟩:=I.lstM hH
 refine call_meets F.slot_list_append ⟨_,e,rfl⟩ F.entry_list_append (F.args_list_append_2 _ _) (PySem.list_append l its.toArray n u (by rw [List.size_toArray];omega)) ⟨e,?_⟩
 refine⟨.non,_,I.lset (its':=its ++ [u]) hH e (by simp) (r.append (.cons ru .nil)) ?_,rfl,q⟩
 rw [List.length_append,List.length_singleton]
 omega
inductive Kh (x:V) (vs:List V) (H:Hp) (Q:VK):Prop where
 | mk:∀l b xs zs,x=.ref l->vs=[.ref b]->H l=some (.lst xs)->H b=some (.lst zs)->xs.length+zs.length<=sizeLine->Q .non (upd H l (.lst (xs ++ zs)))->Kh x vs H Q
noncomputable def U5:V->List V->Hp->VK->Prop:=fun x vs H Q=>Kh x vs H Q
theorem Hj:YT X "list.extend" U5:=by
 intro pins s σ H x vs v us Q I rx rv h
 obtain⟨l,b,xs,zs,rfl,rfl,hH,hB,hz,q⟩:=h
 cases rx
 obtain⟨u,rfl,ru⟩:=rv.one
 cases ru
 obtain⟨z,its,n,r,hl,e⟩:=I.lstM hH
 obtain⟨z2,its2,n2,r2,hl2,e2⟩:=I.lstM hB
 have hsz:its.toArray.size+its2.toArray.size<=sizeLine:=by rw [List.size_toArray,List.size_toArray];omega
 have hlong:¬(!its.toArray.isEmpty && Builtin.List.listTooLong (its.toArray.size+its2.toArray.size))=true:=by
  rw [Ry hsz,Bool.and_false]
  exact Bool.false_ne_true
 refine call_meets F.slot_list_extend ⟨_,e,rfl⟩ F.entry_list_extend (F.args_list_extend_2 _ _)
  (AutoSeq1.list_extend_list_list_0 l its.toArray n b its2.toArray n2 hlong (by rw [List.size_toArray];omega) (by omega)) ⟨e,e2,?_⟩
 refine⟨.non,_,I.lset (its':=its ++ its2) hH e (by simp) (r.append r2) ?_,rfl,q⟩
 rw [List.length_append]
 omega
inductive Vf (x:V) (vs:List V) (H:Hp) (Q:VK):Prop where
 | mk:∀l xs y,x=.ref l->vs=[]->H l=some (.lst xs)->xs[xs.length - 1]?=some y->Q y (upd H l (.lst xs.dropLast))->Vf x vs H Q
noncomputable def Zy:V->List V->Hp->VK->Prop:=fun x vs H Q=>Vf x vs H Q
theorem Nj:YT X "list.pop" Zy:=by
 intro pins s σ H x vs v us Q I rx rv h
 obtain⟨l,xs,y,rfl,rfl,hH,hy,q⟩:=h
 cases rx
 have hus:=rv.zero
 subst hus
 obtain⟨z,its,n,r,hl,e⟩:=I.lstM hH
 obtain⟨u,hu,ru⟩:=r.get hy
 have hy':its.toArray[its.toArray.size - 1]?=some u:=by
  show its.toArray[its.length - 1]?=some u
  rw [<-Array.getElem?_toList,<-hl]
  exact hu
 refine call_meets F.slot_list_pop ⟨_,e,rfl⟩ F.entry_list_pop (F.args_list_pop_1 _) (MeetsSeq.list_pop_last l its.toArray n u hy' (by rw [List.size_toArray];omega)) ⟨e,?_⟩
 refine⟨y,_,I.lset (its':=its.dropLast) hH e ?_ r.dropLast ?_,ru,q⟩
 ·show its.toArray.eraseIdxIfInBounds (its.toArray.size - 1)=its.dropLast.toArray
  rw [List.size_toArray,List.eraseIdxIfInBounds_toArray,MN]
 ·rw [List.length_dropLast]
  omega
inductive Oh (x:V) (vs:List V) (H:Hp) (Q:VK):Prop where
 | mk:∀l xs i k y,x=.ref l->vs=[.int i]->H l=some (.lst xs)-> -(2 ^ 63)<=i->i <2 ^ 63->seqIndex? i xs.length=some k->xs[k]?=some y->Q y (upd H l (.lst (xs.eraseIdx k)))->Oh x vs H Q
noncomputable def WD:V->List V->Hp->VK->Prop:=fun x vs H Q=>Oh x vs H Q
theorem Di:YT X "list.pop" WD:=by
 intro pins s σ H x vs v us Q I rx rv h
 obtain⟨l,xs,i,k,y,rfl,rfl,hH,h1,h2,hk,hy,q⟩:=h
 cases rx
 obtain⟨u,rfl,ru⟩:=rv.one
 obtain⟨t,rfl⟩:=ru
 obtain⟨z,its,n,r,hl,e⟩:=I.lstM hH
 obtain⟨w,hw,rw'⟩:=r.get hy
 refine call_meets F.slot_list_pop ⟨_,e,rfl⟩ F.entry_list_pop (F.args_list_pop_2 _ _)
  (MeetsSeq.list_pop_at l its.toArray n i t k w (fitsIndex_both h1 h2) (by rw [List.size_toArray,<-hl];exact hk) (by rw [<-Array.getElem?_toList];exact hw) (by rw [List.size_toArray];omega)) ⟨e,?_⟩
 refine⟨y,_,I.lset (its':=its.eraseIdx k) hH e ?_ (r.eraseIdx k) ?_,rw',q⟩
 ·show its.toArray.eraseIdxIfInBounds k=(its.eraseIdx k).toArray
  rw [List.eraseIdxIfInBounds_toArray]
 ·have:=Hm xs k
  omega
inductive Vd (x:V) (y:V) (H:Hp) (Q:VK):Prop where
 | mk:∀l b xs zs,x=.ref l->y=.ref b->H l=some (.lst xs)->H b=some (.lst zs)->xs.length+zs.length<=sizeLine->(∀p,H p=none->Q (.ref p) (upd H p (.lst (xs ++ zs))))->Vd x y H Q
noncomputable def Zn:R2:=fun x y H Q=>Vd x y H Q
theorem RC:wN X (binaryOp .Add) Zn:=by
 intro pins s σ H x y v u Q I rx ry h
 obtain⟨l,b,xs,zs,rfl,rfl,hH,hB,hz,q⟩:=h
 cases rx
 cases ry
 obtain⟨z,its,n,r,hl,e⟩:=I.lstM hH
 obtain⟨z2,its2,n2,r2,hl2,e2⟩:=I.lstM hB
 refine PySem.P.add_list e e2 ?_ (by rw [List.size_toArray,List.size_toArray];omega)
 have ea:its.toArray ++ its2.toArray=(its ++ its2).toArray:=by simp
 rw [ea]
 exact⟨.ref _,_,I.lnew (t':=s.toks) (r.append r2) (by rw [List.length_append];omega),rfl,q _ I.fresh⟩
end
section
variable {prog:Program} {w:World} {A:Around} {E:Value->Shared->Prop} {s:Shared}
end
section
variable {X:Cx}
end
end L2
namespace Att
open PySem PySem.W PySem.Calls PyProof.Rows
theorem Cv {P:Params} {h:Heap}:∀(ns:List Int) (vs:List Value),WellAll P h vs (ns.map WData.int)->IntsAre vs ns:=by
 intro ns
 induction ns with
 | nil=>
  intro vs w
  rw [List.map_nil] at w
  cases w
  exact .nil
 | cons n ns ih=>
  intro vs w
  rw [List.map_cons] at w
  cases w with
  | cons a b=>
   cases a
   exact .cons _ _ (ih _ b)
theorem Pq {l:OpenLaw} {n:Nat} (hn:l.most=some n) {P:Params} {h:Heap} {args:List WData} {vals:List Value}
  (hpre:l.row.toRowW.claim.pre args=true) (hwl:WellAll P h vals args):
  ∃a vs ns,vals=[Value.ref a]/\args=[WData.list (ns.map WData.int)]/\h.get? a=some { cls:=.type "list",data:=.seq vs.toArray }/\IntsAre vs ns/\ns.length<=n:=by
 have hsh:WShape.hasAll [] args [.list .int]=true:=(pre_splitW hpre).1
 have hc:l.pre.holds [] { args:=args }=true:=(pre_splitW hpre).2
 obtain⟨d,r,rfl,h1,h2⟩:=hasAllW_cons hsh
 obtain rfl:=hasAllW_nil h2
 obtain⟨xs,rfl,h3⟩:=hasW_list h1
 obtain⟨ns,rfl⟩:=items_int h3
 have hlen:ns.length<=n:=by
  unfold OpenLaw.pre at hc
  have h4:(WTm.not (.lt (.lit (.int (n:Int))) (.len (.arg 0)))).holds [] { args:=[.list (ns.map .int)] }=true:=by
   have h4:=(holds_andW hc).1
   rw [hn] at h4
   exact h4
  have h5:=condW_of h4 (w_not (w_lt w_lit (w_len_list (w_arg rfl))))
  rw [List.length_map] at h5
  refine Nat.le_of_not_lt fun q=>?_
  have q':(n:Int) <((ns.length:Nat):Int):=by omega
  first
   | (rw [decide_eq_true q'] at h5;exact absurd h5 (by decide))
   | (simp at h5;omega)
 cases hwl with
 | cons w1 w2=>
  cases w2
  cases w1 with
  | list ho hall=>exact⟨_,_,ns,rfl,rfl,ho,Cv ns _ hall,hlen⟩
theorem O7 (l:OpenLaw) (args:List WData):l.row.toRowW.claim.post args (.bool true) args=true:=
 postW_of (r:=l.row.toRowW) (X:=(true == true))
  (show WShape.has [] (.bool true) .bool=true by first | rfl | decide | simp [WShape.has,WShape.arms,WShape.armsAll])
  (show(WTm.eq .res (.lit (.bool true))).value [] { args:=args,res:=some (.bool true),after:=args }=some (.bool (true == true)) from w_eq_bool (w_res rfl) w_lit) rfl
theorem Li {l:OpenLaw} {n:Nat} {q:Program} {loose:List Str} {XP:(Str->Option Value)->Heap->Prop} {YP:World->Heap->Prop} {d:DefRec}
  (hn:l.most=some n) (hdf:d.params.defaults=[])
  (call:∀(w:World) (s₀ s₁:Shared) (mg mb:Str->Option Value) (fa:Addr) (o:Obj) (pm cd doc:Value) (a:Addr) (vs:List Value) (ns:List Int),
   Ground q loose [] XP w s₀ mg mb s₁.heap->YP w s₁.heap->
   s₁.heap.get? fa=some o->o.data=.func (docDef d.name d.params d.body d.scope pm cd doc)->s₁.heap.CodeRec cd d.name->mg d.name=some (.ref fa)->
   s₁.heap.get? a=some { cls:=.type "list",data:=.seq vs.toArray }->IntsAre vs ns->ns.length<=n->s₁.gens= #[]->
   codeAny (model l.prog w) callerA (.call (.ref fa) ⟨[.ref a],[]⟩) (fun r s'=>r=.ok (.ret (.bool true))/\OldK s₁.heap s'.heap/\s'.os=s₁.os/\AllBare s'.gens) s₁):
  WalkO q loose XP YP l.row.toRowW d [] (fun f vs=>PySem.call f vs):=by
 intro w s₀ s₁ mg mb G Y fa o pm cd doc dV kV ho hd hcd hD hmg hg args vals as hpre hlay hrd hwl hlo
 obtain rfl:dV=.none:=Dflts.none hD hdf
 obtain rfl:kV=.none:=Dflts.noKw hD
 obtain⟨a,vs,ns,rfl,rfl,hobj,hints,hlen⟩:=Pq hn hpre hwl
 refine enter_call (codeAny_mono (call w s₀ s₁ mg mb fa o pm cd doc a vs ns G Y ho (fd_plain hd) hcd hmg hobj hints hlen hg) fun r s' hq=>?_)
 obtain⟨rfl,h2,h3,h4⟩:=hq
 exact⟨.inl ⟨.bool true,.bool true,[],rfl,fun _=>rfl,.bool true,O7 l _,fun _=>⟨List.Pairwise.nil,fun _ hm=>(nomatch hm)⟩⟩,h2,h3,h4⟩
section
variable {prog:Program} {w:World} {A:Around} {E:Value->Shared->Prop} {s:Shared} {K:Frag}
end
end Att
namespace L2
open PySem PySem.Spec PyProof.Rows
theorem Gs:∀{vs:List Value} {ns:List Int},IntsAre vs ns->Vals (ns.map V.int) vs
 | _,_,.nil=>.nil
 | _,_,.cons n t h=>.cons ⟨t,rfl⟩ (Gs h)
noncomputable def Only (H:Hp):Prop:=∀b,H b=none∨∃o xs,H b=some (.frz o (.lst xs))
theorem S7 {P:Program} {w:World} {K:PySem.W.Frag} {mg mb:Str->Option Value} {CX:Hu} {k:Nat} {fa a:Addr} {fd:FuncData} {x:Str} {sp:Sp} {s₁:Shared} {vs:List Value} {ns:List Int}
  (KX:K.In s₁.heap) (hns:s₁.heap.Ns mainGlobals mg) (hb:s₁.heap.Ns builtinsNs mb) (hbb:∀x:Str,x≠ "__name__" ->mb x=bootBuiltins x) (hlim:s₁.heap.NoLimit) (hg:s₁.gens= #[])
  (ha:s₁.heap.get? a=some { cls:=.type "list",data:=.seq vs.toArray }) (hi:IntsAre vs ns) (hl:ns.length<=sizeLine) (hr:jM k callerA)
  (F:∀base:Heap,K.In base->base.Ns mainGlobals mg->jB P w K mg base CX k fa fd [x] sp) (hbind:∀(s:Shared) (u:Value),BindsTo s fd ⟨[u],[]⟩ [(x,u)])
  (hsp:∀H:Hp,Only H->bK K H a (ns.map V.int)->sp [.ref a] H (fun v _=>v=.bl true) fun _ _ _=>False)
  (hCX:∀H e s',CX [] H s₁ (fun _ _ _=>False) e s'->False):
  codeAny (model P w) callerA (.call (.ref fa) ⟨[.ref a],[]⟩) (fun r s'=>r=.ok (.ret (.bool true))/\OldK s₁.heap s'.heap/\s'.os=s₁.os/\AllBare s'.gens) s₁:=by
 have rv:=Gs hi
 have lenV:=hi.length
 have core:∀H:Hp,Only H->bK K H a (ns.map V.int)->wK P w H s₁.heap->(∀b,H b≠none->b=a)->(H a≠none->K.lookup a=none)->
   codeAny (model P w) callerA (.call (.ref fa) ⟨[.ref a],[]⟩) (fun r s'=>r=.ok (.ret (.bool true))/\OldK s₁.heap s'.heap/\s'.os=s₁.os/\AllBare s'.gens) s₁:=by
  intro H hO hS hok hA hK
  have base_of:∀{b:Addr} {o:Obj},s₁.heap.get? b=some o->H b=none->(Jm s₁.heap H).get? b=some o:=fun e n=>SN e n
  have noA:∀{b:Addr} {o:Obj} {es:Array DictEntry} {ep:Nat},s₁.heap.get? b=some o->o.data=.dict es ep->H b=none:=fun {b o es ep} e d=>by
   cases q:H b with
   | none=>rfl
   | some u=>
    have e':b=a:=hA b (by rw [q];simp)
    subst e'
    rw [ha] at e;cases e
    have d':Data.seq vs.toArray _=Data.dict es ep:=d
    cases d'
  have Ql:∀{b:Addr} {m:Str->Option Value},s₁.heap.Ns b m->(Jm s₁.heap H).Ns b m:=fun {b m} ⟨o,es,ep,e,d,r⟩=>⟨o,es,ep,base_of e (noA e d),d,r⟩
  have hKb:K.In (Jm s₁.heap H):=fun b o e=>base_of (KX b o e) (by
   cases q:H b with
   | none=>rfl
   | some u=>
    have e':b=a:=hA b (by rw [q];simp)
    subst e'
    rw [hK (by rw [q];simp)] at e;cases e)
  have hM:Mod K mg (Jm s₁.heap H):=⟨hKb,Ql hns,⟨mb,Ql hb,hbb⟩,let ⟨mc,h1,h2⟩:=hlim;⟨mc,Ql h1,h2⟩⟩
  have e0:Mp P w K mg (Jm s₁.heap H) callerA [] s₁ H:=⟨rfl,hM,fun b o e=>Th e,Nat.le_of_eq (P0 _ _),trivial,fun b hb=>absurd (show b∈([]:List Addr) from hb) (by simp),hok,.of_eq hg⟩
  refine codeAny_mono ((F _ hKb (Ql hns)).run callerA [] s₁ H ⟨[.ref a],[]⟩ [.ref a] [.ref a] _ _ hr e0 (hbind s₁ (.ref a)) (.cons rfl .nil) (hsp H hO hS)) fun r s' h=>?_
  cases r with
  | error e=>exact(hCX H e s' h).elim
  | ok fl=>
   cases fl with
   | next=>exact False.elim h
   | brk=>exact False.elim h
   | cont=>exact False.elim h
   | ret u=>
    obtain⟨v,H',os,bare,un,hok',r',q⟩:=h
    have q':v=.bl true:=q
    subst q'
    obtain rfl:u=Value.bool true:=r'
    refine⟨rfl,OldK.of_keep fun b o e=>?_,os,bare⟩
    cases q:H b with
    | none=>exact un.keep b o e q (by intro z;exact absurd (show b∈([]:List Addr) from z) (by simp)) (by simp)
    | some u=>
     rcases hO b with z | ⟨ob,xs,z⟩
     ·rw [q] at z;cases z
     ·have z2:=un.frzs b ob _ z
      obtain⟨e1,_⟩:=hok b _ z
      obtain⟨e2,_⟩:=hok' b _ z2
      rw [e] at e1;cases e1
      exact e2
 cases hk:K.lookup a with
 | some o=>
  have e:=KX a o hk
  rw [ha] at e
  cases e
  refine core (fun _=>none) (fun _=>.inl rfl) (.inr ⟨_,vs.toArray,_,hk,rfl,rfl,rfl,by rw [List.size_toArray,lenV];exact hl,by simpa using rv⟩) (fun b u z=>by have z':(none:Option HO)=some u:=z;cases z') (fun b z=>absurd rfl z) fun z=>absurd rfl z
 | none=>
  refine core (fun b=>if b=a then some (.frz { cls:=.type "list",data:=.seq vs.toArray } (.lst (ns.map V.int))) else none) (fun b=>?_) (.inl (.inr ⟨{ cls:=.type "list",data:=.seq vs.toArray },if_pos rfl⟩)) (fun b u z=>?_) (fun b z=>?_) fun _=>hk
  ·by_cases hb:b=a
   ·exact .inr ⟨_,_,if_pos hb⟩
   ·exact .inl (if_neg hb)
  ·by_cases hb:b=a
   ·have z':=(if_pos hb).symm.trans z
    cases z'
    subst hb
    exact⟨ha,by rw [List.length_map];exact hl,vs,_,rv,ha⟩
   ·have z':=(if_neg hb).symm.trans z
    cases z'
  ·by_cases hb:b=a
   ·exact hb
   ·exact absurd (if_neg hb) z
theorem Ub {l:PySem.W.OpenLaw} {n k:Nat} {q:Program} {loose:List Str} {XP:(Str->Option Value)->Heap->Prop} {YP:World->Heap->Prop} {d:DefRec} {K:Params->PySem.W.Frag} {CX:World->Hu} {sp:World->Sp} {x:Str}
  (hn:l.most=some n) (hn2:n<=sizeLine) (hdf:d.params.defaults=[]) (hr:jM k callerA)
  (hY:∀(w:World) (h:Heap),YP w h->(K w.params).In h)
  (F:∀(w:World) (mg:Str->Option Value) (fa:Addr) (h:Heap),(K w.params).In h->h.Ns mainGlobals mg->mg d.name=some (.ref fa)->
   ∃fd:FuncData,(∀(s:Shared) (u:Value),BindsTo s fd ⟨[u],[]⟩ [(x,u)])/\
    ∀base:Heap,(K w.params).In base->base.Ns mainGlobals mg->jB l.prog w (K w.params) mg base (CX w) k fa fd [x] (sp w))
  (hsp:∀(w:World) (H:Hp) (a:Addr) (ns:List Int),ns.length<=n->Only H->bK (K w.params) H a (ns.map V.int)->sp w [.ref a] H (fun v _=>v=.bl true) fun _ _ _=>False)
  (hCX:∀(w:World) (H:Hp) (s:Shared) (e:Value) (s':Shared),CX w [] H s (fun _ _ _=>False) e s'->False):
  PySem.W.WalkO q loose XP YP l.row.toRowW d [] (fun f vs=>PySem.call f vs):=by
 refine Att.Li hn hdf fun w s₀ s₁ mg mb fa o pm cd doc a vs ns G Y ho hd hcd hmg hobj hints hlen hg=>?_
 have KX:=hY w _ Y
 obtain⟨fd,hb,hF⟩:=F w mg fa _ KX G.T.g hmg
 exact S7 KX G.T.g G.T.b G.T.builtins G.T.nolimit hg hobj hints (Nat.le_trans hlen hn2) hr hF hb (fun H hO hS=>hsp w H a ns hlen hO hS) fun H e s'=>hCX w H s₁ e s'
noncomputable def inClass (s:Stmt) (j:Nat):Stmt:=match s with
 | .ClassDef _ _ _ body _ _ _ _ _ _ _=>body.getD j (.Pass ⟨0,0,0,0⟩)
 | _=>.Pass ⟨0,0,0,0⟩
noncomputable def jG (s:Stmt):Arguments:=match s with
 | .FunctionDef _ a _ _ _ _ _ _ _ _=>a
 | _=>{ posonlyargs:=[],args:=[],vararg:=none,kwonlyargs:=[],kw_defaults:=[],kwarg:=none,defaults:=[] }
noncomputable def iZ (s:Stmt):List Stmt:=match s with
 | .FunctionDef _ _ b _ _ _ _ _ _ _=>b
 | _=>[]
noncomputable def bc (s:Stmt):Scope:=match s with
 | .FunctionDef _ _ _ _ _ _ sc _ _ _=>sc
 | _=>{ kind:=.function,names:=[],isGenerator:=false,isCoroutine:=false }
noncomputable abbrev Ao:Hu:=fun _ _ _ _ _ _=>False
noncomputable abbrev E0:XK:=fun _ _ _=>False
theorem fQ {X:Cx}:rR Ao X E0:=fun _ _ _ _ _ _ _ h=>h.elim
structure Vv (K:PySem.W.Frag) (x qual:Str) (st:Stmt) (f:Addr) (fd:FuncData):Prop where
 ex:∃(oc:Value) (od:Option Addr) (kV doc pm:Value) (an:Option Addr) (cdv ct:Value) (osl:Array (Option Value)),
  fd=PySem.W.fnOf x qual (jG st) (iZ st) (bc st) .none kV doc pm an cdv ct/\K.lookup f=some ⟨oc,od,.func fd,osl⟩/\PySem.W.codeIn K cdv qual=true
 kp:PySem.W.keepIn K (.ref f)=true
section
variable {P:Program} {w:World} {K:PySem.W.Frag} {mg:Str->Option Value} {base:Heap}
theorem Vv.ok {x qual:Str} {st:Stmt} {f:Addr} {fd:FuncData} {N ps:List Str} {k:Nat} {sp:Sp} (F:Vv K x qual st f fd) (S:gm N ps (bc st)) (len:∀vs H Q E,sp vs H Q E->vs.length=ps.length)
  (hbody:∀(cdv:Value) (A:Around) (outer:List Env) (s:Shared) (H:Hp) (vs:List V) (Q:VK) (E:XK),jM k (A.deeper (envOfC qual (bc st) s.heap.objs.size f cdv))->sp vs H Q E->
   ∃t,N8 (Ni Ao P w K mg base N qual (bc st) f cdv A outer s H E).nox (iZ st) t/\t { nx:=fun _ H'=>Q .non H',rt:=Q } (start N vs) H):jB P w K mg base Ao (k+1) f fd ps sp:=by
 obtain⟨oc,od,kV,doc,pm,an,cdv,ct,osl,rfl,lk,hcd⟩:=F.ex
 refine VF lk hcd S len fun A outer s H vs Q E hr hsp=>?_
 obtain⟨t,h,q⟩:=hbody cdv A outer s H vs Q E hr hsp
 exact⟨t,h.nox,q⟩
theorem Vv.binds {x qual:Str} {st:Stmt} {f:Addr} {fd:FuncData} {ps:List Str} (F:Vv K x qual st f fd)
  (h:∀(kV doc pm:Value) (an:Option Addr) (cdv ct:Value) (us:List Value),us.length=ps.length->bindArgs (PySem.W.fnOf x qual (jG st) (iZ st) (bc st) .none kV doc pm an cdv ct) ⟨us,[]⟩=pure (ps.zip us)):Binds K fd ps []:=by
 obtain⟨oc,od,kV,doc,pm,an,cdv,ct,osl,rfl,lk,hcd⟩:=F.ex
 exact .all (h kV doc pm an cdv ct)
theorem We {x qual:Str} {st:Stmt} {f:Addr} {oc:Value} {od an:Option Addr} {osl:Array (Option Value)} {kV doc pm cdv ct:Value} (l:K.lookup f=some ⟨oc,od,.func (PySem.W.fnOf x qual (jG st) (iZ st) (bc st) .none kV doc pm an cdv ct),osl⟩)
  (c:PySem.W.codeIn K cdv qual=true) (k:PySem.W.keepIn K (.ref f)=true):Vv K x qual st f (PySem.W.fnOf x qual (jG st) (iZ st) (bc st) .none kV doc pm an cdv ct):=⟨⟨oc,od,kV,doc,pm,an,cdv,ct,osl,rfl,l,c⟩,k⟩
end
section
variable {X:Cx}
theorem pv (i:Nat) {x:Str} {pos:Pos} (hN:X.N[i]?=some x:=by rfl) (hv:YM X.env.scope x:=by first | exact Or.inl rfl | exact Or.inr (Or.inl rfl) | exact Or.inr (Or.inr rfl)) (hd:(x == ("__debug__" :Str))=false:=by decide)
  (hcd:(x == ("__classdict__" :Str))=false:=by decide):PE X (.Name x pos) (YD i):=WN hN hv hd hcd
end
theorem fu {A B:Prop} (h:B):if false=true then A else B:=by
 rw [if_neg Bool.false_ne_true]
 exact h
theorem kJ {A B:Prop} (h:A):if true=true then A else B:=by
 rw [if_pos rfl]
 exact h
theorem kO {c A B:Prop} [Decidable c] (h1:c->A) (h2:¬c->B):if c then A else B:=by
 by_cases h:c
 ·rw [if_pos h]
  exact h1 h
 ·rw [if_neg h]
  exact h2 h
noncomputable def aJ (H H':Hp):Prop:=∀b o,H b=some o->H' b=some o
theorem aJ.refl (H:Hp):aJ H H:=fun _ _ h=>h
theorem aJ.trans {H H1 H2:Hp} (a:aJ H H1) (b:aJ H1 H2):aJ H H2:=fun c o h=>b c o (a c o h)
theorem aJ.free {H H':Hp} (e:aJ H H') {l:Addr} (h:H' l=Option.none):H l=Option.none:=by
 cases q:H l with
 | none=>rfl
 | some o=>
  rw [e l o q] at h
  cases h
theorem aJ.seq {K:PySem.W.Frag} {H H':Hp} {a:Addr} {xs:List V} (e:aJ H H') (h:bK K H a xs):bK K H' a xs:=by
 rcases h with (h | ⟨o,h⟩) | h
 ·exact .inl (.inl (e _ _ h))
 ·exact .inl (.inr ⟨o,e _ _ h⟩)
 ·exact .inr h
end L2
set_option maxHeartbeats 4000000
namespace L2
open PySem PySem.Spec PyProof.Rows
theorem PB {P:Program} {w:World} {H:Hp} {h:Heap} {a:Addr} {o:HO} (x:wK P w H h) (hn:H a=none) (new:fZ P w (upd H a o) h a o):wK P w (upd H a o) h:=fun b u e=>by
 by_cases hb:b=a
 ·subst hb;rw [ao] at e;cases e;exact new
 ·rw [aH hb] at e
  exact(x b u e).stay (fun c v _ q=>q) (fun c q=>by rw [aH (aD q hn)];exact q) fun c xs q=>by rw [aH (aD q hn)];exact q
theorem Eh {α β:Type} {f:α->β->Sem (ForInStep β)} (g:α->β->β):∀(l:List α) (c:β),(∀x∈l,∀c,f x c=pure (.yield (g x c)))->forIn l c f=pure (l.foldl (fun c x=>g x c) c)
 | [],_,_=>rfl
 | x:: l,c,h=>by
  rw [List.forIn_cons,h x List.mem_cons_self,pure_bind]
  exact Eh g l (g x c) fun y hy=>h y (List.mem_cons_of_mem _ hy)
noncomputable def xg (env:Env) (x:Str×NameKind) (cs:List (Str×Addr)):List (Str×Addr):=
 if x.2=.free then(match env.cells.lookup x.1 with | some c=>(x.1,c):: cs | none=>cs) else cs
noncomputable def clos (env:Env) (l:List (Str×NameKind)) (c:List (Str×Addr)):List (Str×Addr):=l.foldl (fun c x=>xg env x c) c
theorem mC {env:Env} {scope:Scope} (h:∀y∈scope.names,y.2=.free->∃c,env.cells.lookup y.1=some c):closureFor scope env=pure (clos env scope.names []):=by
 simp only [closureFor]
 rw [Eh (xg env) scope.names [] fun x hx c=>?_]
 ·rfl
 ·obtain⟨n,k⟩:=x
  by_cases hk:k=.free
  ·subst hk
   obtain⟨a,ha⟩:=h _ hx rfl
   have ha':env.cells.lookup n=some a:=ha
   simp [cellOf,ha',xg]
  ·have:(k == NameKind.free)=false:=by simpa using hk
   simp [this,xg,hk]
theorem J9 {env:Env}:∀(l:List (Str×NameKind)) (c:List (Str×Addr)),(∀y a,c.lookup y=some a->env.cells.lookup y=some a)->∀y a,(clos env l c).lookup y=some a->env.cells.lookup y=some a
 | [],_,h=>h
 | x:: l,c,h=>by
  refine J9 l (xg env x c) fun y a e=>?_
  unfold xg at e
  by_cases hk:x.2=.free
  ·rw [if_pos hk] at e
   cases q:env.cells.lookup x.1 with
   | none=>rw [q] at e;exact h y a e
   | some b=>
    rw [q] at e
    by_cases hy:(y == x.1)=true
    ·have:y=x.1:=by simpa using hy
     subst this
     have e':((x.1,b):: c).lookup x.1=some a:=e
     simp [List.lookup_cons] at e'
     rw [q,e']
    ·have hy':(y == x.1)=false:=by simpa using hy
     have e':((x.1,b):: c).lookup y=some a:=e
     rw [List.lookup_cons,hy'] at e'
     exact h y a e'
  ·rw [if_neg hk] at e;exact h y a e
theorem Fv {env:Env}:∀(l:List (Str×NameKind)) (c:List (Str×Addr)) (y:Str),((∃a,c.lookup y=some a)∨∃k∈l,k.1=y/\k.2=.free/\∃a,env.cells.lookup y=some a)->∃a,(clos env l c).lookup y=some a
 | [],_,_,h=>by
  rcases h with h | ⟨k,hk,_⟩
  ·exact h
  ·cases hk
 | x:: l,c,y,h=>by
  refine Fv l (xg env x c) y ?_
  have up:(∃a,c.lookup y=some a)->∃a,(xg env x c).lookup y=some a:=fun⟨a,e⟩=>by
   unfold xg
   split
   ·split
    ·rename_i b q
     by_cases hy:(y == x.1)=true
     ·exact⟨b,by rw [List.lookup_cons,hy]⟩
     ·have hy':(y == x.1)=false:=by simpa using hy
      exact⟨a,by rw [List.lookup_cons,hy'];exact e⟩
    ·exact⟨a,e⟩
   ·exact⟨a,e⟩
  rcases h with h | ⟨k,hk,h1,h2,a,h3⟩
  ·exact .inl (up h)
  ·rcases List.mem_cons.mp hk with e | hk
   ·subst e
    left
    unfold xg
    rw [if_pos h2,h1,h3]
    exact⟨a,by simp [List.lookup_cons]⟩
   ·exact .inr ⟨k,hk,h1,h2,a,h3⟩
theorem vN (scope:Scope) (env:Env) (y:Str):(relabel scope env).names.lookup y=(scope.names.lookup y).map fun k=>if (k == NameKind.free && env.scope.kind == .function && env.kindOf y == some .cell)=true then .cell else k:=by
 show(scope.names.map _).lookup y=_
 induction scope.names with
 | nil=>rfl
 | cons p l ih=>
  obtain⟨n,k⟩:=p
  rw [List.map_cons]
  show List.lookup y ((if (k == NameKind.free && env.scope.kind == .function && env.kindOf n == some .cell)=true then(n,NameKind.cell) else(n,k)):: _)=_
  by_cases hy:(y == n)=true
  ·have:y=n:=by simpa using hy
   subst this
   by_cases hc:(k == NameKind.free && env.scope.kind == .function && env.kindOf y == some .cell)=true
   ·rw [if_pos hc]
    simp only [List.lookup_cons,beq_self_eq_true,Option.map_some]
    rw [if_pos hc]
   ·rw [if_neg hc]
    simp only [List.lookup_cons,beq_self_eq_true,Option.map_some]
    rw [if_neg hc]
  ·have hy':(y == n)=false:=by simpa using hy
   by_cases hc:(k == NameKind.free && env.scope.kind == .function && env.kindOf n == some .cell)=true
   ·rw [if_pos hc]
    simp only [List.lookup_cons,hy']
    exact ih
   ·rw [if_neg hc]
    simp only [List.lookup_cons,hy']
    exact ih
noncomputable def dM (N:List Str) (js:List Nat):List Str:=js.map fun j=>(N[j]?).getD Str.empty
noncomputable def dZ (σ:St) (js:List Nat):St:=js.map fun j=>(σ[j]?).join
noncomputable def Ar (X:Cx) (scope:Scope) (x:Str) (js:List Nat) (cl:List (Str×Addr)) (C:Addr) (s:Shared) (H:Hp) (ex:List Addr):Cx where
 prog:=X.prog
 w:=X.w
 K:=X.K
 mg:=X.mg
 base:=X.base
 A:=X.A
 N:=x:: dM X.N js
 s₀:=s
 H₀:=H
 env:=compEnvC scope cl C X.env
 outer:=X.stack
 stack:=X.stack
 ex:=ex
 fn:=fun _=>false
 calm:=X.calm
 pn:=[]
 xe:=fun _ _=>False
noncomputable def PF (X:Cx) (ifs:List Expr) (t:TT):Prop:=
 ∀(pins:List (Addr×Obj)) (s:Shared) (σ:St) (H:Hp) (Q:Bool->Hp->Prop),Inv X pins σ H s->t σ H Q->
  wpAny (model X.prog X.w) X.A (forIn ifs true fun c r=>if r=true then do let ok <-isTrue c X.env (eval c X.env);pure (ForInStep.yield ok) else pure (ForInStep.yield r)) (TP X pins σ Q) X.xe s
noncomputable def Yh:TT:=fun _ H Q=>Q true H
theorem f9 {X:Cx}:PF X [] Yh:=fun _ _ _ H _ I h=>wpAny_pure ⟨H,I,h⟩
theorem vV {X:Cx} {c:Expr} {t:TT} (hc:PT X c t):PF X [c] t:=by
 intro pins s σ H Q I h
 rw [List.forIn_cons,if_pos rfl]
 refine wpAny_bind (wpAny_bind (eX (hc pins s σ H Q I h) fun b s1 q=>wpAny_pure ?_))
 show wpAny (model X.prog X.w) X.A (pure b) (TP X pins σ Q) X.xe s1
 exact wpAny_pure q
inductive CompEnd (js:List Nat) (tt:TT) (te:TE) (σ:St) (Qd:List V->Hp->Prop) (J:It) (H1:Hp):Prop where
 | mk:∀W:Nat->Nat->List V->Hp->Prop,((∃m,W 0 m [] H1))->(∀i m ys H2,W i m ys H2->
 (J.stop i H2/\ys.length<=sizeLine/\Qd ys H2)∨
 (J.go i H2/\ys.length <sizeLine/\∃N:List V->Hp->Prop,(∀ys' H',N ys' H'->∃m',m' <m/\W (i+1) m' ys' H')/\∀x H3,J.yld i H2 x H3->tt (some x:: dZ σ js) H3 fun b H4=>
  if b=true then te (some x:: dZ σ js) H4 fun y H5=>N (ys ++ [y]) H5 else N ys H4))->CompEnd js tt te σ Qd J H1
noncomputable def Vc (js:List Nat) (wi:TI) (tt:TT) (te:TE):TE:=fun σ H Q=>wi σ H (CompEnd js tt te σ fun ys H2=>∀D,H2 D=none->Q (.ref D) (upd H2 D (.lst ys)))
section
variable {X:Cx} {x:Str} {px pos:Pos} {iter elt:Expr} {ifs:List Expr} {scope:Scope} {wi:TI} {tt:TT} {te:TE}
end
section
variable {X:Cx}
theorem mV:wN X (binaryOp .Mult) (rI IntMulOk fun i j=>.int (i * j)):=Xw fun _ _ _ _ _ _ _ hc q=>mul_int q hc
noncomputable def Vu (_ j:Int):Prop:=0 <j/\j.natAbs.log2 <9000
theorem K9:wN X (binaryOp .FloorDiv) (rI Vu fun i j=>.int (i / j)):=Xw fun i j _ _ _ _ _ hc q=>by
 have h1:(0:Int) <j:=hc.1
 exact floordiv_int (by omega) (by rw [Int.fdiv_eq_ediv_of_nonneg i (by omega)];exact q) (.inl (PyProof.noPylong_of_log2 hc.2))
theorem Vq {i j:Int} (h0:0 <j) (h:j.natAbs <2 ^ 9000):Vu i j:=⟨h0,(Nat.log2_lt (by omega)).mpr h⟩
noncomputable def YQ (K:PySem.W.Frag) (H:Hp) (x:V) (T:String):Prop:=match x with
 | .non=>T= "NoneType"
 | .bl _=>T= "bool"
 | .int _=>T= "int"
 | .str _=>T= "str"
 | .ref p=>(T= "list" /\∃xs,bK K H p xs)∨(T= "tuple" /\∃xs,fC K H p xs)∨(T= "dict" /\∃kvs,H p=some (.dK kvs))
 | _=>False
noncomputable def KN (a b:String):Bool:=a == b || (a == "bool" && b == "int")
noncomputable def Oe:List String:=["int", "bool", "str", "list", "tuple", "dict"]
noncomputable def qR:List String:=["NoneType", "bool", "int", "str", "list", "tuple", "dict"]
theorem Ro:∀T∈Oe,PySem.W.kitMeta T=true:=by decide +kernel
theorem TJ:∀a∈qR,∀b∈Oe,(PySem.fastBuiltinMro a).map (·.contains (.type b))=some (KN a b):=by decide +kernel
theorem TQ (K:PySem.W.Frag) {a b:String} (ha:a∈qR) (hb:b∈Oe):PySem.W.kitOne K (.type a) (.type b)=some (KN a b):=by
 unfold PySem.W.kitOne
 by_cases h:(Value.type a == Value.type b)=true
 ·rw [if_pos h]
  have e:a=b:=by
   have:=beq_iff_eq.mp h
   injection this
  subst e
  simp [KN]
 ·rw [if_neg h]
  show(if PySem.W.kitMeta b=true then PySem.W.subIn K (.type a) (.type b) else none)=_
  rw [if_pos (Ro b hb)]
  exact TJ a ha b hb
theorem zQ:lu X (.builtin "isinstance") (fun xs H Q=>∃x Tx T b,xs=[x,.ty T]/\YQ X.K H x Tx/\T∈Oe/\KN Tx T=b/\Q (.bl b) H):=by
 intro pins s σ H xs us Q I r h
 obtain⟨x,Tx,T,b,rfl,ty,hT,rfl,q⟩:=h
 obtain⟨u,w',rfl,rx,ry⟩:=vals2 r
 cases ry
 have fin:∀{b:Bool},b=KN Tx T->∀tk,EP X pins σ Q (.bool b) { s with toks:=tk }:=fun e tk=>⟨.bl (KN Tx T),H,I.tok tk,by rw [e];rfl,q⟩
 have go:∀{P:Heap->Prop},PySem.W.KitX X.K u (.type Tx) P->P s.heap->Tx∈qR->u≠.builtin "__main__.__loader__#opaque" ->wpAny (model X.prog X.w) X.A (call (.builtin "isinstance") [u,.type T]) (EP X pins σ Q) X.xe s:=fun Z p hm hx=>
  PySem.W.kia_one Z I.kIn p (TQ X.K hm hT) hx fun tk=>fin rfl tk
 cases x with
 | non=>cases rx;cases (show Tx= "NoneType" from ty);exact go PySem.W.kitx_none trivial (by decide) (by intro e;cases e)
 | bl b=>cases rx;cases (show Tx= "bool" from ty);exact go PySem.W.kitx_bool trivial (by decide) (by intro e;cases e)
 | int i=>obtain⟨t,rfl⟩:=rx;cases (show Tx= "int" from ty);exact go PySem.W.kitx_int trivial (by decide) (by intro e;cases e)
 | str z=>obtain⟨t,rfl⟩:=rx;cases (show Tx= "str" from ty);exact go PySem.W.kitx_str trivial (by decide) (by intro e;cases e)
 | ref p=>
  cases rx
  rcases ty with ⟨rfl,ys,hq⟩ | ⟨rfl,ys,hq⟩ | ⟨rfl,kvs,hq⟩
  ·obtain⟨its,_,pl,_⟩:=I.list hq
   obtain⟨o,n,e,c,_,_⟩:=pl
   exact go PySem.W.kitx_list ⟨o,e,c⟩ (by decide) (by intro e;cases e)
  ·obtain⟨its,_,⟨o,e,c,_⟩,_⟩:=I.tuple hq
   exact go PySem.W.kitx_tuple ⟨o,e,c⟩ (by decide) (by intro e;cases e)
  ·obtain⟨_,_,_,_,o,_,_,e,ex,_⟩:=I.hok p _ hq
   exact go PySem.W.kitx_dict ⟨o,e,ex.1⟩ (by decide) (by intro e;cases e)
 | _=>exact(show False from ty).elim
inductive Q8 (K:PySem.W.Frag) (x:V) (xs:List V) (H:Hp) (Q:VK):Prop where
 | mk:∀z p ys,x=.str z->xs=[.ref p]->bK K H p (ys.map V.str)->(ys.map (·.length)).sum+ys.length * z.length<=16777216->Q (.str (Txt.join z ys)) H->Q8 K x xs H Q
noncomputable def rJoin (K:PySem.W.Frag):V->List V->Hp->VK->Prop:=fun x xs H Q=>Q8 K x xs H Q
theorem tR:∀{ys:List Str} {us:List Value},Vals (ys.map V.str) us->StrsAre us ys
 | [],us,r=>by rw [List.map_nil] at r;cases r;exact .nil
 | y:: ys,us,r=>by
  rw [List.map_cons] at r
  cases r with
  | cons r1 r2=>
   obtain⟨t,e⟩:=r1
   subst e
   exact .cons y t (tR r2)
theorem TY:YX X "str.join" (rJoin X.K):=by
 intro pins s σ H x xs v us Q I rx rs h
 obtain⟨z,p,ys,rfl,rfl,hq,hz,q⟩:=h
 obtain⟨t,rfl⟩:=rx
 obtain⟨u,rfl,ru⟩:=vals1 rs
 cases ru
 obtain⟨its,rv,pl,_⟩:=I.list hq
 exact join_list (items:=its.toArray) pl.isList (by simpa using tR rv) hz fun t' k=>⟨.str (Txt.join z ys),H,I.tok k,⟨_,rfl⟩,q⟩
end
theorem Wz:bootBuiltins "int" =some (.type "int"):=by decide +kernel
theorem Ug:bootBuiltins "bool" =some (.type "bool"):=by decide +kernel
theorem QT:bootBuiltins "str" =some (.type "str"):=by decide +kernel
theorem iK:bootBuiltins "list" =some (.type "list"):=by decide +kernel
theorem zj:bootBuiltins "tuple" =some (.type "tuple"):=by decide +kernel
theorem dY:bootBuiltins "len" =some (.builtin "len"):=by decide +kernel
theorem mD:bootBuiltins "isinstance" =some (.builtin "isinstance"):=by decide +kernel
theorem WY:bootBuiltins "min" =some (.builtin "min"):=by decide +kernel
theorem Ms:bootBuiltins "max" =some (.builtin "max"):=by decide +kernel
theorem Il:bootBuiltins "all" =some (.builtin "all"):=by decide +kernel
section
variable {X:Cx} {pos:Pos}
theorem jV {x:Str} {v:V} (hg:Gl X x) (hm:∃u,X.mg x=some u/\RelV v u) (hd:(x == ("__debug__" :Str))=false:=by decide):PE X (.Name x pos) (tC v):=by
 obtain⟨u,h1,h2⟩:=hm
 exact Ir hg h1 h2 hd
theorem CJ {x:Str} {T:String} (hg:Gl X x) (hm:X.mg x=none) (hv:bootBuiltins x=some (.type T)) (hn:x≠ "__name__" :=by decide) (hd:(x == ("__debug__" :Str))=false:=by decide):PE X (.Name x pos) (tC (.ty T)):=
 Ul hg hm hv rfl hn hd
end
theorem j8 {a b:Int} (h: -(2 ^ 64) <a/\a <2 ^ 64:=by decide):IntMulOk a b:=.of_left (intBits_le_64 h.1 h.2)
theorem HN {a b:Int} (h: -(2 ^ 64) <b/\b <2 ^ 64:=by decide):IntMulOk a b:=.of_right (intBits_le_64 h.1 h.2)
inductive Rr (t:TS) (D:Ends) (σ:St) (H:Hp):Prop where
 | mk:∀J:St->Hp->Prop,t { D with nx:=J } σ H->(∀σ' H',J σ' H'->D.nx σ' H')->Rr t D σ H
noncomputable def Xy (t:TS):TS:=fun D σ H=>Rr t D σ H
theorem iY {X:Cx} {st:Stmt} {t:TS} (h:PS X st t):PS X st (Xy t):=by
 intro pins s σ H D I hw
 obtain⟨J,h1,h2⟩:=hw
 refine eX (h pins s σ H { D with nx:=J } I h1) fun f s1 q=>?_
 cases f with
 | next=>obtain⟨σ',H',I',q⟩:=q;exact⟨σ',H',I',h2 _ _ q⟩
 | ret v=>exact q
 | brk=>exact q
 | cont=>exact q
theorem eO {c A B:Prop} [Decidable c] (hc:¬c) (h:B):if decide c=true then A else B:=by rw [decide_eq_false hc];exact fu h
theorem yf {c A B:Prop} [Decidable c] (hc:c) (h:A):if decide c=true then A else B:=by rw [decide_eq_true hc];exact kJ h
mutual
inductive Dt (K:PySem.W.Frag) (H:Hp):V->PyData->Prop
 | non:Dt K H .non .none
 | bl (b:Bool):Dt K H (.bl b) (.bool b)
 | int (i:Int):Dt K H (.int i) (.int i)
 | str (x:Str):Dt K H (.str x) (.str x)
 | list {p:Addr} {xs:List V} {ds:List PyData}:bK K H p xs->Ph K H xs ds->Dt K H (.ref p) (.list ds)
 | tuple {p:Addr} {xs:List V} {ds:List PyData}:fC K H p xs->Ph K H xs ds->Dt K H (.ref p) (.tuple ds)
inductive Ph (K:PySem.W.Frag) (H:Hp):List V->List PyData->Prop
 | nil:Ph K H [] []
 | cons {x:V} {xs:List V} {d:PyData} {ds:List PyData}:Dt K H x d->Ph K H xs ds->Ph K H (x:: xs) (d:: ds)
end
section
variable {X:Cx} {pins:List (Addr×Obj)} {σ:St} {H:Hp} {s:Shared}
mutual
theorem Dt.reads (I:Inv X pins σ H s):∀{x:V} {d:PyData},Dt X.K H x d->∀{u:Value},RelV x u->∃as,Reads s.heap u d as
 | _,_,.non,_,r=>by cases r;exact⟨_,.none⟩
 | _,_,.bl b,_,r=>by cases r;exact⟨_,.bool b⟩
 | _,_,.int i,_,r=>by obtain⟨t,rfl⟩:=r;exact⟨_,.int i t⟩
 | _,_,.str x,_,r=>by obtain⟨t,rfl⟩:=r;exact⟨_,.str x t⟩
 | _,_,.list hq hd,_,r=>by
  cases r
  obtain⟨its,rv,⟨o,n,e,c,_,d⟩,_⟩:=I.list hq
  obtain⟨as,q⟩:=Ph.reads I hd rv
  exact⟨_,.list e c d (by simpa using q)⟩
 | _,_,.tuple hq hd,_,r=>by
  cases r
  obtain⟨its,rv,⟨o,e,c,n,d⟩,_⟩:=I.tuple hq
  obtain⟨as,q⟩:=Ph.reads I hd rv
  exact⟨_,.tuple e c d (by simpa using q)⟩
theorem Ph.reads (I:Inv X pins σ H s):∀{xs:List V} {ds:List PyData},Ph X.K H xs ds->∀{us:List Value},Vals xs us->∃as,ReadsAll s.heap us ds as
 | _,_,.nil,_,r=>by cases r;exact⟨_,.nil⟩
 | _,_,.cons h t,_,r=>by
  cases r with
  | cons r1 r2=>
   obtain⟨as,q⟩:=Dt.reads I h r1
   obtain⟨bs,q'⟩:=Ph.reads I t r2
   exact⟨_,.cons q q'⟩
end
inductive Vi (K:PySem.W.Frag) (x:V) (y:V) (H:Hp) (Q:VK):Prop where
 | mk:∀da db,Dt K H x da->Dt K H y db->SeqAt.shaped da=true->SeqAt.shaped db=true->Q (.bl (PyData.eqv da db)) H->Vi K x y H Q
noncomputable def Zi (K:PySem.W.Frag):R2:=fun x y H Q=>Vi K x y H Q
inductive VR (K:PySem.W.Frag) (x:V) (y:V) (H:Hp) (Q:VK):Prop where
 | mk:∀da db,Dt K H x da->Dt K H y db->SeqAt.shaped da=true->SeqAt.shaped db=true->Q (.bl (!PyData.eqv da db)) H->VR K x y H Q
noncomputable def Zr (K:PySem.W.Frag):R2:=fun x y H Q=>VR K x y H Q
theorem WX (hu:X.A.units+64 <cLine):wN X (compareOp .Eq) (Zi X.K):=by
 intro pins s σ H x y v u Q I rx ry h
 obtain⟨da,db,h1,h2,s1,s2,q⟩:=h
 obtain⟨as,r1⟩:=h1.reads I rx
 obtain⟨bs,r2⟩:=h2.reads I ry
 exact eq_dataH r1 r2 s1 s2 hu (dz I q rfl)
theorem z9 (hu:X.A.units+64 <cLine):wN X (compareOp .NotEq) (Zr X.K):=by
 intro pins s σ H x y v u Q I rx ry h
 obtain⟨da,db,h1,h2,s1,s2,q⟩:=h
 obtain⟨as,r1⟩:=h1.reads I rx
 obtain⟨bs,r2⟩:=h2.reads I ry
 exact ne_dataH r1 r2 s1 s2 hu (dz I q rfl)
end
noncomputable def YS (x:Str):It:=⟨fun i _=>i <x.cps.size,fun i H v H'=>H'=H/\∃c,x.cps[i]?=some c/\v=.str ⟨#[c]⟩,fun i _=>x.cps.size<=i⟩
theorem K4 {P:Program} {w:World} {K:PySem.W.Frag} {tg:Expr} (it:Addr) (x:Str) (t:Tok) {ty:String} (hty:ty= "str_ascii_iterator" ∨ty= "str_iterator"):Turn P w K tg (YS x) [it] it (fun i h=>h.IsStrIter it ty x t i) where
 mem:=by simp
 obj:=fun i h st b hb=>by
  have e:b=it:=by simpa using hb
  subst e
  obtain⟨o,e,c,d⟩:=st
  exact⟨o,e,fun v z=>by rw [d] at z;cases z⟩
 keep:=fun i h h' st k=>by
  obtain⟨o,e,r⟩:=st
  exact⟨o,k it (by simp) o e,r⟩
 item:=by
  intro X hP hw hK hc i pins s σ H E I hf st hg
  subst hP hw hK
  obtain⟨f0,f1,f2,f3,f4,f5⟩:=hf it (by simp)
  have fin:∀(v:Value) (h':Heap) (tk:Nat),SignAt x i v->h'.IsStrIter it ty x t (i+1)->(∀b o,b∉[it]->s.heap.get? b=some o->h'.get? b=some o)->
    ∃u,some v=some u/\wpAny (model X.prog X.w) X.A (letOwnedTupleGo tg (.ref it) u) (fun _ s2=>∃x' H',Inv X pins σ H' s2/\RelV x' u/\(YS x).yld i H x' H'/\s2.heap.IsStrIter it ty x t (i+1)/\∀b∈[it],H' b=none) E { s with heap:=h',toks:=tk }:=by
   intro v h' tk hv st' kk
   obtain⟨c,u,hcc,rfl⟩:=hv
   have I1:Inv X pins σ H { s with heap:=h',toks:=tk }:=I.turned (fun b o hb e=>kk b o (by simpa using hb) e) f0 f1 f3 f4 f5
   obtain⟨o,e,c',d⟩:=id st'
   refine⟨_,rfl,Ks (s:={ s with heap:=h',toks:=tk }) (n:=ty) e c' d (by rcases hty with rfl | rfl <;> decide) ⟨.str ⟨#[c]⟩,H,I1,⟨u,rfl⟩,⟨rfl,c,hcc,rfl⟩,st',fun b hb=>(hf b hb).1⟩⟩
  rcases hty with rfl | rfl
  ·exact(Walks.strAscii (prog:=X.prog) (w:=X.w) (I.ok.hd hc) it x t).item i s _ _ hg st fun v h' tk hv st' kk=>fin v h' tk hv st' kk
  ·exact(Walks.strWide (prog:=X.prog) (w:=X.w) (I.ok.hd hc) it x t).item i s _ _ hg st fun v h' tk hv st' kk=>fin v h' tk hv st' kk
 done:=by
  intro X hP hw hK hc i pins s σ H E I hf st hg
  subst hP hw hK
  obtain⟨f0,f1,f2,f3,f4,f5⟩:=hf it (by simp)
  have hx:x.cps[i]?=none:=by
   have hg':x.cps.size<=i:=hg
   simp;omega
  rcases hty with rfl | rfl
  ·exact wpAny_pyNext_ascii_end (I.ok.hd hc) st hx fun h' eb=>⟨rfl,I.turned (t':=s.toks) (fun b o hb e=>eb b o hb e) f0 f1 f3 f4 f5⟩
  ·exact wpAny_pyNext_wide_end (I.ok.hd hc) st hx fun h' eb=>⟨rfl,I.turned (t':=s.toks) (fun b o hb e=>eb b o hb e) f0 f1 f3 f4 f5⟩
 self:=fun _ _ _ _ _ st h=>by
  rcases hty with rfl | rfl
  ·exact wpAny_pyIter_striter_ascii st h
  ·exact wpAny_pyIter_striter_wide st h
section
variable {X:Cx} {tg:Expr}
inductive Vt (R:It->Hp->Prop) (x:V) (H1:Hp):Prop where
 | mk:∀z,x=.str z->R (YS z) H1->Vt R x H1
noncomputable def Zj (tl:TE):TI:=fun σ H R=>tl σ H fun x H1=>Vt R x H1
theorem Wo {l:Expr} {tl:TE} (hl:PE X l tl):PI X tg l (Zj tl):=by
 intro pins s σ H R I h
 refine eX (hl pins s σ H _ I h) fun v s1 hpt=>?_
 obtain⟨x,H1,I1,r1,q1⟩:=hpt
 obtain⟨z,e,q⟩:=q1
 subst e
 obtain⟨t,rfl⟩:=r1
 cases ha:z.cps.all (· <128)
 ·refine wpAny_pyIter_wide ha ?_
  refine⟨s1.heap.objs.size,[s1.heap.objs.size],_,_,H1,rfl,I1.kept (t':=s1.toks) fun b o e=>Heap.get?_push_of_some _ e,K4 _ z t (ty:= "str_iterator") (.inr rfl),⟨_,Heap.get?_push_size _ rfl,rfl,rfl⟩,fun b hb=>?_,q⟩
  have e:b=s1.heap.objs.size:=by simpa using hb
  subst e
  exact I1.fpOk (Nat.le_refl _) (I1.hok.fresh (Nat.le_refl _))
 ·refine wpAny_pyIter_ascii ha ?_
  refine⟨s1.heap.objs.size,[s1.heap.objs.size],_,_,H1,rfl,I1.kept (t':=s1.toks) fun b o e=>Heap.get?_push_of_some _ e,K4 _ z t (ty:= "str_ascii_iterator") (.inl rfl),⟨_,Heap.get?_push_size _ rfl,rfl,rfl⟩,fun b hb=>?_,q⟩
  have e:b=s1.heap.objs.size:=by simpa using hb
  subst e
  exact I1.fpOk (Nat.le_refl _) (I1.hok.fresh (Nat.le_refl _))
end
theorem yes {A B:Hp->Prop} {σ:St} {H:Hp} (h:A H):Yh σ H (fun b H4=>if b=true then A H4 else B H4):=by
 show if true=true then A H else B H
 exact kJ h
section
variable {js:List Nat} {tt:TT} {te:TE} {σ:St} {Qd:List V->Hp->Prop}
theorem lN {lo:Int} {n:Nat} {H:Hp} (Pv:Nat->List V->Hp->Prop) (hn:n<=sizeLine) (h0:Pv 0 [] H) (hl:∀i ys H,Pv i ys H->ys.length<=i)
  (hs:∀i ys H,i <n->Pv i ys H->tt (some (.int (lo+i)):: dZ σ js) H fun b H4=>if b=true then te (some (.int (lo+i)):: dZ σ js) H4 fun y H5=>Pv (i+1) (ys ++ [y]) H5 else Pv (i+1) ys H4)
  (hd:∀ys H,Pv n ys H->Qd ys H):CompEnd js tt te σ Qd (Wi lo n) H:=by
 refine⟨fun i m ys H=>m=n - i/\i<=n/\Pv i ys H,⟨n,by simp,Nat.zero_le _,h0⟩,?_⟩
 rintro i m ys H ⟨rfl,hi,p⟩
 have hlen:=hl i ys H p
 by_cases hlt:i <n
 ·refine .inr ⟨hlt,by omega,Pv (i+1),fun ys' H' p'=>⟨n - (i+1),by omega,rfl,hlt,p'⟩,fun x H' y=>?_⟩
  obtain⟨e,y⟩:=y
  subst e y
  exact hs i ys _ hlt p
 ·have e:i=n:=by omega
  subst e
  exact .inl ⟨Nat.le_refl _,by omega,hd ys H p⟩
theorem fW {K:PySem.W.Frag} {a:Addr} {xs:List V} {H:Hp} (Pv:Nat->List V->Hp->Prop) (hn:xs.length<=sizeLine) (h0:Pv 0 [] H) (hl:∀i ys H,Pv i ys H->ys.length<=i) (hq:∀i ys H,i<=xs.length->Pv i ys H->bK K H a xs)
  (hs:∀i x ys H,xs[i]?=some x->Pv i ys H->tt (some x:: dZ σ js) H fun b H4=>if b=true then te (some x:: dZ σ js) H4 fun y H5=>Pv (i+1) (ys ++ [y]) H5 else Pv (i+1) ys H4)
  (hd:∀ys H,Pv xs.length ys H->Qd ys H):CompEnd js tt te σ Qd (Wr K a) H:=by
 refine⟨fun i m ys H=>m=xs.length - i/\i<=xs.length/\Pv i ys H,⟨xs.length,by simp,Nat.zero_le _,h0⟩,?_⟩
 rintro i m ys H ⟨rfl,hi,p⟩
 have hlen:=hl i ys H p
 have q:=hq i ys H hi p
 by_cases hlt:i <xs.length
 ·refine .inr ⟨⟨xs,xs[i],q,by simp [hlt]⟩,by omega,Pv (i+1),fun ys' H' p'=>⟨xs.length - (i+1),by omega,rfl,hlt,p'⟩,fun x H' y=>?_⟩
  obtain⟨e,y⟩:=y
  subst e
  exact hs i x ys _ (y xs q) p
 ·have e:i=xs.length:=by omega
  subst e
  exact .inl ⟨⟨xs,q,Nat.le_refl _⟩,by omega,hd ys H p⟩
theorem Sg {z:Str} {H:Hp} (Pv:Nat->List V->Hp->Prop) (hn:z.cps.size<=sizeLine) (h0:Pv 0 [] H) (hl:∀i ys H,Pv i ys H->ys.length<=i)
  (hs:∀i c ys H,z.cps[i]?=some c->Pv i ys H->tt (some (.str ⟨#[c]⟩):: dZ σ js) H fun b H4=>if b=true then te (some (.str ⟨#[c]⟩):: dZ σ js) H4 fun y H5=>Pv (i+1) (ys ++ [y]) H5 else Pv (i+1) ys H4)
  (hd:∀ys H,Pv z.cps.size ys H->Qd ys H):CompEnd js tt te σ Qd (YS z) H:=by
 refine⟨fun i m ys H=>m=z.cps.size - i/\i<=z.cps.size/\Pv i ys H,⟨z.cps.size,by simp,Nat.zero_le _,h0⟩,?_⟩
 rintro i m ys H ⟨rfl,hi,p⟩
 have hlen:=hl i ys H p
 by_cases hlt:i <z.cps.size
 ·refine .inr ⟨hlt,by omega,Pv (i+1),fun ys' H' p'=>⟨z.cps.size - (i+1),by omega,rfl,hlt,p'⟩,fun x H' y=>?_⟩
  obtain⟨e,c,hc,y⟩:=y
  subst e y
  exact hs i c ys _ hc p
 ·have e:i=z.cps.size:=by omega
  subst e
  exact .inl ⟨Nat.le_refl _,by omega,hd ys H p⟩
end
section
variable {X:Cx}
inductive Vy (x:V) (lo:Option Int) (hi:Option Int) (H:Hp) (Q:VK):Prop where
 | mk:∀z,x=.str z->z.length<=sizeLine->Q (.str (Txt.slice z lo hi)) H->Vy x lo hi H Q
noncomputable def ZG:V->Option Int->Option Int->Hp->VK->Prop:=fun x lo hi H Q=>Vy x lo hi H Q
theorem Sh:Y4 X ZG:=by
 intro pins s σ H x v vl vu lo hi sl Q I rx hs pl pu h
 obtain⟨z,rfl,hz,q⟩:=h
 obtain⟨t,rfl⟩:=rx
 refine⟨"str",_,PySem.F.slot_str_getitem.lookup,typeIs_str _ _ _,?_⟩
 have fin:∀t' k,EP X pins σ Q (.str (Txt.slice z lo hi) t') { s with toks:=k }:=fun t' k=>⟨.str _,H,I.tok k,⟨_,rfl⟩,q⟩
 cases pl with
 | none=>
  cases pu with
  | none=>exact wpAny_getItem_str_slice (l:=none) (u:=none) (st:=none) hs rfl (post_val_or_str ⟨Nat.le_trans (Txt.slice_le z _ _) hz,fin⟩)
  | int j tj=>exact wpAny_getItem_str_slice (l:=none) (u:=some (j,tj)) (st:=none) hs rfl (post_val_or_str ⟨Nat.le_trans (Txt.slice_le z _ _) hz,fin⟩)
 | int i ti=>
  cases pu with
  | none=>exact wpAny_getItem_str_slice (l:=some (i,ti)) (u:=none) (st:=none) hs rfl (post_val_or_str ⟨Nat.le_trans (Txt.slice_le z _ _) hz,fin⟩)
  | int j tj=>exact wpAny_getItem_str_slice (l:=some (i,ti)) (u:=some (j,tj)) (st:=none) hs rfl (post_val_or_str ⟨Nat.le_trans (Txt.slice_le z _ _) hz,fin⟩)
theorem yO (hc:X.calm=true):lu X (.builtin "all") (fun xs H Q=>∃(p:Addr) (bs:List Bool),xs=[.ref p]/\bK X.K H p (bs.map V.bl)/\Q (.bl (bs.all id)) H):=by
 intro pins s σ H xs us Q I r h
 obtain⟨p,bs,rfl,hq,q⟩:=h
 obtain⟨u,rfl,rx⟩:=vals1 r
 cases rx
 obtain⟨its,rv,pl,_⟩:=I.list hq
 have hl:=pl.isList
 have hlt:p <s.heap.objs.size:=by obtain⟨_,e,_⟩:=hl;exact Heap.lt_size e
 have hb:∀i v,its[i]?=some v->∃b,bs[i]?=some b/\v=Value.bool b:=fun i v e=>by
  have hi:i <its.length:=(List.getElem?_eq_some_iff.mp e).1
  have hi':i <bs.length:=by have:=rv.length;rw [List.length_map] at this;omega
  obtain⟨u,e',r'⟩:=rv.get (i:=i) (x:=.bl bs[i]) (by rw [List.getElem?_map,List.getElem?_eq_getElem hi'];rfl)
  rw [e] at e'
  cases e'
  exact⟨bs[i],List.getElem?_eq_getElem hi',r'⟩
 refine call_all_walk (wpAny_pyIter_list hl ?_)
 refine⟨s.heap.objs.size,[s.heap.objs.size,p],[s.heap.objs.size],its.toArray.size,_,_,fun i=>(bs[i]?).getD true,rfl,Walks.list (A:=X.A.in1) (I.ok.hd hc) _ p (Nat.ne_of_lt hlt) its.toArray,
  ⟨⟨_,Heap.get?_push_size _ rfl,rfl,rfl⟩,hl.push _⟩,fun i v s' Q' E' hP hQ=>?_,fun h' tk hk=>?_⟩
 ·obtain⟨b,e,rfl⟩:=hb i v (by simpa using hP)
  simp only [e,Option.getD_some] at hQ
  exact wpAny_truthy_bool hQ
 ·have e:((List.range its.toArray.size).all fun i=>(bs[i]?).getD true)=bs.all id:=by
   have hlen:=rv.length
   rw [List.length_map] at hlen
   rw [List.size_toArray,<-hlen];exact LSm.range_all bs
  rw [e]
  exact⟨.bl _,H,I.kept (LSm.kept_iter hk),rfl,q⟩
end
end L2
namespace L2
open PySem PySem.StrLaws PySem.Builtin PySem.Builtin.Str
end L2
namespace L2
open PySem
theorem aB {H:L2.Hp} {p:Addr} {o:L2.HO} (hp:H p=none):L2.aJ H (L2.upd H p o):=fun b o' e=>by rw [L2.aH (L2.aD e hp)];exact e
end L2
namespace L2
open PySem PySem.SeqAt
open AutoSeq1 (wpAny_loadPart')
open MeetsSeq MeetsSeq2 MeetsSeq3 SeqRoads2
section
variable {A:Around} {s:Shared}
end
open PySem.Spec PyProof.Rows
end L2
namespace L2
open PySem PySem.Spec PyProof.Rows
structure MethAt (P:Program) (w:World) (K:PySem.W.Frag) (mg:Str->Option Value) (base:Heap) (CX:Hu) (k:Nat) (C:Addr) (m:Str) (sp:Sp):Prop where
 ex:∃(f:Addr) (fd:FuncData) (ps:List Str),Qi K C/\Meth K C m f/\Binds K fd ps []/\jB P w K mg base CX k f fd ps sp
inductive NP (P:Program) (w:World) (K:PySem.W.Frag) (mg:Str->Option Value) (base:Heap) (CX:Hu) (k:Nat) (m:Str) (E:XK) (t:TA) (σ:St) (Q:VK) (x:V) (H1:Hp):Prop where
 | mk:∀a C dx fs sp,x=.ref a->H1 a=some (.ins C dx fs)->fs.lookup m=none->MethAt P w K mg base CX k C m sp->(t σ H1 fun vs H2=>sp (x:: vs) H2 Q E)->NP P w K mg base CX k m E t σ Q x H1
noncomputable def Nm (P:Program) (w:World) (K:PySem.W.Frag) (mg:Str->Option Value) (base:Heap) (CX:Hu) (k:Nat) (m:Str) (E:XK) (ta:TE) (t:TA):TE:=fun σ H Q=>ta σ H fun x H1=>NP P w K mg base CX k m E t σ Q x H1
section
variable {X:Cx} {CX:Hu} {k:Nat} {E:XK} {m:Str} {pos apos:Pos} {e o:Expr} {es:List Expr} {ta:TE} {t:TA}
theorem vI {pl:Sem Bool} (he:PE X o ta) (hr:jM k X.A) (hx:rR CX X E) (ha:PA X (e:: es) t)
  (hst:starEach (e:: es) X.env=(false,eval e X.env):: starEach es X.env:=by rfl) (hpl:(backTo pos (starEach es X.env)).any (·.1)=false:=by rfl)
  (ht:eval (.Call (.Attribute o m apos) (e:: es) [] pos) X.env=(do
   let ov <-eval o X.env
   standAt apos.atName
   let (f,first) <-holding [ov] (getMethod ov m pl)
   callWith pos f first (backTo pos (starEach (e:: es) X.env)) (backToKw pos (keywordEach [] X.env))):=by rfl):
  PE X (.Call (.Attribute o m apos) (e:: es) [] pos) (Nm X.prog X.w X.K X.mg X.base CX k m E ta t):=by
 intro pins s σ H Q I h
 refine PySem.W.methodCall_KW (pl:=pl) (eX (he pins s σ H _ I h) fun u s1 hpt=>?_) ht
 obtain⟨x,H1,I1,rx,a,C,dx,fs,sp,ex,ea,l,⟨f,fd,ps,c,hm,hb,F⟩,q⟩:=hpt
 subst ex
 obtain rfl:u=Value.ref a:=rx
 refine uw I1 ea c hm l ?_
 refine PySem.W.callWith_K (first:=[.ref a]) (h₀:=X.base) I.ok.mod.kin hm.kp (eX (ha pos pins s1 σ H1 _ I1 q) fun us s2 ⟨vs,H2,I2,r,q2⟩=>⟨I2.kIn,?_⟩) hst hpl
 exact DX (us:=.ref a:: us) (vs:=.ref a:: vs) (ds:=[]) (dvs:=[]) F hr hb .nil hx I2 (.cons rfl r) (by rw [List.append_nil];exact q2)
theorem wG {pl:Sem Bool} (he:PE X o ta) (hr:jM k X.A) (hx:rR CX X E)
  (ht:eval (.Call (.Attribute o m apos) [] [] pos) X.env=(do
   let ov <-eval o X.env
   standAt apos.atName
   let (f,first) <-holding [ov] (getMethod ov m pl)
   callWith pos f first (backTo pos (starEach [] X.env)) (backToKw pos (keywordEach [] X.env))):=by rfl):
  PE X (.Call (.Attribute o m apos) [] [] pos) (Nm X.prog X.w X.K X.mg X.base CX k m E ta Qw):=by
 intro pins s σ H Q I h
 refine PySem.W.methodCall_KW (pl:=pl) (eX (he pins s σ H _ I h) fun u s1 hpt=>?_) ht
 obtain⟨x,H1,I1,rx,a,C,dx,fs,sp,ex,ea,l,⟨f,fd,ps,c,hm,hb,F⟩,q⟩:=hpt
 subst ex
 obtain rfl:u=Value.ref a:=rx
 refine uw I1 ea c hm l ?_
 exact PySem.W.callWith_K0 (first:=[.ref a]) I1.kIn hm.kp (DX (us:=[.ref a]) (vs:=[.ref a]) (ds:=[]) (dvs:=[]) F hr hb .nil hx I1 (.cons rfl .nil) (by rw [List.append_nil];exact q))
end
section
variable {X:Cx}
theorem QF:bootBuiltins "range" =some (.type "range"):=by decide +kernel
theorem Ky:lu X (.type "range") (fun xs H Q=>∃j:Int,xs=[.int j]/\∀r,H r=none->Q (.ref r) (upd H r (.rng 0 j))):=by
 intro pins s σ H xs us Q I r h
 obtain⟨j,rfl,q⟩:=h
 obtain⟨u,rfl,t,rfl⟩:=vals1 r
 refine call_range_1 ⟨.ref s.heap.objs.size,upd H s.heap.objs.size (.rng 0 j),I.laid (fun b o e=>Heap.get?_push_of_some _ e) (Nat.le_refl _) ?_,rfl,q _ (I.hok.fresh (Nat.le_refl _))⟩
 exact⟨_,_,_,Heap.get?_push_size _ rfl⟩
noncomputable def Te (n:Nat):List V:=(List.range n).map fun i=>V.int (i:Nat)
theorem U4 (n:Nat):(Te n).length=n:=by simp [Te]
theorem Rx:∀(n:Nat) (us:List Value),us.length=n->(∀(j:Nat) (v:Value),us[j]?=some v->∃t,v=.int (j:Nat) t)->Vals (Te n) us:=by
 intro n
 induction n with
 | zero=>intro us hl _;cases us with | nil=>exact .nil | cons _ _=>cases hl
 | succ n ih=>
  intro us hl h
  have e1:Te (n+1)=Te n ++ [V.int (n:Nat)]:=by simp [Te,List.range_succ]
  have hn:n <us.length:=by omega
  have e2:us=us.take n ++ [us[n]]:=by
   have:=List.take_append_drop n us
   rw [List.drop_eq_getElem_cons hn] at this
   rw [List.drop_eq_nil_of_le (by omega)] at this
   exact this.symm
  rw [e1,e2]
  refine Vals.append (ih _ (by simp;omega) fun j v e=>?_) (.cons ?_ .nil)
  ·rw [List.getElem?_take] at e
   split at e
   ·exact h j v e
   ·cases e
  ·obtain⟨t,e⟩:=h n us[n] (by simp [hn])
   exact⟨t,e⟩
theorem Gg (hc:X.calm=true):lu X (.type "list") (fun xs H Q=>∃(r:Addr) (n:Nat),xs=[.ref r]/\H r=some (.rng 0 n)/\n<=1000000/\∀l,H l=none->Q (.ref l) (upd H l (.lst (Te n)))):=by
 intro pins s σ H xs us Q I rx h
 obtain⟨r,n,rfl,hr,hn,q⟩:=h
 obtain⟨u,rfl,ru⟩:=vals1 rx
 cases ru
 have hl:sizeLine=16777216:=sizeLine_eq
 obtain⟨t,u,v,e⟩:=(show fZ X.prog X.w H s.heap r (.rng 0 n) from I.hok r _ hr)
 refine call_list_range (n:=n) (I.ok.hd hc) e (small_one (by omega) (by omega) (by omega) (by omega)) (by rw [rangeSize_one];split <;> omega) (by omega) fun h' tk acc' c' kp e' hi=>?_
 refine⟨.ref s.heap.objs.size,_,I.laid (t':=tk) kp (Nat.le_refl _) (show fZ X.prog X.w _ h' _ (.lst (Te n)) from⟨by rw [U4];omega,acc'.toList,c',Rx n _ (by simpa using hi.1) fun j v ej=>?_,by simpa using e'⟩),rfl,q _ (I.hok.fresh (Nat.le_refl _))⟩
 obtain⟨t,ev⟩:=hi.2 j v (by simpa using ej)
 exact⟨t,by rw [ev];congr 1;omega⟩
end
inductive kh (w:World) (K:PySem.W.Frag):List DictEntry->List (Str×List Int)->Prop
 | nil:kh w K [] []
 | cons {x:Str} {t:Tok} {ad:Addr} {ns:List Int} {es:List DictEntry} {rows:List (Str×List Int)} {h:Int} {its:Array Value} {n:Nat} {o:Obj}:
   h=hashStr w x->K.lookup ad=some o->o.cls=.type "tuple" ->o.data=.seq its n->Vals (ns.map V.int) its.toList->ns.length<=1000->kh w K es rows->kh w K (⟨h,.str x t,.ref ad⟩:: es) ((x,ns):: rows)
inductive KTab (w:World) (K:PySem.W.Frag) (a:Addr) (rows:List (Str×List Int)):Prop where
 | mk:∀(o:Obj) (es:Array DictEntry) (ep:Nat),K.lookup a=some o->o.cls=.type "dict" ->o.dict=none->o.slots= #[]->o.data=.dict es ep->(a == sysModules)=false->kh w K es.toList rows->(rows.map (·.1)).Nodup->KTab w K a rows
theorem KTab.mk' {w:World} {K:PySem.W.Frag} {a:Addr} {rows:List (Str×List Int)} {o:Obj} {es:Array DictEntry} {ep:Nat} (lk:K.lookup a=some o) (c1:o.cls=.type "dict") (c2:o.dict=none) (c3:o.slots= #[]) (c4:o.data=.dict es ep) (sm:(a == sysModules)=false)
  (rw':kh w K es.toList rows) (nd:(rows.map (·.1)).Nodup):KTab w K a rows:=⟨o,es,ep,lk,c1,c2,c3,c4,sm,rw',nd⟩
noncomputable def rowOf (rows:List (Str×List Int)) (z:Str):Option (List Int):=(rows.find? fun r=>decide (r.1=z)).map (·.2)
section
variable {P:Program} {w:World} {K:PySem.W.Frag}
theorem kh.kvs:∀{es:List DictEntry} {rows:List (Str×List Int)},kh w K es rows->∃kvs:List (Key×Value),Pairs (du P w) es kvs/\kvs.map (·.1)=rows.map (fun r=>(Sum.inr r.1:Key))/\
  (∀e∈es,∃k,(du P w).is k e.key=true/\e.hash=(du P w).hash k)/\
  ∀z,(rowOf rows z=none->valueAt kvs (Sum.inr z)=none)/\∀ns,rowOf rows z=some ns->∃ad,valueAt kvs (Sum.inr z)=some (.ref ad)/\∀H,fC K H ad (ns.map V.int)
 | _,_,.nil=>⟨[],.nil,rfl,fun e he=>(by cases he),fun z=>⟨fun _=>rfl,fun ns e=>by cases e⟩⟩
 | _,_,@kh.cons _ _ x t ad ns es rows h its n o hh hl hc hdt hv hz hr=>by
  obtain⟨kvs,p,hk,ho,hf⟩:=kh.kvs hr
  refine⟨(Sum.inr x,.ref ad):: kvs,.cons (nj P w x t) rfl p,by rw [List.map_cons,List.map_cons,hk],fun e he=>?_,fun z=>?_⟩
  ·rcases List.mem_cons.mp he with e1 | he
   ·subst e1
    exact⟨Sum.inr x,nj P w x t,hh⟩
   ·exact ho e he
  ·by_cases hx:x=z
   ·subst hx
    have e1:rowOf ((x,ns):: rows) x=some ns:=by simp [rowOf]
    have e2:valueAt ((Sum.inr x,Value.ref ad):: kvs) (Sum.inr x:Key)=some (.ref ad):=by simp [valueAt]
    rw [e1,e2]
    refine⟨fun e=>by (cases e),fun ms e=>⟨ad,rfl,fun H=>.inr ⟨_,its,n,hl,hc,hdt,?_,?_⟩⟩⟩
    ·have:=hv.length
     have hs:sizeLine=16777216:=sizeLine_eq
     simp at this
     omega
    ·cases e;exact hv
   ·have e1:rowOf ((x,ns):: rows) z=rowOf rows z:=by simp [rowOf,hx]
    have hx':¬(Sum.inr x:Key)=Sum.inr z:=fun q=>hx (Sum.inr.inj q)
    have e2:valueAt ((Sum.inr x,Value.ref ad):: kvs) (Sum.inr z:Key)=valueAt kvs (Sum.inr z):=by simp [valueAt,hx']
    rw [e1,e2]
    exact hf z
theorem KTab.map {a:Addr} {rows:List (Str×List Int)} {h:Heap} (T:KTab w K a rows) (hk:K.In h):∃f:Key->Option Value,h.MapOf (du P w) a f/\(a == sysModules)=false/\
  ∀z,(rowOf rows z=none->f (Sum.inr z)=none)/\∀ns,rowOf rows z=some ns->∃ad,f (Sum.inr z)=some (.ref ad)/\∀H,fC K H ad (ns.map V.int):=by
 obtain⟨o,es,ep,hl,c1,c2,c3,c4,hs,hr,nd⟩:=T
 obtain⟨kvs,p,hkk,ho,hf⟩:=hr.kvs (P:=P)
 have D:h.DictOf (du P w) a kvs:=⟨o,es,ep,hk a _ hl,⟨c1,c2,c3⟩,c4,fun e he=>ho e (by simpa using he),p,?_⟩
 ·exact⟨_,D.mapOf,hs,hf⟩
 ·rw [hkk]
  have:rows.map (fun r=>(Sum.inr r.1:Key))=(rows.map (·.1)).map Sum.inr:=by rw [List.map_map];rfl
  rw [this]
  exact List.Pairwise.map _ (fun a b hab e=>hab (Sum.inr.inj e)) nd
end
section
variable {X:Cx} {i o:Expr} {ty td:TE} {pos:Pos}
inductive VN (w:World) (K:PySem.W.Frag) (Q:VK) (y:V) (x:V) (H2:Hp):Prop where
 | mk:∀a rows z,x=.ref a->KTab w K a rows->y=.str z->Q (.bl (rowOf rows z).isSome) H2->VN w K Q y x H2
noncomputable def Zo (w:World) (K:PySem.W.Frag) (ty td:TE):TE:=fun σ H Q=>ty σ H fun y H1=>td σ H1 fun x H2=>VN w K Q y x H2
theorem W0 (hi:PE X i ty) (ho:PE X o td):PC X .In i o (Zo X.w X.K ty td):=by
 intro pins s σ H Q I h
 refine eX (hi pins s σ H _ I h) fun iv s1 ⟨y,H1,I1,ry,q1⟩=>eX (ho pins s1 σ H1 _ I1 q1) fun u s2 hpt=>?_
 obtain⟨x,H2,I2,rx,a,rows,z,ex,T,ey,q2⟩:=hpt
 subst ex
 subst ey
 obtain rfl:u=Value.ref a:=rx
 obtain⟨t,rfl⟩:=ry
 obtain⟨f,M,hs,hf⟩:=T.map (P:=X.prog) I2.kIn
 refine wpAny_in_of (k:=(Sum.inr z:Key)) (nj X.prog X.w z t) hs M ?_
 refine⟨.bl (rowOf rows z).isSome,H2,I2.tok _,?_,q2⟩
 cases e:rowOf rows z with
 | none=>rw [(hf z).1 e];rfl
 | some ns=>obtain⟨ad,e1,_⟩:=(hf z).2 ns e;rw [e1];rfl
inductive VB (w:World) (K:PySem.W.Frag) (x:V) (y:V) (H:Hp) (Q:VK):Prop where
 | mk:∀a rows z ns,x=.ref a->KTab w K a rows->y=.str z->rowOf rows z=some ns->(∀ad,fC K H ad (ns.map V.int)->Q (.ref ad) H)->VB w K x y H Q
noncomputable def Xp (w:World) (K:PySem.W.Frag):R2:=fun x y H Q=>VB w K x y H Q
theorem Zf:Qm X (Xp X.w X.K):=by
 intro value slice pins s σ H x y v u Q I rx ry h hs
 obtain⟨a,rows,z,ns,rfl,T,rfl,e,q⟩:=h
 cases rx
 obtain⟨t,rfl⟩:=ry
 obtain⟨f,M,hsm,hf⟩:=T.map (P:=X.prog) I.kIn
 obtain⟨ad,e1,e2⟩:=(hf z).2 ns e
 exact tail_any M.typeIs PySem.F.slot_dict_getitem.lookup (wpAny_getItem_of (k:=(Sum.inr z:Key)) (nj X.prog X.w z t) M e1 ⟨.ref ad,H,I.tok _,rfl,q ad (e2 H)⟩) hs
theorem Ux (ho:PE X o td) (hi:PE X i ty) (hs:Oo i):PE X (.Subscript o i pos) (Xm (Xp X.w X.K) td ty):=bf Zf ho hi hs
end
noncomputable def yC (K:PySem.W.Frag) (H:Hp) (a:Addr) (xs:List V):Prop:=bK K H a xs∨fC K H a xs
theorem aJ.seqT {K:PySem.W.Frag} {H H':Hp} {a:Addr} {xs:List V} (e:aJ H H') (h:fC K H a xs):fC K H' a xs:=by
 rcases h with (h | ⟨o,h⟩) | h
 ·exact .inl (.inl (e _ _ h))
 ·exact .inl (.inr ⟨o,e _ _ h⟩)
 ·exact .inr h
theorem aJ.seqA {K:PySem.W.Frag} {H H':Hp} {a:Addr} {xs:List V} (e:aJ H H') (h:yC K H a xs):yC K H' a xs:=h.elim (fun h=>.inl (e.seq h)) fun h=>.inr (e.seqT h)
noncomputable def m5 (p:Addr) (H H':Hp):Prop:=∀b o,b≠p->H b=some o->H' b=some o
theorem m5.refl {p:Addr} (H:Hp):m5 p H H:=fun _ _ _ e=>e
theorem m5.trans {p:Addr} {H H1 H2:Hp} (a:m5 p H H1) (b:m5 p H1 H2):m5 p H H2:=fun c o n e=>b c o n (a c o n e)
theorem m5.of_same {p:Addr} {H H1:Hp} (a:aJ H H1):m5 p H H1:=fun c o _ e=>a c o e
theorem m5.write {p:Addr} {H:Hp} {o:HO}:m5 p H (upd H p o):=fun b u n e=>by rw [aH n];exact e
theorem m5.seqT {K:PySem.W.Frag} {H H':Hp} {p a C dx:Addr} {fs:List (Str×V)} {xs:List V} (e:m5 p H H') (hp:H p=some (.ins C dx fs)) (h:fC K H a xs):fC K H' a xs:=by
 rcases h with (h | ⟨o,h⟩) | h
 ·exact .inl (.inl (e _ _ (uC h hp (by intro z;cases z)) h))
 ·exact .inl (.inr ⟨o,e _ _ (uC h hp (by intro z;cases z)) h⟩)
 ·exact .inr h
theorem m5.seqL {K:PySem.W.Frag} {H H':Hp} {p a C dx:Addr} {fs:List (Str×V)} {xs:List V} (e:m5 p H H') (hp:H p=some (.ins C dx fs)) (h:bK K H a xs):bK K H' a xs:=by
 rcases h with (h | ⟨o,h⟩) | h
 ·exact .inl (.inl (e _ _ (uC h hp (by intro z;cases z)) h))
 ·exact .inl (.inr ⟨o,e _ _ (uC h hp (by intro z;cases z)) h⟩)
 ·exact .inr h
theorem m5.seqA {K:PySem.W.Frag} {H H':Hp} {p a C dx:Addr} {fs:List (Str×V)} {xs:List V} (e:m5 p H H') (hp:H p=some (.ins C dx fs)) (h:yC K H a xs):yC K H' a xs:=h.elim (fun h=>.inl (e.seqL hp h)) fun h=>.inr (e.seqT hp h)
theorem S5 {K:PySem.W.Frag} {H:Hp} {a:Addr} {xs:List V} {Q:VK} (h:yC K H a xs) (k:∀H' u,aJ H H'->fC K H' u xs->Q (.ref u) H'):
  ∃p ys,[V.ref a]=[.ref p]/\((bK K H p ys/\∀l,H l=none->Q (.ref l) (upd H l (.tup ys)))∨(fC K H p ys/\Q (.ref p) H)):=by
 rcases h with h | h
 ·exact⟨a,xs,rfl,.inl ⟨h,fun l hl=>k _ _ (aB hl) (fC.of ao)⟩⟩
 ·exact⟨a,xs,rfl,.inr ⟨h,k _ _ (aJ.refl _) h⟩⟩
theorem wL {X:Cx}:lu X (.type "tuple") (fun xs H Q=>∃a ys,xs=[.ref a]/\yC X.K H a ys/\∀H' u,aJ H H'->fC X.K H' u ys->Q (.ref u) H'):=by
 intro pins s σ H xs us Q I r h
 obtain⟨a,ys,rfl,hq,q⟩:=h
 exact Gh pins s σ H _ us Q I r (S5 hq q)
section
variable {es:List Expr} {env:Env}
theorem cQ {a b c}:starEach (.Tuple a b c:: es) env=(false,eval (.Tuple a b c) env):: starEach es env:=rfl
theorem bj {a b}:starEach (.List a b:: es) env=(false,eval (.List a b) env):: starEach es env:=rfl
theorem aq {a b c}:starEach (.Constant a b c:: es) env=(false,eval (.Constant a b c) env):: starEach es env:=rfl
theorem aj {a b}:starEach (.Name a b:: es) env=(false,eval (.Name a b) env):: starEach es env:=rfl
theorem aO {a b c d}:starEach (.Call a b c d:: es) env=(false,eval (.Call a b c d) env):: starEach es env:=rfl
theorem cg {a b c d}:starEach (.BinOp a b c d:: es) env=(false,eval (.BinOp a b c d) env):: starEach es env:=rfl
theorem aV {a b c}:starEach (.Attribute a b c:: es) env=(false,eval (.Attribute a b c) env):: starEach es env:=rfl
theorem aF {a b c}:starEach (.Subscript a b c:: es) env=(false,eval (.Subscript a b c) env):: starEach es env:=rfl
theorem dX {a b c d}:starEach (.ListComp a b c d:: es) env=(false,eval (.ListComp a b c d) env):: starEach es env:=rfl
theorem Mh {a b c d}:starEach (.IfExp a b c d:: es) env=(false,eval (.IfExp a b c d) env):: starEach es env:=rfl
end
section
variable {X:Cx} {scope:Scope} {x:Str} {js:List Nat} {cl:List (Str×Addr)} {C:Addr} {s:Shared} {H:Hp} {ex:List Addr}
end
noncomputable def jP (H:Hp):List Addr->List (List V)->Prop:=Paired fun r vs=>H r=some (.tup vs)
theorem jP.same {H H':Hp} (s:aJ H H'):∀{rs:List Addr} {vss:List (List V)},jP H rs vss->jP H' rs vss
 | _,_,.nil=>.nil
 | _,_,.cons h t=>.cons (s _ _ h) (jP.same s t)
theorem jP.append {H:Hp}:∀{rs rs':List Addr} {vss vss':List (List V)},jP H rs vss->jP H rs' vss'->jP H (rs ++ rs') (vss ++ vss')
 | _,_,_,_,.nil,q=>q
 | _,_,_,_,.cons h t,q=>.cons h (jP.append t q)
section
variable {X:Cx}
end
noncomputable def Pz (K:PySem.W.Frag) (a:Addr):It:=
 ⟨fun i H=>∃xs x,bK K H a xs/\xs[i]?=some x,fun i H v H'=>∃u y,H u=none/\v=.ref u/\H'=upd H u (.tup [.int (i:Nat),y])/\∀xs,bK K H a xs->xs[i]?=some y,fun i H=>∃xs,bK K H a xs/\xs.length<=i⟩
theorem Pk {P:Program} {w:World} {K:PySem.W.Frag} {elts:List Expr} {x1:_} {tpos:Pos} (a e it:Addr) (hne:e≠it):
  Turn P w K (.Tuple elts x1 tpos) (Pz K a) [e,it] e (fun i h=>(∃old,IsEnum h e it ((i:Nat):Int) old)/\h.IsListIter it a i) where
 mem:=by simp
 obj:=fun i h st b hb=>by
  obtain⟨⟨old,he⟩,hit⟩:=st
  have hb':b=e∨b=it:=by simpa using hb
  rcases hb' with z | z
  ·subst z
   exact⟨_,he,fun v z=>by cases z⟩
  ·subst z
   obtain⟨o,e1,c,d⟩:=hit
   exact⟨o,e1,fun v z=>by rw [d] at z;cases z⟩
 keep:=fun i h h' st k=>by
  obtain⟨⟨old,he⟩,hit⟩:=st
  exact⟨⟨old,k e (by simp) _ he⟩,hit.at fun o e1=>k it (by simp) o e1⟩
 item:=by
  intro X hP hw hK hc i pins s σ H E I hf st hg
  subst hP hw hK
  obtain⟨⟨old,he⟩,hit⟩:=st
  obtain⟨xs,x,hq,hx⟩:=hg
  obtain⟨its,rv,p,hz⟩:=I.list hq
  obtain⟨u,hu,ru⟩:=rv.get hx
  obtain⟨f0,f1,f2,f3,f4,f5⟩:=hf it (by simp)
  obtain⟨g0,g1,g2,g3,g4,g5⟩:=hf e (by simp)
  refine wpAny_pyNext_enum_item he hit p.isList (x:=u) (by simpa using hu) hne fun h1 heo hit1 ht1 hz1 hk1=>?_
  refine⟨_,rfl,wpAny_letOwnedTupleGo_enum heo fun h2 he2 hs2=>?_⟩
  have hs2':Heap.SameBut e h1 h2:=hs2
  have heS:e <s.heap.objs.size:=Heap.lt_size he
  have hnE:s.heap.objs.size≠e:=Nat.ne_of_gt heS
  have kp:∀b o,b≠e->b≠it->s.heap.get? b=some o->h2.get? b=some o:=fun b o n1 n2 q=>(hs2'.2 b n1).trans (hk1 b o n1 n2 q)
  have nn:∀b o,s.heap.get? b=some o->b≠s.heap.objs.size:=fun b o q=>Nat.ne_of_lt (Heap.lt_size q)
  have hfr:H s.heap.objs.size=none:=I.hok.fresh (Nat.le_refl _)
  have tupN:h2.get? s.heap.objs.size=some { cls:=.type "tuple",data:=.seq #[.int i s.toks,u] }:=(hs2'.2 _ hnE).trans ht1
  have tr:∀b o,H b=some o->b≠e/\b≠it:=fun b o q=>⟨fun z=>(by rw [z,g0] at q;cases q),fun z=>(by rw [z,f0] at q;cases q)⟩
  have ok2:wK X.prog X.w (upd H s.heap.objs.size (.tup [.int (i:Nat),x])) h2:=fun b o q=>by
   by_cases hb:b=s.heap.objs.size
   ·rw [hb,ao] at q
    cases q
    rw [hb]
    exact⟨by show 2<=sizeLine;decide,[.int i s.toks,u],.cons ⟨_,rfl⟩ (.cons ru .nil),⟨_,tupN,rfl,_,rfl⟩⟩
   ·rw [aH hb] at q
    refine(I.hok b o q).stay (fun c v hc q'=>?_) (fun c q'=>by rw [aH (aD q' hfr)];exact q') fun c ys q'=>by rw [aH (aD q' hfr)];exact q'
    rcases hc with z | z
    ·rw [z] at q' ⊢
     exact kp _ _ (tr _ _ q).1 (tr _ _ q).2 q'
    ·exact kp _ _ (tr _ _ z).1 (tr _ _ z).2 q'
  refine⟨.ref s.heap.objs.size,upd H s.heap.objs.size (.tup [.int (i:Nat),x]),?_,rfl,⟨_,x,hfr,rfl,rfl,fun ys hy=>by rw [I.list_inj hy hq];exact hx⟩,⟨⟨_,by simpa using he2⟩,hit1.at fun o e1=>(hs2'.2 _ (Ne.symm hne)).trans e1⟩,fun b hb=>?_⟩
  ·show Inv X pins σ (upd H s.heap.objs.size (.tup [.int (i:Nat),x])) { s with heap:=h2,gens:=s.gens,drawn:=s.drawn,toks:=s.toks+1 }
   refine I.step (g':=s.gens) (d':=s.drawn) (t':=s.toks+1) (ch:=[e,it]) (fun b hb=>?_) (fun b o _ _ hc q _=>kp b o (fun z=>hc (by simp [z])) (fun z=>hc (by simp [z])) q)
    (fun b o _ _ hc q _=>⟨o.slots,kp b o (fun z=>hc (by simp [z])) (fun z=>hc (by simp [z])) q⟩) (fun b o _ q n=>by rw [aH (nn b o q)];exact n)
    (fun b o hc q=>⟨o,kp b o (fun z=>hc (by simp [z])) (fun z=>hc (by simp [z])) q⟩) (fun b ys q=>by rw [aH (aD q hfr)];exact q) (fun b o ys q=>by rw [aH (aD q hfr)];exact q)
    (fun b ps q=>⟨#[],by rw [aH (aD q hfr),q];simp⟩) (fun m hm=>?_) ok2 I.bare
   ·have hb':b=e∨b=it:=by simpa using hb
    rcases hb' with z | z
    ·subst z;exact⟨g3,g1,g4,g5⟩
    ·subst z;exact⟨f3,f1,f4,f5⟩
   ·obtain⟨o,es,ep,ho,r⟩:=hm
    exact⟨o,es,ep,kp _ o (Ne.symm g1) (Ne.symm f1) ho,r⟩
  ·have hb':b=e∨b=it:=by simpa using hb
   rcases hb' with z | z
   ·subst z;rw [aH (Ne.symm hnE)];exact g0
   ·subst z
    obtain⟨o,e1,_⟩:=hit
    rw [aH (nn _ o e1)];exact f0
 done:=by
  intro X hP hw hK hc i pins s σ H E I hf st hg
  subst hP hw hK
  obtain⟨⟨old,he⟩,hit⟩:=st
  obtain⟨xs,hq,hx⟩:=hg
  obtain⟨its,rv,p,hz⟩:=I.list hq
  obtain⟨f0,f1,f2,f3,f4,f5⟩:=hf it (by simp)
  have hl:=rv.length
  exact wpAny_pyNext_enum_end (I.ok.hd hc) he hit p.isList (by simp;omega) fun h' eb=>⟨rfl,I.turned (t':=s.toks) (fun b o hb e=>eb b o hb e) f0 f1 f3 f4 f5⟩
 self:=fun _ _ _ _ _ st h=>by
  obtain⟨⟨old,he⟩,_⟩:=st
  exact wpAny_pyIter_enum he h
section
variable {X:Cx}
theorem Jd:bootBuiltins "enumerate" =some (.type "enumerate"):=by decide +kernel
inductive Rg (K:PySem.W.Frag) (R:It->Hp->Prop) (vs:List V) (H1:Hp):Prop where
 | mk:∀a,vs=[.ref a]->((∃xs,bK K H1 a xs))->R (Pz K a) H1->Rg K R vs H1
noncomputable def Ym (K:PySem.W.Frag) (ta:TA):TI:=fun σ H R=>ta σ H fun vs H1=>Rg K R vs H1
theorem IV {l:Expr} {ta:TA} {p pos tpos:Pos} {elts:List Expr} {x1:_} (hg:Gl X "enumerate") (hm:X.mg "enumerate" =none) (ha:PA X [l] ta) (hs:starEach [l] X.env=[(false,eval l X.env)]:=by rfl):
  PI X (.Tuple elts x1 tpos) (.Call (.Name "enumerate" p) [l] [] pos) (Ym X.K ta):=by
 intro pins s σ H R I h
 refine Call_ (Fx I hg hm Jd (PyProof.Rows.callWith_type1 (eX (ha pos pins s σ H _ I h) fun us s1 ⟨vs,H1,I1,r1,q1⟩=>?_) hs rfl))
 obtain⟨a,e,⟨xs,hq⟩,q⟩:=q1
 subst e
 obtain⟨u,rfl,ru⟩:=vals1 r1
 cases ru
 obtain⟨its,rv,pl,hz⟩:=I1.list hq
 refine call_enumerate_list pl.isList fun h' he hit hz' kp=>wpAny_pyIter_enum he ?_
 have I2:Inv X pins σ H1 { s1 with heap:=h' }:=I1.kept (t':=s1.toks) kp
 refine⟨s1.heap.objs.size+1,[s1.heap.objs.size+1,s1.heap.objs.size],_,_,H1,rfl,I2,Pk a _ _ (Nat.ne_of_gt (Nat.lt_succ_self _)),⟨⟨_,he⟩,hit⟩,fun b hb=>?_,q⟩
 have hb':b=s1.heap.objs.size+1∨b=s1.heap.objs.size:=by simpa using hb
 rcases hb' with z | z <;> subst z
 ·exact I1.fpOk (Nat.le_succ _) (I1.hok.fresh (Nat.le_succ _))
 ·exact I1.fpOk (Nat.le_refl _) (I1.hok.fresh (Nat.le_refl _))
theorem Rz {K:PySem.W.Frag} {a:Addr} {xs:List V} {g:TG} {tb:TS} {D:Ends} {σ:St} {H:Hp} (Pv:Nat->St->Hp->Prop) (h0:Pv 0 σ H) (hl:∀i σ H,i<=xs.length->Pv i σ H->bK K H a xs)
  (hs:∀i x σ H,xs[i]?=some x->Pv i σ H->∀u,H u=none->g (.ref u) σ (upd H u (.tup [.int (i:Nat),x])) fun σ' H'=>tb { D with nx:=Pv (i+1),ct:=Pv (i+1),bk:=D.nx } σ' H') (hd:∀σ H,Pv xs.length σ H->D.nx σ H):
  ∃W:Nat->Nat->St->Hp->Prop,(∃m,W 0 m σ H)/\∀i m σ H,W i m σ H->
   ((Pz K a).stop i H/\D.nx σ H)∨((Pz K a).go i H/\∃N:St->Hp->Prop,(∀σ' H',N σ' H'->∃m',m' <m/\W (i+1) m' σ' H')/\∀x H',(Pz K a).yld i H x H'->g x σ H' fun σ' H2=>tb { D with nx:=N,ct:=N,bk:=D.nx } σ' H2):=by
 refine⟨fun i m σ H=>m=xs.length - i/\i<=xs.length/\Pv i σ H,⟨xs.length,by simp,Nat.zero_le _,h0⟩,?_⟩
 rintro i m σ H ⟨rfl,hi,p⟩
 have q:=hl i σ H hi p
 by_cases hlt:i <xs.length
 ·refine .inr ⟨⟨xs,xs[i],q,by simp [hlt]⟩,Pv (i+1),fun σ' H' p'=>⟨xs.length - (i+1),by omega,rfl,hlt,p'⟩,fun x H' y=>?_⟩
  obtain⟨u,z,hu,ex,eH,hy⟩:=y
  subst ex eH
  exact hs i z σ H (hy xs q) p u hu
 ·have e:i=xs.length:=by omega
  subst e
  exact .inl ⟨⟨xs,q,Nat.le_refl _⟩,hd σ H p⟩
end
section
variable {P:Program} {w:World} {K:PySem.W.Frag} {mg:Str->Option Value} {base:Heap} {N:List Str} {qual:Str} {scope:Scope} {f:Addr} {cd:Value} {A:Around} {outer:List Env} {s:Shared} {H:Hp} {E:XK}
end
structure QM (K:PySem.W.Frag) (C:Addr):Prop where
 ex:∃(nm q:Str) (Nn:Addr) (bs bm bmB:List Value) (hdct:Bool) (sn:List Str) (sub:List Value) (ab:Bool) (col:Option Bool) (dd:Option Addr) (k0 k1 k2 k3 k5:Option Value) (B newId initId:String) (mN:Str->Option Value),
  ExcBaseFacts B newId initId bmB/\bm.contains (.type "BaseException")=true/\mN "__init__" =none/\
  ∀h:Heap,K.In h->h.get? C=some (excClassObj nm q C Nn bs bm hdct sn sub ab col dd k0 k1 k2 k3 k5 newId)/\h.Ns Nn mN/\OwnTail h bmB bm
section
variable {P:Program} {w:World} {K:PySem.W.Frag} {mg:Str->Option Value} {base:Heap} {N:List Str} {qual:Str} {scope:Scope} {f:Addr} {cd:Value} {A:Around} {outer:List Env} {s:Shared} {H:Hp} {E:XK}
end
section
variable {X:Cx} {pins:List (Addr×Obj)} {σ:St} {H:Hp} {s:Shared} {E:Value->Shared->Prop}
end
section
variable {X:Cx} {pins:List (Addr×Obj)} {σ:St} {H:Hp} {s:Shared}
end
structure ExcAt (K:PySem.W.Frag) (C:Addr):Prop where
 ex:∃(nm q:Str) (Nn:Addr) (bs bm:List Value) (hdct:Bool) (sn:List Str) (sub:List Value) (ab:Bool) (col:Option Bool) (dd:Option Addr) (k0 k1 k2 k3 k5:Option Value) (newId:String),bm.contains (.type "BaseException")=true/\
  ∀h:Heap,K.In h->h.get? C=some (excClassObj nm q C Nn bs bm hdct sn sub ab col dd k0 k1 k2 k3 k5 newId)
section
variable {prog:Program} {w:World} {A:Around} {E:Value->Shared->Prop} {h:Heap} {g:Array GenState} {d:Drawn} {t:Nat} {os:OsState} {a:Addr} {o:Obj} {C:Addr}
end
noncomputable abbrev Ml:List Value:=[.type "ValueError",.type "Exception",.type "BaseException",.type "object"]
noncomputable def Ql (K:PySem.W.Frag) (N:Addr) (x:Str):Option Value:=match K.lookup N with
 | some o=>(match o.data with | .dict es _=>nsFind es x | _=>none)
 | none=>none
theorem QK {K:PySem.W.Frag} {h:Heap} {N:Addr} (X:K.In h) (ok:PySem.W.nsOkIn K N=true):h.nsMap N=Ql K N:=by
 funext x
 unfold PySem.W.nsOkIn at ok
 split at ok
 ·rename_i look
  unfold Heap.nsMap Ql
  rw [X _ _ look,look]
 ·cases ok
theorem QZ {K:PySem.W.Frag} {N:Addr} {x:Str} (e:PySem.W.nsIn K N x=some none):Ql K N x=none:=by
 unfold PySem.W.nsIn at e
 split at e
 ·rename_i look
  split at e
  ·cases e
  ·rename_i f
   unfold Ql
   rw [look]
   show nsFind _ _=none
   unfold nsFind findBy
   rw [<-Array.find?_toList,f]
   rfl
 ·cases e
theorem G6 {K:PySem.W.Frag}:∀{l:List Value},PySem.W.tailIn K Ml l=true->l.contains (.type "BaseException")=true
 | [],e=>by simp [PySem.W.tailIn,Ml] at e
 | v:: r,e=>by
  unfold PySem.W.tailIn at e
  rcases Bool.or_eq_true_iff.mp e with z | z
  ·rw [beq_iff_eq.mp z];decide +kernel
  ·split at z
   ·split at z
    ·simp only [Bool.and_eq_true] at z
     rw [List.contains_cons,G6 z.2,Bool.or_true]
    ·cases z
   ·cases z
theorem QM.ofIn {K:PySem.W.Frag} {C:Addr} (z:PySem.W.excIn K C Ml "ValueError.__new__" =true):QM K C:=by
 unfold PySem.W.excIn at z
 split at z
 ·rename_i od kd slo look
  split at z
  ·rename_i C1 up a0 a1 a2 a3 nid a5 em es
   simp only [Bool.and_eq_true,beq_iff_eq,Bool.not_eq_true'] at z
   obtain⟨⟨⟨⟨⟨x1,x2⟩,x3⟩,x4⟩,x5⟩,x6⟩:=z
   subst x1 x2
   obtain⟨g1,g2,g3,g4,g5,g6,g7,g8,g9,g10,g11⟩:=kd
   dsimp only at em x3 x5 x6
   subst em x3
   have hs:slo= #[a0,a1,a2,a3,some (.builtin "ValueError.__new__"),a5]:=by
    obtain⟨l⟩:=slo
    simp only at es
    rw [es]
   subst hs
   refine⟨⟨g1,g5,g4,g2,up,Ml,g6,g7,g8,g9,g10,od,a0,a1,a2,a3,a5, "ValueError", "ValueError.__new__", "ValueError.__init__",Ql K g4,PySem.F.excBase_ValueError,G6 x4,QZ x6,fun h X=>⟨X _ _ look,?_,PySem.W.tail_of_in X x4⟩⟩⟩
   rw [<-QK X x5]
   exact .of_isNs (PySem.W.isNs_of_in X x5)
  ·cases z
 ·cases z
structure Y7 (K:PySem.W.Frag) (C:Addr):Prop where
 cls:(PySem.W.clsIn K C).isSome=true
 ga:PySem.W.findIn K (.ref C) "__getattribute__" =some (some (.builtin "BaseException.__getattribute__"))
 gn:PySem.W.findIn K (.ref C) "__getattr__" =some none
 cl:PySem.W.findIn K (.ref C) "__class__" =some (some (.builtin "object.__class__"))
 ob:PySem.W.subIn K (.ref C) (.type "object")=some true
 be:PySem.W.subIn K (.ref C) (.type "BaseException")=some true
section
variable {P:Program} {w:World} {K:PySem.W.Frag} {mg:Str->Option Value} {base:Heap}
end
end L2
namespace L2
open PySem
section
variable {prog:Program} {w:World} {A:Around} {E:Value->Shared->Prop} {h:Heap} {g:Array GenState} {d:Drawn} {t:Nat} {os:OsState}
variable {nm q:Str} {C N:Addr} {bs bm bmB:List Value} {hdct:Bool} {sn:List Str} {sub:List Value} {ab:Bool} {col:Option Bool} {dd:Option Addr} {k0 k1 k2 k3 k5:Option Value} {B newId initId:String}
end
section
variable {prog:Program} {w:World} {A:Around} {E:Value->Shared->Prop} {h:Heap} {g:Array GenState} {d:Drawn} {t:Nat} {os:OsState}
variable {nm q:Str} {C N:Addr} {bs bm bmB:List Value} {hdct:Bool} {sn:List Str} {sub:List Value} {ab:Bool} {col:Option Bool} {dd:Option Addr} {k0 k1 k2 k3 k5:Option Value} {B newId initId:String}
end
end L2
namespace L2
open PySem Builtin Builtin.ObjectAttr
noncomputable def JB:List Value->Bool
 | .ref _:: r=>JB r
 | l=>l == Ml
structure Z0 (K:PySem.W.Frag) (C:Addr):Prop where
 xc:Y7 K C
 sa:PySem.W.findIn K (.ref C) "__setattr__" =some (some (.builtin "object.__setattr__"))
 ov:(PySem.W.clsIn K C).any (fun cd=>JB cd.mro && cd.hasDict)=true
section
variable {prog:Program} {w:World} {A:Around} {E:Value->Shared->Prop} {h:Heap} {g:Array GenState} {d:Drawn} {t:Nat} {os:OsState} {x C:Addr} {K:PySem.W.Frag} {mA:Str->Option Value} {name:Str} {v:Value}
end
end L2
namespace L2
open PySem PySem.Spec PyProof.Rows
section
variable {X:Cx} {pins:List (Addr×Obj)} {σ:St} {H:Hp} {s:Shared} {a C dx:Addr} {fs:List (Str×V)} {f:Str} {v:V} {A:Around} {E:Value->Shared->Prop}
end
section
variable {X:Cx} {e o value:Expr} {f:Str} {pos pos':Pos} {ta tv:TE}
end
noncomputable def Qn (K:PySem.W.Frag) (C f:Addr):Bool:=match K.lookup C with
 | some o=>(match o.data with
  | .cls kd=>o.cls == .type "type" && kd.mro.head? == some (.ref C) && PySem.W.tailIn K Ml kd.mro.tail && !kd.hasDel && PySem.W.nsOkIn K kd.ns && Ql K kd.ns "__init__" == some (.ref f) && o.slots.size == 6 && o.slots[4]? == some (some (.builtin "ValueError.__new__"))
  | _=>false)
 | none=>false
structure Dm (K:PySem.W.Frag) (C f:Addr):Prop where
 ex:∃(nm q:Str) (Nn:Addr) (bs bm:List Value) (hdct:Bool) (sn:List Str) (sub:List Value) (ab:Bool) (col:Option Bool) (dd:Option Addr) (k0 k1 k2 k3 k5:Option Value) (mN:Str->Option Value),
  mN "__init__" =some (.ref f)/\∀h:Heap,K.In h->h.get? C=some (excClassObj nm q C Nn bs bm hdct sn sub ab col dd k0 k1 k2 k3 k5 "ValueError.__new__")/\h.Ns Nn mN/\OwnTail h Ml bm
theorem Y9 {α:Type}:∀{l:List α},l.length=6->∃a b c d e f,l=[a,b,c,d,e,f]
 | [a,b,c,d,e,f],_=>⟨a,b,c,d,e,f,rfl⟩
theorem Dm.ofIn {K:PySem.W.Frag} {C f:Addr} (z:Qn K C f=true):Dm K C f:=by
 unfold Qn at z
 split at z
 ·rename_i o look
  obtain⟨oc,od,dt,slo⟩:=o
  dsimp only at z
  split at z
  ·rename_i kd
   simp only [Bool.and_eq_true,beq_iff_eq,Bool.not_eq_true'] at z
   obtain⟨⟨⟨⟨⟨⟨⟨x1,x2⟩,x3⟩,x4⟩,x5⟩,x6⟩,x7⟩,x8⟩:=z
   subst x1
   obtain⟨g1,g2,g3,g4,g5,g6,g7,g8,g9,g10,g11⟩:=kd
   dsimp only at x2 x3 x4 x5 x6
   obtain⟨sl⟩:=slo
   obtain⟨a0,a1,a2,a3,a5,rfl⟩:∃a0 a1 a2 a3 a5,sl=[a0,a1,a2,a3,some (.builtin "ValueError.__new__"),a5]:=by
    obtain⟨a0,a1,a2,a3,a4,a5,rfl⟩:=Y9 (show sl.length=6 from x7)
    have e:a4=some (.builtin "ValueError.__new__"):=Option.some.inj (show some a4=_ from x8)
    subst e
    exact⟨a0,a1,a2,a3,a5,rfl⟩
   obtain⟨up,rfl⟩:∃up,g3=.ref C:: up:=by
    cases g3 with
    | nil=>cases x2
    | cons v r=>cases (show some v=some (Value.ref C) from x2);exact⟨r,rfl⟩
   subst x4
   refine⟨⟨g1,g5,g4,g2,up,g6,g7,g8,g9,g10,od,a0,a1,a2,a3,a5,Ql K g4,x6,fun h X=>⟨X _ _ look,?_,PySem.W.tail_of_in X x3⟩⟩⟩
   rw [<-QK X x5]
   exact .of_isNs (PySem.W.isNs_of_in X x5)
  ·cases z
 ·cases z
section
variable {X:Cx} {CX:Hu} {k:Nat} {C B f:Addr} {fd:FuncData} {ps:List Str} {sp:Sp} {E:XK} {x:Str} {p pos apos:Pos} {e:Expr} {es:List Expr} {t:TA}
end
section
variable {X:Cx} {CX:Hu} {k:Nat} {C f:Addr} {fd:FuncData} {ps:List Str} {sp:Sp} {E:XK} {x:Str} {p pos:Pos} {e:Expr} {es:List Expr} {t:TA}
end
section
variable {X:Cx} {C:Addr} {x:Str} {p pos:Pos} {e:Expr} {es:List Expr} {t:TA}
end
end L2
namespace L2
open PySem
noncomputable def Ws (K:PySem.W.Frag) (C:Addr):Bool:=(PySem.W.clsIn K C).isSome && PySem.W.findIn K (.ref C) "__getattribute__" == some (some (.builtin "BaseException.__getattribute__")) && PySem.W.findIn K (.ref C) "__getattr__" == some none &&
 PySem.W.findIn K (.ref C) "__class__" == some (some (.builtin "object.__class__")) && PySem.W.subIn K (.ref C) (.type "object") == some true && PySem.W.subIn K (.ref C) (.type "BaseException") == some true
theorem Y7.ofIn {K:PySem.W.Frag} {C:Addr} (h:Ws K C=true):Y7 K C:=by
 simp only [Ws,Bool.and_eq_true,beq_iff_eq] at h
 obtain⟨⟨⟨⟨⟨a,b⟩,c⟩,d⟩,e⟩,f⟩:=h
 exact⟨a,b,c,d,e,f⟩
noncomputable def X3 (K:PySem.W.Frag) (C:Addr):Bool:=Ws K C && PySem.W.findIn K (.ref C) "__setattr__" == some (some (.builtin "object.__setattr__")) && (PySem.W.clsIn K C).any (fun cd=>JB cd.mro && cd.hasDict)
theorem Z0.ofIn {K:PySem.W.Frag} {C:Addr} (h:X3 K C=true):Z0 K C:=by
 simp only [X3,Bool.and_eq_true,beq_iff_eq] at h
 obtain⟨⟨a,b⟩,c⟩:=h
 exact⟨.ofIn a,b,c⟩
end L2
namespace L2
open PySem PySem.Spec PyProof.Rows
section
variable {P:Program} {w:World} {K:PySem.W.Frag} {mg:Str->Option Value} {base:Heap} {N:List Str} {qual:Str} {scope:Scope} {f:Addr} {cd:Value} {A:Around} {outer:List Env} {s:Shared} {H:Hp} {E:XK}
end
section
variable {M:Model} {A:Around} {E:Value->Shared->Prop} {s:Shared} {env:Env} {nm q:Str} {C N:Addr} {bs bm:List Value} {hdct:Bool} {sn:List Str} {sub:List Value} {ab:Bool} {col:Option Bool} {dd:Option Addr} {k0 k1 k2 k3 k5:Option Value} {newId:String}
end
section
variable {P:Program} {w:World} {K:PySem.W.Frag} {mg:Str->Option Value} {base:Heap} {N:List Str} {qual:Str} {scope:Scope} {f:Addr} {cd:Value} {A:Around} {outer:List Env} {s:Shared} {H:Hp} {E:XK}
end
section
variable {M:Model} {A:Around} {E:Value->Shared->Prop} {nm q:Str} {C N:Addr} {bs bm:List Value} {hdct:Bool} {sn:List Str} {sub:List Value} {ab:Bool} {col:Option Bool} {dd:Option Addr} {k0 k1 k2 k3 k5:Option Value} {newId:String}
end
section
variable {P:Program} {w:World} {K:PySem.W.Frag} {mg:Str->Option Value} {base:Heap}
end
theorem Dm.at {K:PySem.W.Frag} {C f:Addr} (c:Dm K C f) {h:Heap} (X:K.In h):ExcAt K C:=by
 obtain⟨nm,q,Nn,bs,bm,hdct,sn,sub,ab,col,dd,k0,k1,k2,k3,k5,mN,_,hf⟩:=c.ex
 exact⟨⟨nm,q,Nn,bs,bm,hdct,sn,sub,ab,col,dd,k0,k1,k2,k3,k5,_,(hf h X).2.2.hasType (X:= "BaseException") (b:=true) (by decide +kernel),fun h X=>(hf h X).1⟩⟩
noncomputable def ZV (a b:TI):TI:=fun σ H R=>a σ H R∨b σ H R
theorem VJ {X:Cx} {tg it:Expr} {a b:TI} (h1:PI X tg it a) (h2:PI X tg it b):PI X tg it (ZV a b):=fun pins s σ H R I h=>h.elim (h1 pins s σ H R I) (h2 pins s σ H R I)
theorem JZ {js:List Nat} {tt:TT} {te:TE} {σ:St} {Qd:List V->Hp->Prop} {K:PySem.W.Frag} {a:Addr} {xs:List V} {H:Hp} (Pv:Nat->List V->Hp->Prop) (hn:xs.length<=sizeLine) (h0:Pv 0 [] H) (hl:∀i ys H,Pv i ys H->ys.length<=i) (hq:∀i ys H,i<=xs.length->Pv i ys H->fC K H a xs)
  (hs:∀i x ys H,xs[i]?=some x->Pv i ys H->tt (some x:: dZ σ js) H fun b H4=>if b=true then te (some x:: dZ σ js) H4 fun y H5=>Pv (i+1) (ys ++ [y]) H5 else Pv (i+1) ys H4)
  (hd:∀ys H,Pv xs.length ys H->Qd ys H):CompEnd js tt te σ Qd (Xe K a) H:=by
 refine⟨fun i m ys H=>m=xs.length - i/\i<=xs.length/\Pv i ys H,⟨xs.length,by simp,Nat.zero_le _,h0⟩,?_⟩
 rintro i m ys H ⟨rfl,hi,p⟩
 have hlen:=hl i ys H p
 have q:=hq i ys H hi p
 by_cases hlt:i <xs.length
 ·refine .inr ⟨⟨xs,xs[i],q,by simp [hlt]⟩,by omega,Pv (i+1),fun ys' H' p'=>⟨xs.length - (i+1),by omega,rfl,hlt,p'⟩,fun x H' y=>?_⟩
  obtain⟨e,y⟩:=y
  subst e
  exact hs i x ys _ (y xs q) p
 ·have e:i=xs.length:=by omega
  subst e
  exact .inl ⟨⟨xs,q,Nat.le_refl _⟩,by omega,hd ys H p⟩
theorem Rp {js:List Nat} {tt:TT} {te:TE} {σ σ0:St} {Qd:List V->Hp->Prop} {K:PySem.W.Frag} {a:Addr} {xs:List V} {H:Hp} {tl:TE} (ht:∀R:V->Hp->Prop,R (.ref a) H->tl σ0 H R) (ha:yC K H a xs) (Pv:Nat->List V->Prop) (hn:xs.length<=sizeLine) (h0:Pv 0 []) (hl:∀i ys,Pv i ys->ys.length<=i)
  (hs:∀i x ys,xs[i]?=some x->Pv i ys->tt (some x:: dZ σ js) H fun b H4=>if b=true then te (some x:: dZ σ js) H4 fun y H5=>H5=H/\Pv (i+1) (ys ++ [y]) else H4=H/\Pv (i+1) ys)
  (hd:∀ys,Pv xs.length ys->Qd ys H):ZV (VL K tl) (Xo K tl) σ0 H (CompEnd js tt te σ Qd):=by
 rcases ha with ha | ha
 ·refine .inl (ht _ ⟨a,rfl,⟨xs,ha⟩,fW (K:=K) (a:=a) (xs:=xs) (fun i ys H'=>H'=H/\Pv i ys) hn ⟨rfl,h0⟩ (fun i ys _ z=>hl i ys z.2) (fun i ys H' _ z=>by rw [z.1];exact ha) (fun i x ys H' hx z=>?_) fun ys H' z=>?_⟩)
  ·obtain⟨rfl,z⟩:=z;exact hs i x ys hx z
  ·obtain⟨rfl,z⟩:=z;exact hd ys z
 ·refine .inr (ht _ ⟨a,rfl,⟨xs,ha⟩,JZ (K:=K) (a:=a) (xs:=xs) (fun i ys H'=>H'=H/\Pv i ys) hn ⟨rfl,h0⟩ (fun i ys _ z=>hl i ys z.2) (fun i ys H' _ z=>by rw [z.1];exact ha) (fun i x ys H' hx z=>?_) fun ys H' z=>?_⟩)
  ·obtain⟨rfl,z⟩:=z;exact hs i x ys hx z
  ·obtain⟨rfl,z⟩:=z;exact hd ys z
theorem yC.len {K:PySem.W.Frag} {H:Hp} {a:Addr} {xs:List V} (h:yC K H a xs):XH K (.ref a) H xs.length:=h.elim (fun h=>.inl ⟨xs,h,rfl⟩) fun h=>.inr ⟨xs,h,rfl⟩
theorem Q6 {X:Cx} {K:PySem.W.Frag} (hK:X.K=K):Qm X (Ww K):=by subst hK;exact bw
theorem gw {X:Cx} {K:PySem.W.Frag} (hK:X.K=K):Qm X (WT K):=by subst hK;exact dN
section
variable {P:Program} {w:World} {K:PySem.W.Frag} {mg:Str->Option Value} {base:Heap} {N:List Str} {qual:Str} {scope:Scope} {f:Addr} {cd:Value} {A:Around} {outer:List Env} {s:Shared} {H:Hp} {E:XK}
end
section
variable {κ:Type} [DecidableEq κ]
noncomputable def cD (kvs:List (κ×V)) (k:κ):Option V:=(kvs.find? fun kv=>decide (kv.1=k)).map (·.2)
noncomputable def putK (kvs:List (κ×V)) (k:κ) (v:V):List (κ×V):=
 if (kvs.any fun kv=>decide (kv.1=k))=true then kvs.map (fun kv=>if kv.1=k then(kv.1,v) else kv) else kvs ++ [(k,v)]
theorem jl {p:κ×V} {r:List (κ×V)} {k:κ} (e:p.1=k):cD (p:: r) k=some p.2:=by simp [cD,List.find?_cons,e]
theorem iz {p:κ×V} {r:List (κ×V)} {k:κ} (e:¬p.1=k):cD (p:: r) k=cD r k:=by simp [cD,List.find?_cons,e]
theorem sO (k:κ):∀kvs:List (κ×V),(kvs.any fun kv=>decide (kv.1=k))=(cD kvs k).isSome
 | []=>rfl
 | p:: r=>by
  rw [List.any_cons]
  by_cases e:p.1=k
  ·simp only [jl e,decide_eq_true e,Bool.true_or,Option.isSome_some]
  ·rw [iz e,decide_eq_false e,Bool.false_or];exact sO k r
theorem K1 (k j:κ) (y:V):∀kvs:List (κ×V),cD (kvs.map fun kv=>if kv.1=k then(kv.1,y) else kv) j=(cD kvs j).map fun x=>if j=k then y else x
 | []=>rfl
 | p:: r=>by
  have ih:=K1 k j y r
  rw [List.map_cons]
  by_cases h:p.1=k
  ·rw [if_pos h]
   by_cases e:p.1=j
   ·rw [jl (p:=(p.1,y)) e,jl e,Option.map_some,if_pos (e.symm.trans h)]
   ·rw [iz (p:=(p.1,y)) e,iz e,ih]
  ·rw [if_neg h]
   by_cases e:p.1=j
   ·rw [jl (p:=p) e,jl e,Option.map_some,if_neg (fun z=>h (e.trans z))]
   ·rw [iz (p:=p) e,iz e,ih]
theorem Hg (k j:κ) (y:V):∀kvs:List (κ×V),cD kvs k=none->cD (kvs ++ [(k,y)]) j=if j=k then some y else cD kvs j
 | [],_=>by
  by_cases e:k=j
  ·rw [if_pos e.symm];exact jl (p:=(k,y)) e
  ·rw [if_neg (fun z=>e z.symm)];exact iz (p:=(k,y)) e
 | p:: r,hn=>by
  rw [List.cons_append]
  have hk:¬p.1=k:=fun z=>by rw [jl z] at hn;cases hn
  rw [iz hk] at hn
  have ih:=Hg k j y r hn
  by_cases e:p.1=j
  ·rw [jl e,jl e,if_neg (fun z=>hk (e.trans z))]
  ·rw [iz e,iz e,ih]
theorem RP (kvs:List (κ×V)) (k j:κ) (y:V):cD (putK kvs k y) j=if j=k then some y else cD kvs j:=by
 unfold putK
 by_cases a:(kvs.any fun kv=>decide (kv.1=k))=true
 ·rw [if_pos a,K1]
  rw [sO] at a
  by_cases e:j=k
  ·obtain⟨x,hx⟩:=Option.isSome_iff_exists.mp a
   rw [if_pos e,e,hx,Option.map_some,if_pos rfl]
  ·rw [if_neg e]
   cases cD kvs j with
   | none=>rfl
   | some x=>rw [Option.map_some,if_neg e]
 ·rw [if_neg a]
  refine Hg k j y kvs ?_
  rw [sO] at a
  cases q:cD kvs k with
  | none=>rfl
  | some x=>rw [q] at a;exact(a rfl).elim
theorem nW (kvs:List (κ×V)) (k:κ) (v:V):(putK kvs k v).length<=kvs.length+1:=by
 unfold putK
 split
 ·rw [List.length_map];omega
 ·rw [List.length_append,List.length_cons,List.length_nil];omega
theorem jO {kvs:List (κ×V)} {k:κ} (v:V) (h:cD kvs k=none):putK kvs k v=kvs ++ [(k,v)]:=by
 unfold putK
 rw [sO,h]
 exact if_neg (by decide)
theorem uH.isSome_eq {o:Option V} {u:Option Value} (r:uH o u):o.isSome=u.isSome:=by
 cases o with
 | none=>cases u with
  | none=>rfl
  | some _=>exact(show False from r).elim
 | some _=>cases u with
  | none=>exact(show False from r).elim
  | some _=>rfl
theorem uH.getD {o:Option V} {u:Option Value} {d:V} {d':Value} (r:uH o u) (rd:RelV d d'):RelV (o.getD d) (u.getD d'):=by
 cases o with
 | none=>cases u with
  | none=>exact rd
  | some _=>exact(show False from r).elim
 | some _=>cases u with
  | none=>exact(show False from r).elim
  | some _=>exact r
theorem KV.val {kvs:List (κ×V)} {vs:List (κ×Value)} (r:KV kvs vs) (k:κ):uH (cD kvs k) (valueAt vs k):=by
 unfold KV at r
 induction r with
 | nil=>exact True.intro
 | @cons p q ps qs h t ih=>
  obtain⟨h1,h2⟩:=h
  by_cases e:p.1=k
  ·have e':q.1=k:=h1.symm.trans e
   have b:valueAt (q:: qs) k=some q.2:=by simp [valueAt,List.find?_cons,e']
   rw [jl e,b];exact h2
  ·have e':¬q.1=k:=fun z=>e (h1.trans z)
   have b:valueAt (q:: qs) k=valueAt qs k:=by simp [valueAt,List.find?_cons,e']
   rw [iz e,b];exact ih
theorem KV.any {kvs:List (κ×V)} {vs:List (κ×Value)} (r:KV kvs vs) (k:κ):(kvs.any fun kv=>decide (kv.1=k))=vs.any fun kv=>decide (kv.1=k):=by
 unfold KV at r
 induction r with
 | nil=>rfl
 | cons h t ih=>rw [List.any_cons,List.any_cons,ih,h.1]
theorem KV.repl {kvs:List (κ×V)} {vs:List (κ×Value)} (r:KV kvs vs) (k:κ) {y:V} {u:Value} (ry:RelV y u):
  KV (kvs.map fun kv=>if kv.1=k then(kv.1,y) else kv) (vs.map fun kv=>if kv.1=k then(kv.1,u) else kv):=by
 unfold KV at r ⊢
 induction r with
 | nil=>exact .nil
 | @cons p q ps qs h t ih=>
  rw [List.map_cons,List.map_cons]
  refine .cons ?_ ih
  obtain⟨h1,h2⟩:=h
  by_cases e:p.1=k
  ·rw [if_pos e,if_pos (h1.symm.trans e)];exact⟨h1,ry⟩
  ·rw [if_neg e,if_neg (fun z=>e (h1.trans z))];exact⟨h1,h2⟩
theorem KV.put {kvs:List (κ×V)} {vs:List (κ×Value)} (r:KV kvs vs) (k:κ) {y:V} {u:Value} (ry:RelV y u):KV (putK kvs k y) (stored vs k u):=by
 unfold putK stored
 rw [r.any k]
 by_cases e:(vs.any fun kv=>decide (kv.1=k))=true
 ·rw [if_pos e,if_pos e];exact r.repl k ry
 ·rw [if_neg e,if_neg e];exact Paired.snoc r ⟨rfl,ry⟩
theorem KV.length {kvs:List (κ×V)} {vs:List (κ×Value)} (r:KV kvs vs):kvs.length=vs.length:=Paired.length r
end
theorem Fy {P:Program} {w:World} {k:Key} {u:Value} (r:RelV (kV k) u):(du P w).is k u=true:=by
 cases k with
 | inl i=>obtain⟨t,e⟩:=(show ∃t,u=Value.int i t from r);subst e;exact K7 P w i t
 | inr x=>obtain⟨t,e⟩:=(show ∃t,u=Value.str x t from r);subst e;exact nj P w x t
theorem G4 {P:Program} {w:World}:∀{ks:List Key} {us:List Value},Vals (ks.map kV) us->ItemsAre (du P w) ks us
 | [],_,r=>by rw [List.map_nil] at r;cases r;exact .nil
 | k:: ks,_,r=>by
  rw [List.map_cons] at r
  cases r with
  | cons h t=>exact .cons (Fy h) (G4 t)
noncomputable abbrev KT (H:Hp):List (List Key×V)->List (List Key×Addr×Value)->Prop:=Paired fun p q=>p.1=q.1/\H q.2.1=some (.tup (p.1.map kV))/\RelV p.2 q.2.2
theorem KT.val {H:Hp} {kvs:List (List Key×V)} {xs:List (List Key×Addr×Value)} (r:KT H kvs xs) (k:List Key):uH (cD kvs k) ((atKey xs k).map (·.2)):=by
 induction r with
 | nil=>exact True.intro
 | @cons p q ps qs h t ih=>
  obtain⟨h1,_,h2⟩:=h
  by_cases e:p.1=k
  ·have e':q.1=k:=h1.symm.trans e
   have b:atKey (q:: qs) k=some q.2:=by simp [atKey,List.find?_cons,e']
   rw [jl e,b];exact h2
  ·have e':¬q.1=k:=fun z=>e (h1.trans z)
   have b:atKey (q:: qs) k=atKey qs k:=by simp [atKey,List.find?_cons,e']
   rw [iz e,b];exact ih
theorem KT.repl {H:Hp} {kvs:List (List Key×V)} {xs:List (List Key×Addr×Value)} (r:KT H kvs xs) (k:List Key) {y:V} {u:Value} (ry:RelV y u):
  KT H (kvs.map fun kv=>if kv.1=k then(kv.1,y) else kv) (xs.map (putAt k u)):=by
 induction r with
 | nil=>exact .nil
 | @cons p q ps qs h t ih=>
  rw [List.map_cons,List.map_cons]
  refine .cons ?_ ih
  obtain⟨h1,h2,h3⟩:=h
  unfold putAt
  by_cases e:p.1=k
  ·rw [if_pos e,if_pos (h1.symm.trans e)];exact⟨h1,h2,ry⟩
  ·rw [if_neg e,if_neg (fun z=>e (h1.trans z))];exact⟨h1,h2,h3⟩
theorem KT.put {H:Hp} {kvs:List (List Key×V)} {xs:List (List Key×Addr×Value)} (r:KT H kvs xs) (k:List Key) {b:Addr} {y:V} {u:Value} (hb:H b=some (.tup (k.map kV))) (ry:RelV y u):
  KT H (putK kvs k y) (storedH xs k b u):=by
 have e:(kvs.any fun kv=>decide (kv.1=k))=(atKey xs k).isSome:=by
  rw [sO,(r.val k).isSome_eq,Option.isSome_map]
 unfold putK storedH
 rw [e]
 by_cases q:(atKey xs k).isSome=true
 ·rw [if_pos q,if_pos q];exact r.repl k ry
 ·rw [if_neg q,if_neg q];exact Paired.snoc r ⟨rfl,hb,ry⟩
theorem KT.keeps {H H':Hp} {kvs:List (List Key×V)} {xs:List (List Key×Addr×Value)} (r:KT H kvs xs) (ht:∀b ys,H b=some (.tup ys)->H' b=some (.tup ys)):KT H' kvs xs:=
 Paired.mapP r fun _ _ z=>⟨z.1,ht _ _ z.2.1,z.2.2⟩
section
variable {P:Program} {w:World} {H:Hp} {h:Heap} {a:Addr}
theorem Vz {u:HO} (ok:wK P w H h) (e:Rd H a u):fZ P w H h a u:=e.ok ok
theorem zy {kvs:List (Key×V)} (ok:wK P w H h) (e:Rd H a (.dK kvs)):kvs.length<=sizeLine/\(a == sysModules)=false/\∃vs,KV kvs vs/\h.DictOf (du P w) a vs:=
 show fZ P w H h a (.dK kvs) from Vz ok e
theorem Vk {kvs:List (Key×V)} (ok:wK P w H h) (e:H a=some (.dK kvs)):kvs.length<=sizeLine/\(a == sysModules)=false/\∃vs,KV kvs vs/\h.DictOf (du P w) a vs:=zy ok (.inl e)
theorem Ai {ks:List Key} (ok:wK P w H h) (e:H a=some (.tup (ks.map kV))):(tupleKind (du P w)).is h ks a:=by
 obtain⟨_,its,r,o,h1,h2,n,h3⟩:=(show fZ P w H h a (.tup (ks.map kV)) from ok a _ e)
 exact⟨o,its.toArray,n,h1,h2,h3,by simpa using G4 r⟩
theorem DK {kvs:List (List Key×V)} (ok:wK P w H h) (e:Rd H a (.dT kvs)):kvs.length<=sizeLine/\(a == sysModules)=false/\
  ∃xs,KT H kvs xs/\h.DictOfH (tupleKind (du P w)) a xs:=by
 obtain⟨z,y,xs,r,o,es,ep,h1,h2,h3,h4,h5⟩:=(show fZ P w H h a (.dT kvs) from Vz ok e)
 refine⟨z,y,xs,r,o,es,ep,h1,h2,h3,h4,fun x hx=>?_,h5⟩
 have all:∀{l:List (List Key×V)} {m:List (List Key×Addr×Value)},KT H l m->∀x∈m,(tupleKind (du P w)).is h x.1 x.2.1:=by
  intro l m q
  induction q with
  | nil=>intro x hx;exact nomatch hx
  | @cons p q ps qs hq t ih=>
   intro x hx
   rcases List.mem_cons.mp hx with e | hx
   ·subst e
    exact Ai ok (by rw [<-hq.1];exact hq.2.1)
   ·exact ih x hx
 exact all r x hx
theorem Xi {kvs:List (List Key×V)} (ok:wK P w H h) (e:H a=some (.dT kvs)):kvs.length<=sizeLine/\(a == sysModules)=false/\
  ∃xs,KT H kvs xs/\h.DictOfH (tupleKind (du P w)) a xs:=DK ok (.inl e)
end
noncomputable def eE (H:Hp) (a:Addr) (y:V) (r:Option V):Prop:=
 (∃kvs k,Rd H a (.dK kvs)/\y=kV k/\r=cD kvs k)∨∃kvs k b,Rd H a (.dT kvs)/\y=.ref b/\H b=some (.tup (k.map kV))/\r=cD kvs k
noncomputable def qD (H:Hp) (a:Addr) (y v:V) (H':Hp):Prop:=
 (∃kvs k,H a=some (.dK kvs)/\y=kV k/\kvs.length <sizeLine/\H'=upd H a (.dK (putK kvs k v)))∨
 ∃kvs k b,H a=some (.dT kvs)/\y=.ref b/\H b=some (.tup (k.map kV))/\kvs.length <sizeLine/\H'=upd H a (.dT (putK kvs k v))
theorem eE.k {H:Hp} {a:Addr} {kvs:List (Key×V)} {k:Key} (e:H a=some (.dK kvs)):eE H a (kV k) (cD kvs k):=.inl ⟨kvs,k,.inl e,rfl,rfl⟩
theorem qD.k {H:Hp} {a:Addr} {kvs:List (Key×V)} {k:Key} {v:V} (e:H a=some (.dK kvs)) (hl:kvs.length <sizeLine):qD H a (kV k) v (upd H a (.dK (putK kvs k v))):=.inl ⟨kvs,k,e,rfl,hl,rfl⟩
section
variable {X:Cx} {pins:List (Addr×Obj)} {σ:St} {H:Hp} {s:Shared} {a:Addr} {y v:V} {u r:Value} {o:Option V} {A:Around} {E:Value->Shared->Prop}
theorem Inv.big (I:Inv X pins σ H s):sysModules <s.heap.objs.size:=by
 have h:mainGlobals <s.heap.objs.size:=(I.mod.glob.keeps I.bk).lt
 exact Nat.lt_trans (by decide) h
theorem Ho {Q:Value->Shared->Prop} (hu:A.units+1 <cLine) (I:Inv X pins σ H s) (g:eE H a y (some v)) (ry:RelV y u) (h:∀w' s',Inv X pins σ H s'->RelV v w'->Q w' s'):
  wpAny (model X.prog X.w) A (getItem (.ref a) u) Q E s:=by
 rcases g with ⟨kvs,k,e,ey,l⟩ | ⟨kvs,k,b,e,ey,eb,l⟩
 ·subst ey
  obtain⟨z,hd,vs,rel,dd⟩:=zy I.hok e
  obtain⟨w',hw,rw'⟩:=uH.some_of (v:=v) (o:=valueAt vs k) (by rw [l];exact rel.val k)
  exact wpAny_getItem_of (Fy ry) dd.mapOf hw (h w' _ (I.tok _) rw')
 ·subst ey
  cases (show u=Value.ref b from ry)
  obtain⟨z,hd,xs,rel,dd⟩:=DK I.hok e
  obtain⟨w',hw,rw'⟩:=uH.some_of (v:=v) (o:=(atKey xs k).map (·.2)) (by rw [l];exact rel.val k)
  obtain⟨p,hp,hp2⟩:=Option.map_eq_some_iff.mp hw
  refine wpAny_getItem_heap (tupleKind_room_in1 hu) (Ai I.hok eb) dd hp ?_
  rw [hp2]
  exact h w' _ (I.tok _) rw'
theorem Zd {Q:Value->Shared->Prop} (hu:A.units+1 <cLine) (I:Inv X pins σ H s) (g:eE H a y o) (ry:RelV y u) (h:∀s',Inv X pins σ H s'->Q (.bool o.isSome) s'):
  wpAny (model X.prog X.w) A (compareOp .In u (.ref a)) Q E s:=by
 rcases g with ⟨kvs,k,e,ey,l⟩ | ⟨kvs,k,b,e,ey,eb,l⟩
 ·subst ey
  obtain⟨z,hd,vs,rel,dd⟩:=zy I.hok e
  refine wpAny_in_of (Fy ry) hd dd.mapOf ?_
  rw [<-(rel.val k).isSome_eq,<-l]
  exact h _ (I.tok _)
 ·subst ey
  cases (show u=Value.ref b from ry)
  obtain⟨z,hd,xs,rel,dd⟩:=DK I.hok e
  refine wpAny_in_heap (tupleKind_room_in1 hu) (Ai I.hok eb) hd dd ?_
  have q:=(rel.val k).isSome_eq
  rw [Option.isSome_map] at q
  rw [<-q,<-l]
  exact h _ (I.tok _)
theorem UG {Q:Value->Shared->Prop} (hu:A.units+1 <cLine) (I:Inv X pins σ H s) (g:eE H a y o) (ry:RelV y u) (h:∀s',Inv X pins σ H s'->Q (.bool (!o.isSome)) s'):
  wpAny (model X.prog X.w) A (compareOp .NotIn u (.ref a)) Q E s:=by
 rcases g with ⟨kvs,k,e,ey,l⟩ | ⟨kvs,k,b,e,ey,eb,l⟩
 ·subst ey
  obtain⟨z,hd,vs,rel,dd⟩:=zy I.hok e
  refine wpAny_notIn_of (Fy ry) hd dd.mapOf ?_
  rw [<-(rel.val k).isSome_eq,<-l]
  exact h _ (I.tok _)
 ·subst ey
  cases (show u=Value.ref b from ry)
  obtain⟨z,hd,xs,rel,dd⟩:=DK I.hok e
  refine wpAny_notIn_heap (tupleKind_room_in1 hu) (Ai I.hok eb) hd dd ?_
  have q:=(rel.val k).isSome_eq
  rw [Option.isSome_map] at q
  rw [<-q,<-l]
  exact h _ (I.tok _)
theorem Jg {h':Heap} {t':Nat} {ob:HO} (I:Inv X pins σ H s) (mu:Xr (H a)) (hs:Heap.SameBut a s.heap h') (he:∃q,h'.get? a=some q) (new:fZ X.prog X.w (upd H a ob) h' a ob):
  Inv X pins σ (upd H a ob) { s with heap:=h',toks:=t' }:=
 I.write (x:=a) (e:=a) mu (.inl rfl) (fun b q hb z=>(hs.2 b hb).trans z) he new
theorem QX {P:Program} {w:World} {H':Hp} {h':Heap} {kvs:List (Key×V)} {vs:List (Key×Value)} (z:kvs.length<=sizeLine) (hd:(a == sysModules)=false) (rel:KV kvs vs) (dd:h'.DictOf (du P w) a vs):
  fZ P w H' h' a (.dK kvs):=⟨z,hd,vs,rel,dd⟩
theorem Gp {H':Hp} {Q:Unit->Shared->Prop} (hu:A.units+1 <cLine) (I:Inv X pins σ H s) (g:qD H a y v H') (ry:RelV y u) (rv:RelV v r) (h:∀s',Inv X pins σ H' s'->Q () s'):
  wpAny (model X.prog X.w) A (setItem (.ref a) u r) Q E s:=by
 rcases g with ⟨kvs,k,e,ey,l,eH⟩ | ⟨kvs,k,b,e,ey,eb,l,eH⟩
 ·subst ey eH
  obtain⟨z,hd,vs,rel,dd⟩:=Vk I.hok e
  have hz:vs.length<=sizeLine:=by rw [<-rel.length];exact z
  have hl:(putK kvs k v).length<=sizeLine:=by have:=nW kvs k v;omega
  refine wpAny_setItem_pairs (hsz:=hz) (Fy ry) dd fun h' dd' hs=>h _ ?_
  have he:∃q,h'.get? a=some q:=let ⟨q,_,_,hq,_⟩:=dd';⟨q,hq⟩
  exact Jg I (by rw [e];exact True.intro) hs he (QX hl hd (rel.put k rv) dd')
 ·subst ey eH
  cases (show u=Value.ref b from ry)
  obtain⟨z,hd,xs,rel,dd⟩:=Xi I.hok e
  have hz:xs.length<=sizeLine:=by rw [<-Paired.length rel];exact z
  have hl:(putK kvs k v).length<=sizeLine:=by have:=nW kvs k v;omega
  refine wpAny_setItem_heap (hsz:=hz) (tupleKind_room_in1 hu) (Ai I.hok eb) dd fun h' dd' hs=>h _ ?_
  obtain⟨q,es,ep,hq,h2,h3,h4,_,h5⟩:=dd'
  refine Jg I (by rw [e];exact True.intro) hs ⟨q,hq⟩ ⟨hl,hd,_,(rel.put k eb rv).keeps fun c ys ec=>?_,q,es,ep,hq,h2,h3,h4,h5⟩
  rw [aH (uC ec e (fun z=>nomatch z))]
  exact ec
end
section
variable {X:Cx} {pins:List (Addr×Obj)} {σ:St} {H:Hp} {s:Shared} {a:Addr} {kvs:List (Key×V)} {k:Key} {u:Value} {A:Around} {E:Value->Shared->Prop}
end
noncomputable def Yg (i:Expr):Prop:=∀ov iv,subscripted i false ov iv=operate [ov,iv] (getItem ov iv)
theorem Tz {prog:Program} {w:World} {A:Around} {E:Value->Shared->Prop} {s:Shared} {env:Env} {value slice:Expr} {pos:Pos} {T id:String} {Q:Value->Shared->Prop}
  (hl:typeLookup (.type T) "__getitem__" =pure (some (.builtin id))) (hs:Yg slice)
  (h:wpAny (model prog w) A (eval value env) (fun o s₁=>wpAny (model prog w) A (eval slice env) (fun i s₂=>s₂.TypeIs o T/\wpAny (model prog w) A (getItem o i) Q E s₂) E s₁) E s):
  wpAny (model prog w) A (eval (.Subscript value slice pos) env) Q E s:=by
 refine Subscript_ (wpAny_mono h (fun o s₁ h₁=>wpAny_mono h₁ (fun i s₂ h₂=>?_) fun _ _ x=>x) fun _ _ x=>x)
 obtain⟨hT,h₂⟩:=h₂
 unfold subscriptTail
 refine wpAny_bind ?_
 rw [getitemInPython_of_ne hT.not_modules]
 refine wpAny_bind (wpAny_specialOf hT hl ?_)
 have fin:wpAny (model prog w) A (subscripted slice false o i) (fun r s₃=>wpAny (model prog w) A (letTemporaryGo value o r >>= fun _=>pure r) Q E s₃) E s₂:=by
  rw [hs o i]
  exact wpAny_operating (wpAny_mono h₂ (fun r s₃ h₃=>wpAny_bind (wpAny_letTemporaryGo (wpAny_pure h₃))) fun _ _ x=>x)
 first
  | exact wpAny_pure (wpAny_bind fin)
  | exact wpAny_bind (wpAny_pure (wpAny_bind fin))
  | exact wpAny_bind fin
theorem JV {X:Cx} {pins:List (Addr×Obj)} {σ:St} {H:Hp} {s:Shared} {a:Addr} {y:V} {o:Option V} (I:Inv X pins σ H s) (g:eE H a y o):s.TypeIs (.ref a) "dict" :=by
 rcases g with ⟨kvs,k,e,_,_⟩ | ⟨kvs,k,b,e,_,_,_⟩
 ·obtain⟨_,_,vs,_,dd⟩:=zy I.hok e
  exact dd.typeIs
 ·obtain⟨_,_,xs,_,dd⟩:=DK I.hok e
  exact dd.typeIs
inductive QJ (Q:VK) (x:V) (y:V) (H2:Hp):Prop where
 | mk:∀a v,x=.ref a->eE H2 a y (some v)->Q v H2->QJ Q x y H2
noncomputable def Xk (td ty:TE):TE:=fun σ H Q=>td σ H fun x H1=>ty σ H1 fun y H2=>QJ Q x y H2
inductive VD (Q:VK) (y:V) (x:V) (H2:Hp):Prop where
 | mk:∀a o,x=.ref a->eE H2 a y o->Q (.bl o.isSome) H2->VD Q y x H2
noncomputable def Zh (ty td:TE):TE:=fun σ H Q=>ty σ H fun y H1=>td σ H1 fun x H2=>VD Q y x H2
inductive Lz (Q:VK) (y:V) (x:V) (H2:Hp):Prop where
 | mk:∀a o,x=.ref a->eE H2 a y o->Q (.bl (!o.isSome)) H2->Lz Q y x H2
noncomputable def Tj (ty td:TE):TE:=fun σ H Q=>ty σ H fun y H1=>td σ H1 fun x H2=>Lz Q y x H2
inductive QC (D:Ends) (σ:St) (v:V) (x:V) (y:V) (H3:Hp):Prop where
 | mk:∀a H4,x=.ref a->qD H3 a y v H4->D.nx σ H4->QC D σ v x y H3
noncomputable def Xx (td ty tv:TE):TS:=fun D σ H=>tv σ H fun v H1=>td σ H1 fun x H2=>ty σ H2 fun y H3=>QC D σ v x y H3
inductive SM (tv:TE) (rd:V->V->Hp->VK->Prop) (D:Ends) (σ:St) (x:V) (y:V) (H2:Hp):Prop where
 | mk:∀a v,x=.ref a->eE H2 a y (some v)->(tv σ H2 fun y2 H3=>rd v y2 H3 fun z H4=>∃H5,qD H4 a y z H5/\D.nx σ H5)->SM tv rd D σ x y H2
noncomputable def YJ (td ty tv:TE) (rd:V->V->Hp->VK->Prop):TS:=fun D σ H=>td σ H fun x H1=>ty σ H1 fun y H2=>SM tv rd D σ x y H2
section
variable {X:Cx} {o i e value:Expr} {pos pos' tpos:Pos} {td ty tv:TE}
theorem cG (hu:X.A.units+1 <cLine) (ho:PE X o td) (hi:PE X i ty) (hs:Yg i):PE X (.Subscript o i pos) (Xk td ty):=by
 intro pins s σ H Q I h
 refine Tz PySem.F.slot_dict_getitem.lookup hs (eX (ho pins s σ H _ I h) fun u s1 ⟨x,H1,I1,rx,q1⟩=>eX (hi pins s1 σ H1 _ I1 q1) fun iv s2 hpt=>?_)
 obtain⟨y,H2,I2,ry,a,v,ex,g,q2⟩:=hpt
 subst ex
 obtain rfl:u=Value.ref a:=rx
 exact⟨JV I2 g,Ho hu I2 g ry fun w' s3 I3 rw'=>⟨v,H2,I3,rw',q2⟩⟩
theorem Ax (hu:X.A.units+1 <cLine) (hi:PE X i ty) (ho:PE X o td):PC X .In i o (Zh ty td):=by
 intro pins s σ H Q I h
 refine eX (hi pins s σ H _ I h) fun iv s1 ⟨y,H1,I1,ry,q1⟩=>eX (ho pins s1 σ H1 _ I1 q1) fun u s2 hpt=>?_
 obtain⟨x,H2,I2,rx,a,ov,ex,g,q2⟩:=hpt
 subst ex
 obtain rfl:u=Value.ref a:=rx
 exact Zd hu I2 g ry fun s3 I3=>⟨.bl ov.isSome,H2,I3,rfl,q2⟩
theorem wJ (hu:X.A.units+1 <cLine) (hi:PE X i ty) (ho:PE X o td):PC X .NotIn i o (Tj ty td):=by
 intro pins s σ H Q I h
 refine eX (hi pins s σ H _ I h) fun iv s1 ⟨y,H1,I1,ry,q1⟩=>eX (ho pins s1 σ H1 _ I1 q1) fun u s2 hpt=>?_
 obtain⟨x,H2,I2,rx,a,ov,ex,g,q2⟩:=hpt
 subst ex
 obtain rfl:u=Value.ref a:=rx
 exact UG hu I2 g ry fun s3 I3=>⟨.bl (!ov.isSome),H2,I3,rfl,q2⟩
theorem gU (hu:X.A.units+1 <cLine) (ho:PE X o td) (hi:PE X i ty) (hv:PE X value tv) (hs:swapsWith value (some (.Subscript o i pos')) pos.line X.env=pure false):
  PS X (.Assign [.Subscript o i pos'] value pos) (Xx td ty tv):=by
 intro pins s σ H D I h
 refine wpAny_Assign_Subscript (eX (hv pins s σ H _ I h) fun r s1 ⟨v,H1,I1,rv,q1⟩=>eX (ho pins s1 σ H1 _ I1 q1) fun u s2 ⟨x,H2,I2,rx,q2⟩=>eX (hi pins s2 σ H2 _ I2 q2) fun iv s3 hpt=>?_) hs
 obtain⟨y,H3,I3,ry,a,H4,ex,g,q3⟩:=hpt
 subst ex
 obtain rfl:u=Value.ref a:=rx
 exact Gp hu I3 g ry rv fun s4 I4=>⟨σ,H4,I4,q3⟩
theorem Od {op:Operator} {rd:V->V->Hp->VK->Prop} (hu:X.A.units+1 <cLine) (ho:PE X o td) (hi:PE X i ty) (hv:PE X value tv) (hop:Yl X op rd)
  (ha:∀ov iv new,augStore i ov iv new=(do holding [new,ov,iv] (setItem ov iv new);release [new,ov,iv] [];pure .next)):PS X (.AugAssign (.Subscript o i tpos) op value pos) (YJ td ty tv rd):=by
 intro pins s σ H D I h
 refine wpAny_AugAssign_SubscriptAny (eX (ho pins s σ H _ I h) fun u s1 ⟨x,H1,I1,rx,q1⟩=>eX (hi pins s1 σ H1 _ I1 q1) fun iv s2 hpt=>?_) ha
 obtain⟨y,H2,I2,ry,a,v,ex,g,q2⟩:=hpt
 subst ex
 obtain rfl:u=Value.ref a:=rx
 refine Ho hu I2 g ry fun w' s3 I3 rw'=>eX (hv pins s3 σ H2 _ I3 q2) fun w2 s4 ⟨y2,H3,I4,ry2,q3⟩=>eX (hop pins s4 σ H3 v y2 w' w2 _ I4 rw' ry2 q3) fun w3 s5 hpt=>?_
 obtain⟨z,H4,I5,rz,H5,g5,q4⟩:=hpt
 exact Gp hu I5 g5 ry rz fun s6 I6=>⟨σ,H5,I6,q4⟩
end
theorem KJ {P:Program} {w:World} {H:Hp} (h:Heap) (hb:sysModules <h.objs.size):fZ P w H (h.push { cls:=.type "dict",data:=.dict #[] }) h.objs.size (.dK []):=
 ⟨Nat.zero_le _,beq_eq_false_iff_ne.mpr (Ne.symm (Nat.ne_of_lt hb)),[],.nil,Heap.DictOf.new h⟩
noncomputable def Wc:TE:=fun _ H Q=>∀p,H p=none->Q (.ref p) (upd H p (.dK []))
section
variable {X:Cx} {pos:Pos}
theorem il:PE X (.Dict [] [] pos) Wc:=fun pins s σ H Q I h=>
 wpAny_Dict_empty ⟨.ref s.heap.objs.size,_,I.laid (a:=s.heap.objs.size) (o:=.dK []) (t':=s.toks) (fun _ _ q=>Heap.get?_push_of_some _ q) (Nat.le_refl _) (KJ s.heap I.big),rfl,h _ (I.hok.fresh (Nat.le_refl _))⟩
end
noncomputable def Nq:List (TE×TE)->St->Hp->(List (V×V)->Hp->Prop)->Prop
 | [],_,H,Q=>Q [] H
 | (tk,tv):: r,σ,H,Q=>tk σ H fun x H1=>tv σ H1 fun y H2=>Nq r σ H2 fun ps H3=>Q ((x,y):: ps) H3
noncomputable abbrev VV:List (V×V)->List (Value×Value)->Prop:=Paired fun p q=>RelV p.1 q.1/\RelV p.2 q.2
noncomputable def YK (X:Cx) (pos:Pos) (keys:List (Option Expr)) (values:List Expr) (trs:List (TE×TE)):Prop:=
 ∀(pins:List (Addr×Obj)) (s:Shared) (σ:St) (H:Hp) (Q:List (V×V)->Hp->Prop),Inv X pins σ H s->Nq trs σ H Q->
  wpAny (model X.prog X.w) X.A (evalPairs (pairTrees keys values X.env pos)) (fun vs s'=>∃ps H',Inv X pins σ H' s'/\VV ps vs/\Q ps H') X.xe s
theorem UL {X:Cx} {pos:Pos}:YK X pos [] [] []:=fun pins s σ H Q I h=>pairTrees_nil_walk ⟨[],H,I,.nil,h⟩
theorem RX {X:Cx} {pos:Pos} {k v:Expr} {ks:List (Option Expr)} {vs:List Expr} {tk tv:TE} {trs:List (TE×TE)} (hk:PE X k tk) (hv:PE X v tv) (hr:YK X pos ks vs trs):
  YK X pos (some k:: ks) (v:: vs) ((tk,tv):: trs):=fun pins s σ H Q I h=>
 pairTrees_cons_walk (eX (hk pins s σ H _ I h) fun u s1 ⟨x,H1,I1,rx,q1⟩=>eX (hv pins s1 σ H1 _ I1 q1) fun w2 s2 ⟨y,H2,I2,ry,q2⟩=>
  eX (hr pins s2 σ H2 _ I2 q2) fun ws s3 ⟨ps,H3,I3,rel,q3⟩=>⟨(x,y):: ps,H3,I3,.cons ⟨rx,ry⟩ rel,q3⟩)
noncomputable def vM (kvs more:List (Key×V)):List (Key×V):=more.foldl (fun acc kv=>putK acc kv.1 kv.2) kvs
theorem KV.merge:∀{more:List (Key×V)} {rs:List (Key×Value)} {kvs:List (Key×V)} {vs:List (Key×Value)},KV more rs->KV kvs vs->KV (vM kvs more) (merged vs rs):=by
 intro more rs kvs vs r
 unfold KV at r
 induction r generalizing kvs vs with
 | nil=>intro q;exact q
 | @cons p q ps qs h t ih=>
  intro r0
  have e:KV (putK kvs p.1 p.2) (stored vs q.1 q.2):=by
   have:=r0.put p.1 h.2
   rw [<-h.1];exact this
  exact ih e
theorem xK:∀(more kvs:List (Key×V)),(vM kvs more).length<=kvs.length+more.length
 | [],kvs=>by show kvs.length<=kvs.length+0;omega
 | p:: r,kvs=>by
  have h1:=xK r (putK kvs p.1 p.2)
  have h2:=nW kvs p.1 p.2
  show(vM (putK kvs p.1 p.2) r).length<=_
  rw [List.length_cons];omega
theorem Fe {P:Program} {w:World}:∀{kvs:List (Key×V)} {ws:List (Value×Value)},VV (kvs.map fun kv=>(kV kv.1,kv.2)) ws->∃rs,Carries (du P w) ws rs/\KV kvs rs
 | [],_,r=>by rw [List.map_nil] at r;cases r;exact⟨[],True.intro,.nil⟩
 | p:: kvs,_,r=>by
  rw [List.map_cons] at r
  cases r with
  | @cons a b as bs h t=>
   obtain⟨rs,c,q⟩:=Fe (P:=P) (w:=w) t
   obtain⟨b1,b2⟩:=b
   exact⟨(p.1,b2):: rs,⟨Fy h.1,rfl,c⟩,.cons ⟨rfl,h.2⟩ q⟩
noncomputable def Yu (trs:List (TE×TE)):TE:=fun σ H Q=>∀p,H p=none->Nq trs σ (upd H p (.dK [])) fun ps H2=>H2 p=some (.dK [])/\∃kvs:List (Key×V),ps=kvs.map (fun kv=>(kV kv.1,kv.2))/\kvs.length<=15/\Q (.ref p) (upd H2 p (.dK (vM [] kvs)))
theorem Uu {X:Cx} {pos:Pos} {keys:List (Option Expr)} {values:List Expr} {trs:List (TE×TE)} (h:YK X pos keys values trs) (hall:keys.all (·.isSome)=true) (hl:keys.length=values.length) (h0:keys≠[])
  (h15:keys.length<=15):PE X (.Dict keys values pos) (Yu trs):=by
 intro pins s σ H Q I q
 have hn:=I.hok.fresh (Nat.le_refl s.heap.objs.size)
 have I1:=I.laid (a:=s.heap.objs.size) (o:=.dK []) (h':=s.heap.push { cls:=.type "dict",data:=.dict #[] }) (t':=s.toks) (fun _ _ q=>Heap.get?_push_of_some _ q) (Nat.le_refl _) (KJ s.heap I.big)
 refine wpAny_Dict_walk (knd:=du X.prog X.w) hall hl h0 h15 (eX (h pins _ σ _ _ I1 (q _ hn)) fun ws s2 hpt=>?_)
 obtain⟨ps,H2,I2,rel,e,kvs,ep,lk,q2⟩:=hpt
 subst ep
 obtain⟨rs,c,rk⟩:=Fe (P:=X.prog) (w:=X.w) rel
 obtain⟨z,hd,vs0,r0,dd⟩:=Vk I2.hok e
 cases r0
 refine⟨rs,c,dd,fun h' dd' hs=>⟨.ref s.heap.objs.size,_,?_,rfl,q2⟩⟩
 have hz:(vM [] kvs).length<=sizeLine:=by
  have h1:=xK kvs []
  rw [List.length_nil] at h1
  rw [sizeLine_eq];omega
 have he:∃q,h'.get? s.heap.objs.size=some q:=let ⟨q,_,_,hq,_⟩:=dd';⟨q,hq⟩
 exact Jg I2 (by rw [e];exact True.intro) hs he (QX hz hd (rk.merge .nil) dd')
structure M2 (X:Cx) (o:Expr) (m:Str) (apos:Pos) (e f:Expr) (cpos:Pos):Prop where
 base:attributeBase o m X.env (eval o X.env)=eval o X.env
 few:((backTo cpos (starEach [e,f] X.env)).all (fun x=>!x.1) && (backToKw cpos (keywordEach [] X.env)).all (fun x=>x.1.isSome)
  && decide (([e,f]:List Expr).length+([]:List Keyword).length+(if ([]:List Keyword).isEmpty then 0 else 1) <30))=true
 line:(apos.endLine == cpos.line)=true
 trees:backTo cpos (starEach [e,f] X.env)=[(false,eval e X.env),(false,eval f X.env)]
noncomputable def Z1 (H:Hp) (a:Addr):Prop:=(∃kvs,Rd H a (.dK kvs))∨∃kvs,Rd H a (.dT kvs)
theorem WK {X:Cx} {pins:List (Addr×Obj)} {σ:St} {H:Hp} {s:Shared} {a:Addr} (I:Inv X pins σ H s) (d:Z1 H a):
  s.TypeIs (.ref a) "dict" /\(∀b,Value.ref a=.ref b->∃ob,s.heap.get? b=some ob/\ob.dict=none)/\(a == sysModules)=false:=by
 rcases d with ⟨kvs,e⟩ | ⟨kvs,e⟩
 ·obtain⟨_,hd,vs,_,dd⟩:=zy I.hok e
  refine⟨dd.typeIs,fun b q=>?_,hd⟩
  cases q
  obtain⟨ob,_,_,h1,h2,_⟩:=dd
  exact⟨ob,h1,h2.2.1⟩
 ·obtain⟨_,hd,xs,_,dd⟩:=DK I.hok e
  refine⟨dd.typeIs,fun b q=>?_,hd⟩
  cases q
  obtain⟨ob,_,_,h1,h2,_⟩:=dd
  exact⟨ob,h1,h2.2.1⟩
section
variable {X:Cx} {pins:List (Addr×Obj)} {σ:St} {H:Hp} {s:Shared} {a:Addr} {y d:V} {u r:Value} {o:Option V} {A:Around} {E:Value->Shared->Prop}
theorem Wg {Q:Value->Shared->Prop} (hu:A.units+1 <cLine) (I:Inv X pins σ H s) (g:eE H a y o) (ry:RelV y u) (rd:RelV d r) (h:∀w' s',Inv X pins σ H s'->RelV (o.getD d) w'->Q w' s'):
  wpAny (model X.prog X.w) A (call (.builtin "dict.get") [.ref a,u,r]) Q E s:=by
 rcases g with ⟨kvs,k,e,ey,l⟩ | ⟨kvs,k,b,e,ey,eb,l⟩
 ·subst ey
  obtain⟨z,hd,vs,rel,dd⟩:=zy I.hok e
  refine call_meetsIn PySem.F.slot_dict_get dd.typeIs PySem.F.entry_dict_get (PySem.F.args_dict_get_3 _ _ _) (meets_dict_get_default (du X.prog X.w) a (Fy ry) hd r) ⟨_,dd.mapOf,h _ _ (I.tok _) ?_⟩
  rw [l]
  exact(rel.val k).getD rd
 ·subst ey
  cases (show u=Value.ref b from ry)
  obtain⟨z,hd,xs,rel,dd⟩:=DK I.hok e
  refine call_meetsIn PySem.F.slot_dict_get dd.typeIs PySem.F.entry_dict_get (PySem.F.args_dict_get_3 _ _ _) (meetsH_dict_get_default (tupleKind (du X.prog X.w)) a b hd r) ⟨tupleKind_room_in1 hu,k,xs,Ai I.hok eb,dd,h _ _ (I.tok _) ?_⟩
  rw [l]
  exact(rel.val k).getD rd
end
inductive Nt (ty:TE) (tx:TE) (σ:St) (Q:VK) (x:V) (H1:Hp):Prop where
 | mk:∀a,x=.ref a->Z1 H1 a->(ty σ H1 fun y H2=>tx σ H2 fun z H3=>∃o,eE H3 a y o/\Q (o.getD z) H3)->Nt ty tx σ Q x H1
noncomputable def WW (td ty tx:TE):TE:=fun σ H Q=>td σ H fun x H1=>Nt ty tx σ Q x H1
section
variable {X:Cx} {o e f:Expr} {apos cpos:Pos} {td ty tx:TE}
theorem Le (hu:X.A.units+1 <cLine) (ho:PE X o td) (he:PE X e ty) (hf:PE X f tx) (m:M2 X o "get" apos e f cpos):PE X (.Call (.Attribute o "get" apos) [e,f] [] cpos) (WW td ty tx):=by
 intro pins s σ H Q I h
 refine wpAny_Call_method m.base m.few m.line PySem.F.plainAttrs_dict PySem.F.slot_dict_get PySem.F.type_dict_get (eX (ho pins s σ H _ I h) fun u s1 hpt=>?_)
 obtain⟨x,H1,I1,rx,a,ex,d,q1⟩:=hpt
 subst ex
 obtain rfl:u=Value.ref a:=rx
 obtain⟨t1,t2,_⟩:=WK I1 d
 refine⟨t1,t2,?_⟩
 rw [m.trees]
 refine Calls.callWith_builtin rfl (Calls.evalArgs_plain (Calls.spliced_cons (eX (he pins s1 σ H1 _ I1 q1) fun iv s2 ⟨y,H2,I2,ry,q2⟩=>
  Calls.spliced_cons (eX (hf pins s2 σ H2 _ I2 q2) fun fv s3 ⟨z,H3,I3,rz,ov,g,q3⟩=>Calls.spliced_nil ?_))))
 exact Wg hu I3 g ry rz fun w' s4 I4 rw'=>⟨_,H3,I4,rw',q3⟩
end
section
variable {X:Cx} {pins:List (Addr×Obj)} {σ:St} {H:Hp} {s:Shared} {a:Addr} {kvs:List (Key×V)} {A:Around} {E:Value->Shared->Prop}
end
section
variable {X:Cx} {pins:List (Addr×Obj)} {σ:St} {H:Hp} {s:Shared} {a:Addr} {y:V} {u:Value} {A:Around} {E:Value->Shared->Prop}
end
section
variable {X:Cx} {pins:List (Addr×Obj)} {σ:St} {H:Hp} {s:Shared} {d:Addr} {kvs:List (Key×V)}
theorem Inv.chill (I:Inv X pins σ H s) (e:H d=some (.dK kvs)):∃o,s.heap.get? d=some o/\Inv X pins σ (upd H d (.frz o (.dK kvs))) s:=by
 obtain⟨z,hd,vs,rel,o,es,ep,ho,r⟩:=(show fZ X.prog X.w H s.heap d (.dK kvs) from I.hok d _ e)
 refine⟨o,ho,?_⟩
 have:=I.write (x:=d) (e:=d) (o:=.frz o (.dK kvs)) (h':=s.heap) (t':=s.toks) (by rw [e];exact True.intro) (.inl rfl) (fun b u _ q=>q) ⟨o,ho⟩ ⟨ho,z,hd,vs,rel,o,es,ep,ho,r⟩
 exact this
theorem Inv.melt {o:Obj} (I:Inv X pins σ H s) (e:H d=some (.frz o (.dK kvs))) (h0:∀o u,X.H₀ d≠some (.frz o u)):Inv X pins σ (upd H d (.dK kvs)) s:=by
 have ne:∀b u,H b=some u->(∀o v,u≠.frz o v)->b≠d:=fun b u q n z=>by
  rw [z,e] at q
  exact n _ _ (Option.some.inj q).symm
 have no:∀b,H b=none->b≠d:=fun b q z=>by rw [z,e] at q;cases q
 refine⟨I.ok,I.os,I.bare,⟨I.base.keep,I.base.slot,fun b u q n hx=>?_,I.base.there,fun b xs q=>?_,fun b u v q=>?_,fun b ps q=>?_⟩,I.loc,I.cell,?_,fun y c q=>?_,fun p h=>?_,fun b u q=>?_,I.len⟩
 ·have z:=I.base.free b u q n hx
  rw [aH (no b z)];exact z
 ·have z:=I.base.tups b xs q
  rw [aH (ne b _ z (by intro _ _ w;cases w))];exact z
 ·have z:=I.base.frzs b u v q
  rw [aH (fun w=>by rw [w] at q;exact h0 _ _ q)];exact z
 ·obtain⟨m,z⟩:=I.base.tbls b ps q
  exact⟨m,by rw [aH (ne b _ z (by intro _ _ w;cases w))];exact z⟩
 ·rw [aH (no _ I.free)];exact I.free
 ·rw [aH (no _ (I.freeC y c q))];exact I.freeC y c q
 ·obtain⟨z1,z2,r⟩:=I.pin p h
  exact⟨z1,by rw [aH (no _ z2)];exact z2,r⟩
 ·by_cases w:b=d
  ·subst w
   rw [ao] at q
   cases q
   exact(I.hok b _ e).2
  ·rw [aH w] at q
   exact(I.hok b u q).stay (fun _ _ _ z=>z) (fun c z=>by rw [aH (ne c _ z (by intro _ _ w;cases w))];exact z) fun c xs z=>by rw [aH (ne c _ z (by intro _ _ w;cases w))];exact z
end
inductive Ur (H0 H H':Hp):Prop where
 | mk:∀d o kvs,H d=some (.frz o (.dK kvs))->((∀o u,H0 d≠some (.frz o u)))->H'=upd H d (.dK kvs)->Ur H0 H H'
section
variable {X:Cx} {H0:Hp} {st:Stmt} {sts:List Stmt} {e:Expr} {t:TS} {te:TE}
theorem Ud (hH:X.H₀=H0) (h:PS X st t):PS X st (fun D σ H=>∃H',Ur H0 H H'/\t D σ H'):=by
 subst hH
 intro pins s σ H D I hh
 obtain⟨H',⟨d,o,kvs,e,n,rfl⟩,q⟩:=hh
 exact h pins s σ _ D (I.melt e n) q
theorem mX (hH:X.H₀=H0) (h:PS X st t):PS X st (fun D σ H=>t { D with nx:=fun σ' H'=>∃H'',Ur H0 H' H''/\D.nx σ' H'' } σ H):=by
 subst hH
 intro pins s σ H D I hh
 refine eX (h pins s σ H _ I hh) fun f s1 q=>?_
 cases f with
 | next=>obtain⟨σ',H',I',H'',⟨d,o,kvs,e,n,rfl⟩,q⟩:=q;exact⟨σ',_,I'.melt e n,q⟩
 | ret v=>exact q
 | brk=>exact q
 | cont=>exact q
theorem Ut (hH:X.H₀=H0) (h:PE X e te):PE X e (fun σ H Q=>te σ H fun v H1=>∃H2,Ur H0 H1 H2/\Q v H2):=by
 subst hH
 intro pins s σ H Q I hh
 refine eX (h pins s σ H _ I hh) fun u s1 q=>?_
 obtain⟨v,H1,I1,r,H2,⟨d,o,kvs,e,n,rfl⟩,q⟩:=q
 exact⟨v,_,I1.melt e n,r,q⟩
end
noncomputable def Xb (d:Addr) (o:Obj) (kvs:List (Key×V)):It:=
 ⟨fun i H=>H d=some (.frz o (.dK kvs))/\i <kvs.length,fun i H x H'=>H'=H/\∃k v,kvs[i]?=some (k,v)/\x=kV k,fun i H=>H d=some (.frz o (.dK kvs))/\kvs.length<=i⟩
theorem M7 {P:Program} {w:World} {k:Key} {u:Value} (h:(du P w).is k u=true):RelV (kV k) u:=by
 rcases fU (k:=k) (v:=u) h with ⟨i,t,rfl,rfl⟩ | ⟨x,t,rfl,rfl⟩
 ·exact⟨t,rfl⟩
 ·exact⟨t,rfl⟩
theorem JH:∀{kvs:List (Key×V)} {vs:List (Key×Value)} {i:Nat} {k:Key} {v:V},KV kvs vs->kvs[i]?=some (k,v)->∃v',vs[i]?=some (k,v')
 | _,_,0,k,v,.cons h _,e=>by
  cases (Option.some.inj e)
  exact⟨_,by rw [List.getElem?_cons_zero,show k=_ from h.1]⟩
 | _,_,i+1,k,v,.cons _ t,e=>by
  obtain⟨v',z⟩:=JH (i:=i) (k:=k) (v:=v) t (by simpa using e)
  exact⟨v',by simpa using z⟩
theorem Qf {P:Program} {w:World} {K:PySem.W.Frag} {tg:Expr} {d it:Addr} {o:Obj} {kvs:List (Key×V)} {vs:List (Key×Value)} {ep:Nat} (rel:KV kvs vs) (hD:∀h:Heap,h.get? d=some o->h.DictAt (du P w) d vs ep):
  Turn P w K tg (Xb d o kvs) [it] it (fun i h=>h.IsKeyIter it d i vs.length ep) where
 mem:=by simp
 obj:=fun i h st b hb=>by
  have e:b=it:=by simpa using hb
  subst e
  obtain⟨o,e,c,d⟩:=st
  exact⟨o,e,fun v z=>by rw [d] at z;cases z⟩
 keep:=fun i h h' st k=>st.at fun o e=>k it (by simp) o e
 item:=by
  intro X hP hw hK hc i pins s σ H E I hf st hg
  subst hP hw hK
  obtain⟨hq,hi⟩:=hg
  obtain⟨f0,f1,f2,f3,f4,f5⟩:=hf it (by simp)
  have ho:s.heap.get? d=some o:=(I.hok d _ hq).1
  have hl:kvs.length=vs.length:=Paired.length rel
  obtain⟨k,v,ek⟩:∃k v,kvs[i]?=some (k,v):=⟨_,_,List.getElem?_eq_getElem hi⟩
  obtain⟨v',ev⟩:=JH rel ek
  refine wpAny_pyNext_dict_item st (hD _ ho) ev fun key h' hk st' sb=>?_
  have I1:Inv X pins σ H { s with heap:=h' }:=I.turned (t':=s.toks) (fun b o hb e=>(sb.2 b hb).trans e) f0 f1 f3 f4 f5
  obtain⟨o',e,c,dd⟩:=id st'
  exact⟨key,rfl,Ks (s:={ s with heap:=h' }) e c dd (by decide) ⟨kV k,H,I1,M7 hk,⟨rfl,k,v,ek,rfl⟩,st',fun b hb=>(hf b hb).1⟩⟩
 done:=by
  intro X hP hw hK hc i pins s σ H E I hf st hg
  subst hP hw hK
  obtain⟨hq,hi⟩:=hg
  obtain⟨f0,f1,f2,f3,f4,f5⟩:=hf it (by simp)
  have ho:s.heap.get? d=some o:=(I.hok d _ hq).1
  have hl:kvs.length=vs.length:=Paired.length rel
  exact wpAny_pyNext_dict_end (I.ok.hd hc) st (hD _ ho) (List.getElem?_eq_none (by omega)) fun h' eb=>⟨rfl,I.turned (t':=s.toks) (fun b o hb e=>eb b o hb e) f0 f1 f3 f4 f5⟩
 self:=fun _ _ _ _ _ st h=>wpAny_pyIter_keyiter st h
inductive S6 (R:It->Hp->Prop) (x:V) (H1:Hp):Prop where
 | mk:∀d kvs,x=.ref d->H1 d=some (.dK kvs)->(∀o,R (Xb d o kvs) (upd H1 d (.frz o (.dK kvs))))->S6 R x H1
noncomputable def XX (td:TE):TI:=fun σ H R=>td σ H fun x H1=>S6 R x H1
theorem o7 {X:Cx} {tg l:Expr} {td:TE} (hl:PE X l td):PI X tg l (XX td):=by
 intro pins s σ H R I h
 refine eX (hl pins s σ H _ I h) fun v s1 hpt=>?_
 obtain⟨x,H1,I1,r1,q1⟩:=hpt
 obtain⟨d,kvs,e,ed,q⟩:=q1
 subst e
 cases r1
 obtain⟨_,hd,vs,rel,o0,es,ep,ho0,r⟩:=(show fZ X.prog X.w H1 s1.heap d (.dK kvs) from I1.hok d _ ed)
 obtain⟨o,ho,I2⟩:=I1.chill ed
 obtain rfl:o0=o:=Option.some.inj (ho0.symm.trans ho)
 have hD:∀h:Heap,h.get? d=some o0->h.DictAt (du X.prog X.w) d vs ep:=fun h z=>⟨o0,es,z,r⟩
 refine wpAny_pyIter_dict hd (hD _ ho) ?_
 refine⟨s1.heap.objs.size,[s1.heap.objs.size],_,_,_,rfl,I2.kept (t':=s1.toks) fun b o e=>Heap.get?_push_of_some _ e,Qf rel hD,⟨_,Heap.get?_push_size _ rfl,rfl,rfl⟩,fun b hb=>?_,q o0⟩
 have e:b=s1.heap.objs.size:=by simpa using hb
 subst e
 exact I2.fpOk (Nat.le_refl _) (I2.hok.fresh (Nat.le_refl _))
theorem sZ {d:Addr} {o:Obj} {kvs:List (Key×V)} {g:TG} {tb:TS} {D:Ends} {σ:St} {H:Hp} (Pv:Nat->St->Hp->Prop) (h0:Pv 0 σ H) (hl:∀i σ H,i<=kvs.length->Pv i σ H->H d=some (.frz o (.dK kvs)))
  (hs:∀i k v σ H,kvs[i]?=some (k,v)->Pv i σ H->g (kV k) σ H fun σ2 H2=>tb { D with nx:=Pv (i+1),ct:=Pv (i+1),bk:=D.nx } σ2 H2) (hd:∀σ H,Pv kvs.length σ H->D.nx σ H):
  ∃W:Nat->Nat->St->Hp->Prop,(∃m,W 0 m σ H)/\∀i m σ H,W i m σ H->
   ((Xb d o kvs).stop i H/\D.nx σ H)∨((Xb d o kvs).go i H/\∃N:St->Hp->Prop,(∀σ' H',N σ' H'->∃m',m' <m/\W (i+1) m' σ' H')/\∀x H',(Xb d o kvs).yld i H x H'->g x σ H' fun σ2 H2=>tb { D with nx:=N,ct:=N,bk:=D.nx } σ2 H2):=by
 refine⟨fun i m σ H=>m=kvs.length - i/\i<=kvs.length/\Pv i σ H,⟨kvs.length,by simp,Nat.zero_le _,h0⟩,?_⟩
 rintro i m σ H ⟨rfl,hi,p⟩
 have q:=hl i σ H hi p
 by_cases hlt:i <kvs.length
 ·refine .inr ⟨⟨q,hlt⟩,Pv (i+1),fun σ' H' p'=>⟨kvs.length - (i+1),by omega,rfl,hlt,p'⟩,fun x H' y=>?_⟩
  obtain⟨rfl,k,v,ek,rfl⟩:=y
  exact hs i k v σ _ ek p
 ·obtain rfl:i=kvs.length:=by omega
  exact .inl ⟨⟨q,Nat.le_refl _⟩,hd σ H p⟩
theorem An {js:List Nat} {tt:TT} {te:TE} {σ:St} {Qd:List V->Hp->Prop} {d:Addr} {o:Obj} {kvs:List (Key×V)} {H:Hp} (Pv:Nat->List V->Hp->Prop) (hn:kvs.length<=sizeLine) (h0:Pv 0 [] H) (hl:∀i ys H,Pv i ys H->ys.length<=i) (hq:∀i ys H,i<=kvs.length->Pv i ys H->H d=some (.frz o (.dK kvs)))
  (hs:∀i k v ys H,kvs[i]?=some (k,v)->Pv i ys H->tt (some (kV k):: dZ σ js) H fun b H4=>if b=true then te (some (kV k):: dZ σ js) H4 fun y H5=>Pv (i+1) (ys ++ [y]) H5 else Pv (i+1) ys H4)
  (hd:∀ys H,Pv kvs.length ys H->Qd ys H):CompEnd js tt te σ Qd (Xb d o kvs) H:=by
 refine⟨fun i m ys H=>m=kvs.length - i/\i<=kvs.length/\Pv i ys H,⟨kvs.length,by simp,Nat.zero_le _,h0⟩,?_⟩
 rintro i m ys H ⟨rfl,hi,p⟩
 have hlen:=hl i ys H p
 have q:=hq i ys H hi p
 by_cases hlt:i <kvs.length
 ·refine .inr ⟨⟨q,hlt⟩,by omega,Pv (i+1),fun ys' H' p'=>⟨kvs.length - (i+1),by omega,rfl,hlt,p'⟩,fun x H' y=>?_⟩
  obtain⟨rfl,k,v,ek,rfl⟩:=y
  exact hs i k v ys _ ek p
 ·obtain rfl:i=kvs.length:=by omega
  exact .inl ⟨⟨q,Nat.le_refl _⟩,by omega,hd ys H p⟩
theorem vW:∀{xs:List V} {us:List Value},us.length=xs.length->(∀(j:Nat) x u,xs[j]?=some x->us[j]?=some u->RelV x u)->Vals xs us
 | [],[],_,_=>.nil
 | [],_:: _,h,_=>by simp at h
 | _:: _,[],h,_=>by simp at h
 | x:: xs,u:: us,h,r=>.cons (r 0 x u rfl rfl) (vW (by simpa using h) fun j y v h1 h2=>r (j+1) y v (by simpa using h1) (by simpa using h2))
theorem qy {X:Cx} (hc:X.calm=true):lu X (.type "list") (fun xs H Q=>∃d kvs,xs=[.ref d]/\Rd H d (.dK kvs)/\∀l,H l=none->Q (.ref l) (upd H l (.lst (kvs.map fun p=>kV p.1)))):=by
 intro pins s σ H xs us Q I rx h
 obtain⟨d,kvs,rfl,hr,q⟩:=h
 obtain⟨u,rfl,ru⟩:=vals1 rx
 cases ru
 obtain⟨z,hd,vs,rel,dd⟩:=zy I.hok hr
 obtain⟨ep,da⟩:=dd.dictAt
 have hl:kvs.length=vs.length:=Paired.length rel
 refine PySem.W.kdl_call (PySem.W.kdl_dict (knd:=du X.prog X.w) (kvs:=vs) (ep:=ep) hd) (I.ok.hd hc) da (by omega) fun h' tk acc' c' kp e' hi=>?_
 refine⟨.ref s.heap.objs.size,_,I.laid (t':=tk) kp (Nat.le_refl _) (show fZ X.prog X.w _ h' _ (.lst (kvs.map fun p=>kV p.1)) from⟨by rw [List.length_map];exact z,acc'.toList,c',vW (by rw [Array.length_toList,hi.1,List.length_map,hl]) fun j x u hx hu=>?_,by simpa using e'⟩),rfl,q _ (I.hok.fresh (Nat.le_refl _))⟩
 obtain⟨k,v,hkv,hk⟩:=hi.2 j u (by rw [<-Array.getElem?_toList];exact hu)
 rw [List.getElem?_map] at hx
 obtain⟨p,hp,rfl⟩:=Option.map_eq_some_iff.mp hx
 obtain⟨v',hv'⟩:=JH rel (k:=p.1) (v:=p.2) hp
 rw [hkv] at hv'
 cases hv'
 exact M7 hk
section
variable {X:Cx} {pins:List (Addr×Obj)} {σ:St} {H:Hp} {s:Shared}
end
section
variable {X:Cx} {tg:Expr}
end
theorem Bc (ns:List Int):∀n,n<=ns.length->preSum (fun i=>ns.getD i 0) n=(ns.take n).sum
 | 0,_=>by simp [preSum]
 | n+1,h=>by
  have ih:=Bc ns n (by omega)
  have hn:n <ns.length:=by omega
  show preSum _ n+ns.getD n 0=_
  rw [ih,List.getD_eq_getElem?_getD,List.getElem?_eq_getElem hn,List.take_succ,List.getElem?_eq_getElem hn,List.sum_append]
  simp
theorem jM.u1 {k:Nat} {A:Around} (r:jM k A):A.units+1 <cLine:=by have:=r.units;omega
theorem Wd:bootBuiltins "sum" =some (.builtin "sum"):=by decide +kernel
section
variable {prog:Program} {w:World} {A:Around} {E:Value->Shared->Prop} {s:Shared}
end
theorem uv {X:Cx} {K:PySem.W.Frag} {e:Expr} {f:Str} {pos:Pos} {ta:TE} (hK:X.K=K) (he:PE X e ta) (hb:attributeBase e f X.env (eval e X.env)=eval e X.env):PE X (.Attribute e f pos) (YF K ta f):=by subst hK;exact aQ he hb
theorem M9 {X:Cx} {K:PySem.W.Frag} (hK:X.K=K):wN X (compareOp .In) (YL K false):=by subst hK;exact Pg
theorem FZ {X:Cx} {K:PySem.W.Frag} (hK:X.K=K):wN X (compareOp .NotIn) (YL K true):=by subst hK;exact lA
section
variable {X:Cx} {P:Program} {w:World} {K:PySem.W.Frag} {mg:Str->Option Value} {base:Heap} {CX:Hu} {k:Nat} {E:XK} {m:Str} {pos apos:Pos} {e o:Expr} {es:List Expr} {ta:TE} {t:TA}
theorem LQ {pl:Sem Bool} (hP:X.prog=P) (hw:X.w=w) (hK:X.K=K) (hm:X.mg=mg) (hb:X.base=base) (he:PE X o ta) (hr:jM k X.A) (hx:rR CX X E)
  (ht:eval (.Call (.Attribute o m apos) [] [] pos) X.env=(do
   let ov <-eval o X.env
   standAt apos.atName
   let (f,first) <-holding [ov] (getMethod ov m pl)
   callWith pos f first (backTo pos (starEach [] X.env)) (backToKw pos (keywordEach [] X.env))):=by rfl):
  PE X (.Call (.Attribute o m apos) [] [] pos) (Nm P w K mg base CX k m E ta Qw):=by
 subst hP hw hK hm hb
 exact wG he hr hx ht
end
section
variable {prog:Program} {w:World} {A:Around} {R:Result->Shared->Prop} {s:Shared}
theorem Yv {elt tg iter:Expr} {ifs:List Expr} {scope:Scope} {pos:Pos} {it acc:Value} {env:Env} (J:Nat->Shared->Prop)
  (turn:∀k s1,J k s1->wpAny (model prog w) A (pyNext it) (fun r s2=>match r with
   | none=>R (.ok .next) s2
   | some v=>wpAny (model prog w) A (letOwnedTupleGo tg it v) (fun _ s3=>wpAny (model prog w) A (assign tg env v) (fun _ s4=>
     wpAny (model prog w) A (forIn ifs true fun c r=>if r=true then do let ok <-isTrue c env (eval c env);pure (ForInStep.yield ok) else pure (ForInStep.yield r)) (fun ok s5=>
      if ok=true then wpAny (model prog w) A (eval elt env) (fun y s6=>wpAny (model prog w) A (call (.builtin "list.append") [acc,y]) (fun _ s7=>∃m,m <k/\J m s7) (notedBy (model prog w) A env fun e s'=>R (.error e) s') s6)
       (notedBy (model prog w) A env fun e s'=>R (.error e) s') s5
      else ∃m,m <k/\J m s5) (notedBy (model prog w) A env fun e s'=>R (.error e) s') s4) (notedBy (model prog w) A env fun e s'=>R (.error e) s') s3) (notedBy (model prog w) A env fun e s'=>R (.error e) s') s2)
   (notedBy (model prog w) A env fun e s'=>R (.error e) s') s1)
  (k:Nat) (h:J k s):codeAny (model prog w) A (.compLoop (.ListComp elt [⟨tg,iter,ifs,0⟩] scope pos) 0 it acc env) R s:=by
 refine codeAny_loop rfl J (fun k s1 hJ=>?_) k h
 show wpAny _ A ((compTurn (.ListComp elt [⟨tg,iter,ifs,0⟩] scope pos) 0 it acc env).onRaise (fun e=>do noteFrame e env;theTreesLotGoes e)) _ _ s1
 refine wpAny_noted ?_
 rw [compTurn_list]
 refine wpAny_bind (wpAny_standAt (wpAny_bind (wpAny_mono (turn k s1 hJ) (fun r s2 h2=>?_) fun _ _ z=>z)))
 cases r with
 | none=>exact wpAny_pure h2
 | some v=>
  refine wpAny_bind (wpAny_mono h2 (fun _ s3 h3=>wpAny_bind (wpAny_mono h3 (fun _ s4 h4=>wpAny_bind (wpAny_mono h4 (fun ok s5 h5=>?_) fun _ _ z=>z)) fun _ _ z=>z)) fun _ _ z=>z)
  cases ok with
  | false=>exact wpAny_pure ⟨rfl,h5⟩
  | true=>exact wpAny_bind (wpAny_bind (wpAny_mono h5 (fun y s6 h6=>wpAny_bind (wpAny_mono h6 (fun _ s7 h7=>wpAny_pure (wpAny_pure ⟨rfl,h7⟩)) fun _ _ z=>z)) fun _ _ z=>z))
end
section
variable {X:Cx} {tg:Expr} {g:TG} {pos:Pos} {iter elt:Expr} {ifs:List Expr} {scope:Scope} {wi:TI} {tt:TT} {te:TE}
end
theorem Pr {X:Cx} (hc:X.calm=true):lu X (.builtin "min") (fun xs H Q=>∃(p:Addr) (a b:Int),xs=[.ref p]/\bK X.K H p [.int a,.int b]/\Q (.int (if b <a then b else a)) H):=by
 intro pins s σ H xs us Q I r h
 obtain⟨p,a,b,rfl,hq,q⟩:=h
 obtain⟨u,rfl,rx⟩:=vals1 r
 cases rx
 obtain⟨its,rv,pl,_⟩:=I.list hq
 obtain⟨v1,v2,rfl,⟨t1,rfl⟩,⟨t2,rfl⟩⟩:=vals2 rv
 have hl:s.heap.IsList p (intItems #[(a,t1),(b,t2)]):=by simpa [intItems] using pl.isList
 refine min_intList (I.ok.hd hc) hl (by simp) fun v h' tk hv hk=>?_
 obtain⟨t,rfl⟩:=intItems_at hv
 obtain⟨h1,h2⟩:=argBest_lt (numAt #[(a,t1),(b,t2)]) (#[(a,t1),(b,t2)].size - 1)
 have h1':argBest (fun i j=>decide (numAt #[(a,t1),(b,t2)] i <numAt #[(a,t1),(b,t2)] j)) (#[(a,t1),(b,t2)].size - 1)<=1:=h1
 have ha:_<=a:=h2 0 (Nat.zero_le _)
 have hb:_<=b:=h2 1 (by simp)
 generalize argBest (fun i j=>decide (numAt #[(a,t1),(b,t2)] i <numAt #[(a,t1),(b,t2)] j)) (#[(a,t1),(b,t2)].size - 1)=k at h1' ha hb ⊢
 refine⟨.int (numAt #[(a,t1),(b,t2)] k),H,I.kept hk,⟨_,rfl⟩,?_⟩
 have e:numAt #[(a,t1),(b,t2)] k=if b <a then b else a:=by
  match k,h1',ha,hb with
  | 0,_,_,hb=>
   have hb':a<=b:=hb
   rw [if_neg (by omega)];rfl
  | 1,_,ha,_=>
   have ha':b<=a:=ha
   show b=_
   by_cases z:b <a
   ·rw [if_pos z]
   ·rw [if_neg z];omega
 rw [e]
 exact q
theorem Qk {X:Cx} (hc:X.calm=true):lu X (.builtin "max") (fun xs H Q=>∃(p:Addr) (a b:Int),xs=[.ref p]/\bK X.K H p [.int a,.int b]/\Q (.int (if b <a then a else b)) H):=by
 intro pins s σ H xs us Q I r h
 obtain⟨p,a,b,rfl,hq,q⟩:=h
 obtain⟨u,rfl,rx⟩:=vals1 r
 cases rx
 obtain⟨its,rv,pl,_⟩:=I.list hq
 obtain⟨v1,v2,rfl,⟨t1,rfl⟩,⟨t2,rfl⟩⟩:=vals2 rv
 have hl:s.heap.IsList p (intItems #[(a,t1),(b,t2)]):=by simpa [intItems] using pl.isList
 refine max_intList (I.ok.hd hc) hl (by simp) fun v h' tk hv hk=>?_
 obtain⟨t,rfl⟩:=intItems_at hv
 obtain⟨h1,h2⟩:=argBest_gt (numAt #[(a,t1),(b,t2)]) (#[(a,t1),(b,t2)].size - 1)
 have h1':argBest (fun i j=>decide (numAt #[(a,t1),(b,t2)] i >numAt #[(a,t1),(b,t2)] j)) (#[(a,t1),(b,t2)].size - 1)<=1:=h1
 have ha:a<=_:=h2 0 (Nat.zero_le _)
 have hb:b<=_:=h2 1 (by simp)
 generalize argBest (fun i j=>decide (numAt #[(a,t1),(b,t2)] i >numAt #[(a,t1),(b,t2)] j)) (#[(a,t1),(b,t2)].size - 1)=k at h1' ha hb ⊢
 refine⟨.int (numAt #[(a,t1),(b,t2)] k),H,I.kept hk,⟨_,rfl⟩,?_⟩
 have e:numAt #[(a,t1),(b,t2)] k=if b <a then a else b:=by
  match k,h1',ha,hb with
  | 0,_,_,hb=>
   have hb':b<=a:=hb
   show a=_
   by_cases z:b <a
   ·rw [if_pos z]
   ·rw [if_neg z];omega
  | 1,_,ha,_=>
   have ha':a<=b:=ha
   rw [if_neg (by omega)];rfl
 rw [e]
 exact q
theorem yH {X:Cx} {K:PySem.W.Frag} {es:List Expr} {k:Nat} {pos:Pos} {t:Tf} {n:Nat} (hK:X.K=K) (hc:X.calm=true) (h:Yd X es t)
  (hn:(assignEach es X.env).length=n:=by rfl) (hst:(assignEach es X.env).findIdx? (·.1)=none:=by rfl):PG X (.Tuple es k pos) (Yb K n t):=by
 subst hK
 exact tE hc h hn hst
noncomputable def my (X:Cx) (scope:Scope) (xs:List Str) (js:List Nat) (cl:List (Str×Addr)) (C:Addr) (s:Shared) (H:Hp) (ex:List Addr):Cx where
 prog:=X.prog
 w:=X.w
 K:=X.K
 mg:=X.mg
 base:=X.base
 A:=X.A
 N:=xs ++ dM X.N js
 s₀:=s
 H₀:=H
 env:=compEnvC scope cl C X.env
 outer:=X.stack
 stack:=X.stack
 ex:=ex
 fn:=fun _=>false
 calm:=X.calm
 pn:=[]
 xe:=fun _ _=>False
noncomputable def zO (xs:List Str) (js:List Nat) (σ:St) (g:TG) (tt:TT) (te:TE) (Qd:List V->Hp->Prop) (J:It) (H1:Hp):Prop:=∃W:Nat->Nat->List V->Hp->Prop,(∃m,W 0 m [] H1)/\∀i m ys H2,W i m ys H2->
 (J.stop i H2/\ys.length<=sizeLine/\Qd ys H2)∨
 (J.go i H2/\ys.length <sizeLine/\∃N:List V->Hp->Prop,(∀ys' H',N ys' H'->∃m',m' <m/\W (i+1) m' ys' H')/\∀x H3,J.yld i H2 x H3->g x ((xs.map fun _=>none) ++ dZ σ js) H3 fun σ2 H4=>σ2.drop xs.length=dZ σ js/\tt σ2 H4 fun b H5=>
  if b=true then te σ2 H5 fun y H6=>N (ys ++ [y]) H6 else N ys H5)
noncomputable def S8 (xs:List Str) (js:List Nat) (wi:TI) (g:TG) (tt:TT) (te:TE):TE:=fun σ H Q=>wi σ H (zO xs js σ g tt te fun ys H2=>∀D,H2 D=none->Q (.ref D) (upd H2 D (.lst ys)))
section
variable {X:Cx} {tg:Expr} {g:TG} {pos:Pos} {iter elt:Expr} {ifs:List Expr} {scope:Scope} {wi:TI} {tt:TT} {te:TE}
theorem vA (xs:List Str) (js:List Nat) {pins:List (Addr×Obj)} {σ:St} {s:Shared} {itv:Value} {Q:List V->Hp->Prop} {RR:Value->Addr->Result->Shared->Prop} {E:Value->Shared->Prop}
  (hc:X.calm=true) (hk:scope.kind=.function) (hcell:∀y∈scope.names,y.2≠.cell)
  (hfree:∀y∈scope.names,y.2=.free->X.env.kindOf y.1=some .cell∨X.env.kindOf y.1=some .free)
  (hg:∀cl C s H ex,PG (my X scope xs js cl C s H ex) tg g)
  (hif:∀cl C s H ex,PF (my X scope xs js cl C s H ex) ifs tt) (he:∀cl C s H ex,PE (my X scope xs js cl C s H ex) elt te)
  (hjs:∀y∈dM X.N js,scope.names.lookup y=some .free) (hit:PIE X pins σ tg (zO xs js σ g tt te Q) itv s)
  (hR:∀D C s' H2 ys m,Inv X pins σ (upd H2 D (.lst ys)) s'->H2 D=none->s'.heap.Ns C m->(∀h',Heap.SameBut C s'.heap h'->Inv X pins σ (upd H2 D (.lst ys)) { s' with heap:=h' })->JK X pins (upd H2 D (.lst ys)) C->C≠D->Q ys H2->RR (.ref D) C (.ok .next) s'):
  wpAny (model X.prog X.w) X.A (newList []) (fun acc s₃=>wpAny (model X.prog X.w) X.A (newFunctionEnv scope X.env.globals (clos X.env scope.names []) [] X.env.qual none .none (some X.env)) (fun cenv s₄=>
   codeAny (model X.prog X.w) X.A (.compStart (.ListComp elt [⟨tg,iter,ifs,0⟩] scope pos) 0 itv acc { cenv with scope:=relabel scope X.env }) (RR acc cenv.locals) s₄) E s₃) E s:=by
 obtain⟨it,fp,tn,J,H1,rfl,I1,T,st1,f1,W,⟨m0,w0⟩,turn⟩:=hit
 refine wpAny_newObj_type (wpAny_newFunctionEnv hcell (by intro y hy;simp at hy) (fun h₁ hns₁ hsb₁=>?_) hk)
 dsimp only at hns₁ hsb₁ ⊢
 generalize hH2:s.heap.push { cls:=.type "list",dict:=none,data:=.seq ([]:List Value).toArray }=Hl at hns₁ hsb₁ ⊢
 generalize hDe:s.heap.objs.size=D
 have hCe:Hl.objs.size=D+1:=by rw [<-hH2,Heap.size_push,hDe]
 generalize hC:Hl.objs.size=C at hns₁ hsb₁ hCe ⊢
 subst hCe
 have hDC:D≠D+1:=Nat.ne_of_lt (Nat.lt_succ_self _)
 have lt:∀b o,s.heap.get? b=some o->b <D:=fun b o e=>hDe ▸ Heap.lt_size e
 have old:∀b o,s.heap.get? b=some o->h₁.get? b=some o:=fun b o e=>by
  have hb:=lt b o e
  refine hsb₁.extBut b o (Nat.ne_of_lt (Nat.lt_succ_of_lt hb)) (Heap.get?_push_of_some _ ?_)
  rw [<-hH2];exact Heap.get?_push_of_some _ e
 have accD:h₁.get? D=some { cls:=.type "list",dict:=none,data:=.seq ([]:List Value).toArray }:=by
  refine hsb₁.extBut _ _ hDC (Heap.get?_push_of_some _ ?_)
  rw [<-hH2,<-hDe];exact Heap.get?_push_size _ rfl
 have fresh:∀a,D<=a->H1 a=none:=fun a ha=>I1.hok.fresh (by rw [hDe];exact ha)
 have fpD:∀b∈fp,b <D:=fun b hb=>by
  obtain⟨o,e,_⟩:=T.obj 0 s.heap st1 b hb
  exact lt b o e
 have cellD:∀y c,X.env.cells.lookup y=some c->c <D:=fun y c e=>by
  obtain⟨v,q⟩:=I1.cell y c e
  exact hDe ▸ q.lt
 generalize hcl:clos X.env scope.names []=cl
 have clsub:∀y c,cl.lookup y=some c->X.env.cells.lookup y=some c:=by
  rw [<-hcl];exact J9 scope.names [] fun y a e=>by simp at e
 have frD:∀b∈frs X.stack,b <D:=fun b hb=>by
  obtain⟨_,o,ho,_⟩:=I1.stack.mem hb
  exact lt b o ho
 let Y:Cx:=my X scope xs js cl (D+1) s H1 fp
 have kinds:∀y,Y.env.kindOf y=some .cell∨Y.env.kindOf y=some .free->∃k∈scope.names,k.1=y/\k.2=.free:=fun y hy=>by
  have hy':(relabel scope X.env).names.lookup y=some .cell∨(relabel scope X.env).names.lookup y=some .free:=hy
  rw [vN] at hy'
  cases q:scope.names.lookup y with
  | none=>rw [q] at hy';simp at hy'
  | some k=>
   have hm:=PySem.mem_of_lookup q
   refine⟨(y,k),hm,rfl,?_⟩
   have h1:k≠.cell:=hcell _ hm
   rw [q] at hy'
   simp only [Option.map_some,Option.some.injEq] at hy'
   by_cases hkf:k=.free
   ·exact hkf
   ·have:(k == NameKind.free)=false:=by simpa using hkf
    simp only [this,Bool.false_and,Bool.false_eq_true,if_false] at hy'
    rcases hy' with e | e
    ·exact absurd e h1
    ·exact absurd e hkf
 have okY:Y.Ok:=by
  refine⟨I1.ok.mod,hk,I1.ok.glob,I1.ok.blt,(by show s.heap.objs.size<=D+1;rw [hDe];exact Nat.le_succ _),fun y z c h1 h2=>I1.ok.inj y z c (clsub y c h1) (clsub z c h2),fun y hy=>?_,fun y c h _=>absurd h (by show ¬(false=true);decide),I1.ok.hd,I1.ok.frames,.inl rfl,fun b hb=>⟨Nat.ne_of_lt (Nat.lt_succ_of_lt (fpD b hb)),fun y c e z=>(f1 b hb).2.2.2.2.1 y c (clsub y c e) z⟩,
   fun b o e=>I1.bs b o e,Nat.le_trans I1.ok.bsz I1.sz,fun b o e hb=>?_,fun b hb hf=>?_,I1.stack,I1.stkFree⟩
  ·obtain⟨k,hm,e1,e2⟩:=kinds y hy
   show ∃c,cl.lookup y=some c
   rw [<-hcl]
   refine Fv scope.names [] y (.inr ⟨k,hm,e1,e2,?_⟩)
   have:=hfree k hm e2
   rw [e1] at this
   exact I1.ok.has y this
  ·obtain⟨_,_,_,h4,_,_⟩:=f1 b hb
   rcases h4 with z | z
   ·exact I1.ok.noex b o e z
   ·exact absurd (Nat.lt_of_lt_of_le (Heap.lt_size e) (Nat.le_trans I1.ok.bsz z)) (Nat.lt_irrefl _)
  ·rcases List.mem_cons.mp (I1.stkSub b hf) with z | z
   ·exact(f1 b hb).2.1 z
   ·exact(f1 b hb).2.2.1 z
 let σ0:St:=(xs.map fun _=>none) ++ dZ σ js
 have IY:Inv Y [] σ0 H1 { s with heap:=h₁,toks:=s.toks+([]:List (Str×Value)).length }:=by
  refine⟨okY,rfl,I1.bare,Un.kept old,⟨_,hns₁,fun i y v e1 e2 e3=>?_⟩,fun y c e=>?_,fresh _ (Nat.le_succ _),fun y c e=>I1.freeC y c (clsub y c e),fun p hp=>absurd (show p∈([]:List (Addr×Obj)) from hp) (by simp),I1.hok.kept old,?_⟩
  ·by_cases hi:i <xs.length
   ·exfalso
    have e2':((xs.map fun _=>(none:Option V)) ++ dZ σ js)[i]?=some (some v):=e2
    rw [List.getElem?_append_left (by rw [List.length_map];exact hi),List.getElem?_map,List.getElem?_eq_getElem hi] at e2'
    cases e2'
   ·have e1':(xs ++ dM X.N js)[i]?=some y:=e1
    have e2':((xs.map fun _=>(none:Option V)) ++ dZ σ js)[i]?=some (some v):=e2
    rw [List.getElem?_append_right (by omega)] at e1'
    rw [List.getElem?_append_right (by rw [List.length_map];omega),List.length_map] at e2'
    generalize i - xs.length=i at e1' e2'
    unfold dM at e1'
    unfold dZ at e2'
    rw [List.getElem?_map] at e1' e2'
    cases q:js[i]? with
    | none=>rw [q] at e1';cases e1'
    | some j=>
     rw [q] at e1' e2'
     simp only [Option.map_some,Option.some.injEq] at e1' e2'
     have hv:σ[j]?=some (some v):=by
      cases z:σ[j]? with
      | none=>rw [z] at e2';cases e2'
      | some w=>rw [z] at e2';simpa using e2'
     have hj:j <X.N.length:=by
      rw [<-I1.len];exact(List.getElem?_eq_some_iff.mp hv).1
     have hy:X.N[j]?=some y:=by
      rw [List.getElem?_eq_getElem hj] at e1' ⊢
      rw [<-e1'];rfl
     obtain⟨m,hn,hl⟩:=I1.loc
     have hmem:y∈dM X.N js:=List.mem_map.mpr ⟨j,List.mem_of_getElem? q,by rw [hy];rfl⟩
     have hfr:=hjs y hmem
     have hkx:=hfree _ (PySem.mem_of_lookup hfr) rfl
     have hvis:YM X.env.scope y:=hkx.elim (fun z=>.inr (.inl z)) fun z=>.inr (.inr z)
     obtain⟨u,r,l⟩:=hl j y v hy hv hvis
     refine⟨u,r,?_⟩
     rcases l with ⟨kl,_⟩ | ⟨_,c,hc1,z⟩
     ·exfalso
      have kl':X.env.kindOf y=some .local:=kl
      rcases hkx with w | w <;> · rw [show X.env.kindOf y=_ from w] at kl';cases kl'
     ·obtain⟨c',hc'⟩:=Fv (env:=X.env) scope.names [] y (.inr ⟨_,PySem.mem_of_lookup hfr,rfl,rfl,c,hc1⟩)
      rw [hcl] at hc'
      have e4:=clsub y c' hc'
      rw [hc1] at e4
      cases e4
      obtain⟨o,ho,hd⟩:=z
      refine .inr ⟨?_,c,hc',o,old c o ho,hd⟩
      rcases e3 with e3 | e3 | e3
      ·exfalso
       have e3':(relabel scope X.env).names.lookup y=some .local:=e3
       rw [vN,hfr] at e3'
       simp only [Option.map_some,Option.some.injEq] at e3'
       split at e3' <;> cases e3'
      ·exact .inl e3
      ·exact .inr e3
  ·obtain⟨v,q⟩:=I1.cell y c (clsub y c e)
   obtain⟨o,ho,hd⟩:=q
   exact⟨v,o,old c o ho,hd⟩
  ·show((xs.map fun _=>(none:Option V)) ++ dZ σ js).length=(xs ++ dM X.N js).length
   unfold dZ dM
   rw [List.length_append,List.length_append,List.length_map,List.length_map,List.length_map]
 have mkR:∀(s':Shared) (H2:Hp) (ys:List V) (its:List Value) (σ':St),Inv Y [] σ' H2 s'->s'.heap.PlainList D its.toArray->Vals ys its->ys.length<=sizeLine->H2 D=none->Q ys H2->RR (.ref D) (D+1) (.ok .next) s':=by
  intro s' H2 ys its σ' I' pl rv hz hD hq
  obtain⟨m,hn,_⟩:=I'.loc
  have hn':s'.heap.Ns (D+1) m:=hn
  have hCn:H2 (D+1)=none:=I'.free
  have hch:∀b∈fp,(b∈X.ex∨X.s₀.heap.objs.size<=b)/\b≠X.env.locals/\(∀x c,X.env.cells.lookup x=some c->c≠b)/\∀p∈X.pn ++ pins,p.1≠b:=fun b hb=>by
   obtain⟨_,h2,_,h4,h5,h6⟩:=f1 b hb
   exact⟨h4,h2,h5,h6⟩
  have bs:Un (frs X.stack) fp H1 H2 s.heap s'.heap:=I'.base
  have all:∀h',Heap.SameBut (D+1) s'.heap h'->Inv X pins σ (upd H2 D (.lst ys)) { s' with heap:=h' }:=fun h' sb=>by
   have neD:∀b o,s.heap.get? b=some o->b≠D:=fun b o e=>Nat.ne_of_lt (lt b o e)
   have neC:∀b o,s.heap.get? b=some o->b≠D+1:=fun b o e=>Nat.ne_of_lt (Nat.lt_succ_of_lt (lt b o e))
   refine I1.call' (s':={ s' with heap:=h' }) (ch:=fp) I'.os ⟨fun b o e n hb hx=>?_,fun b o e n hb hx=>?_,fun b o e n hx=>?_,fun b o e hx=>?_,fun b xs e=>?_,fun b o u e=>?_,fun b ps e=>?_⟩ ?_ I'.bare hch
   ·exact(sb.2 b (neC b o e)).trans (bs.keep b o e n hb hx)
   ·obtain⟨sl,q⟩:=bs.slot b o e n hb hx
    exact⟨sl,(sb.2 b (neC b o e)).trans q⟩
   ·rw [aH (neD b o e)];exact bs.free b o e n hx
   ·obtain⟨o',q⟩:=bs.there b o e hx
    exact⟨o',(sb.2 b (neC b o e)).trans q⟩
   ·have:=bs.tups b xs e
    rw [aH (aD this hD)];exact this
   ·have:=bs.frzs b o u e
    rw [aH (aD this hD)];exact this
   ·obtain⟨more,q⟩:=bs.tbls b ps e
    exact⟨more,by rw [aH (aD q hD)];exact q⟩
   ·have h0:wK X.prog X.w H2 h':=fun b u e=>(I'.hok b u e).stay (fun c v hc q=>(sb.2 c (by
     rintro rfl
     rcases hc with z | z
     ·rw [z,e] at hCn;cases hCn
     ·rw [z] at hCn;cases hCn)).trans q) (fun _ q=>q) fun _ _ q=>q
    refine PB h0 hD ?_
    obtain⟨n,e⟩:=pl
    exact⟨hz,its,n,rv,(sb.2 D hDC).trans e⟩
  have hall:=all s'.heap (.refl ..)
  refine hR D (D+1) s' H2 ys m hall hD hn' all ?_ hDC.symm hq
  refine⟨by rw [aH hDC.symm];exact hCn,?_,?_,.inr (Nat.le_trans I1.sz (by rw [hDe];exact Nat.le_succ _)),fun y c e z=>?_,fun p hp z=>?_⟩
  ·exact Nat.ne_of_gt (Nat.lt_trans (hDe ▸ I1.lt) (Nat.lt_succ_self _))
  ·exact I1.nofs (by rw [hDe];exact Nat.le_succ _)
  ·exact absurd z (Nat.ne_of_lt (Nat.lt_succ_of_lt (cellD y c e)))
  ·exact absurd z (Nat.ne_of_lt (Nat.lt_succ_of_lt (lt _ _ (I1.pin p hp).1)))
 have loop:∀s₃:Shared,s₃={ s with heap:=h₁,toks:=s.toks+([]:List (Str×Value)).length }->
   codeAny (model X.prog X.w) X.A (.compLoop (.ListComp elt [⟨tg,iter,ifs,0⟩] scope pos) 0 (.ref it) (.ref D) Y.env) (RR (.ref D) (D+1)) s₃:=by
  rintro s₃ rfl
  have stat:∀{H':Hp} {ob:Obj},(∀b∈fp,H' b=none)->∀b∈fp,JK Y [(D,ob)] H' b:=fun {H'} {ob} hn b hb=>by
   refine⟨hn b hb,Nat.ne_of_lt (Nat.lt_succ_of_lt (fpD b hb)),fun hf=>okY.exfs b hb hf,.inl hb,fun y c e=>(okY.exf b hb).2 y c e,fun p hp z=>?_⟩
   have hp':p∈[(D,ob)]:=hp
   have e:p=(D,ob):=by simpa using hp'
   rw [e] at z
   exact absurd z (Ne.symm (Nat.ne_of_lt (fpD b hb)))
  refine Yv (fun n s'=>∃i ys its H',∃ob:Obj,Inv Y [(D,ob)] σ0 H' s'/\(∃n,ob={ cls:=.type "list",data:=.seq its.toArray n })/\Vals ys its/\H' D=none/\tn i s'.heap/\(∀b∈fp,H' b=none)/\W i n ys H') ?_ m0
   ⟨0,[],[],H1,{ cls:=.type "list",dict:=none,data:=.seq ([]:List Value).toArray },?_,⟨_,rfl⟩,.nil,fresh _ (Nat.le_refl _),T.keep _ _ _ st1 fun b _ o e=>old b o e,fun b hb=>(f1 b hb).1,w0⟩
  ·rintro n s3 ⟨i,ys,its,H3,ob,I3,⟨cap,rfl⟩,rv,hD,st3,fr3,w3⟩
   rcases turn i n ys H3 w3 with ⟨stop,hz,hq⟩ | ⟨go,hz,N,hN7,step⟩
   ·refine wpAny_mono (T.done Y rfl rfl rfl hc i _ s3 σ0 H3 (fun _ _=>False) I3 (stat fr3) st3 stop) (fun r s4 ⟨hr,I4⟩=>?_) fun _ _ f=>f.elim
    subst hr
    exact mkR s4 H3 ys its σ0 (I4.pins_of fun p hp=>absurd hp (by simp)) ⟨cap,(I4.pin _ (List.mem_append_right _ List.mem_cons_self)).1⟩ rv hz hD hq
   ·refine wpAny_mono (T.item Y rfl rfl rfl hc i _ s3 σ0 H3 (fun _ _=>False) I3 (stat fr3) st3 go) (fun r s4 ⟨u,hr,h4⟩=>?_) fun _ _ f=>f.elim
    subst hr
    refine wpAny_mono h4 (fun _ s4 ⟨xv,H5,I5,r5,y5,st5,fr5⟩=>?_) fun _ _ f=>f.elim
    have I5':=I5.pinned (stat fr5) (T.obj _ _ st5)
    refine wpAny_mono (hg cl (D+1) s H1 fp _ _ σ0 H5 xv u _ I5' r5 (step xv H5 y5)) (fun _ s6 ⟨σ6,H6,I6,hσ6,q6⟩=>?_) fun _ _ f=>False.elim f
    have again:∀{s7:Shared} {H7:Hp} {ys7:List V} {its7:List Value} {cap7:Nat} {pl:List (Addr×Obj)},Inv Y ([(D,{ cls:=.type "list",data:=.seq its7.toArray cap7 })] ++ pl) σ6 H7 s7->(∀b∈fp,∀o,s4.heap.get? b=some o->s7.heap.get? b=some o/\H7 b=none)->Vals ys7 its7->(∃m',m' <n/\W (i+1) m' ys7 H7)->
      ∃m,m <n/\∃i ys its H',∃ob:Obj,Inv Y [(D,ob)] σ0 H' s7/\(∃n,ob={ cls:=.type "list",data:=.seq its.toArray n })/\Vals ys its/\H' D=none/\tn i s7.heap/\(∀b∈fp,H' b=none)/\W i m ys H':=by
     intro s7 H7 ys7 its7 cap7 pl I7 kf rv7 ⟨m',hm,w7⟩
     refine⟨m',hm,i+1,ys7,its7,H7,_,I7.unpinned.weak (by rw [I7.len];show((xs.map fun _=>(none:Option V)) ++ dZ σ js).length=(xs ++ dM X.N js).length;unfold dZ dM;rw [List.length_append,List.length_append,List.length_map,List.length_map,List.length_map]) fun j v e=>?_,⟨cap7,rfl⟩,rv7,(I7.pin _ (List.mem_append_right _ (List.mem_append_left _ List.mem_cons_self))).2.1,T.keep _ _ _ st5 fun b hb o e=>(kf b hb o e).1,fun b hb=>?_,w7⟩
     ·have e':((xs.map fun _=>(none:Option V)) ++ dZ σ js)[j]?=some (some v):=e
      by_cases hj:j <xs.length
      ·exfalso
       rw [List.getElem?_append_left (by rw [List.length_map];exact hj),List.getElem?_map,List.getElem?_eq_getElem hj] at e'
       cases e'
      ·rw [List.getElem?_append_right (by rw [List.length_map];omega),List.length_map,<-hσ6,List.getElem?_drop] at e'
       rw [show xs.length+(j - xs.length)=j by omega] at e'
       exact e'
     ·obtain⟨o,e,_⟩:=T.obj _ _ st5 b hb
      exact(kf b hb o e).2
    refine wpAny_mono (hif cl (D+1) s H1 fp _ s6 _ H6 _ I6 q6) (fun ok s7 ⟨H7,I7,q7⟩=>?_) fun _ _ f=>False.elim f
    have kf7:∀b∈fp,∀o,s4.heap.get? b=some o->s7.heap.get? b=some o/\H7 b=none:=fun b hb o e=>
     have z:=I7.pin (b,o) (List.mem_append_right _ (List.mem_append_right _ (tQ hb e)))
     ⟨z.1,z.2.1⟩
    cases ok with
    | false=>
     rw [if_neg Bool.false_ne_true] at q7 ⊢
     exact again I7 kf7 rv (hN7 _ _ q7)
    | true=>
     rw [if_pos rfl] at q7 ⊢
     refine wpAny_mono (he cl (D+1) s H1 fp _ s7 _ H7 _ I7 q7) (fun yv s8 ⟨y,H8,I8,r8,q8⟩=>?_) fun _ _ f=>False.elim f
     have pD:=I8.pin _ (List.mem_append_right _ (List.mem_append_left _ List.mem_cons_self))
     have hlen:=rv.length
     refine wpAny_list_append_plain (items:=its.toArray) ⟨cap,pD.1⟩ (fun h9 pl9 sb9=>?_) (by rw [List.size_toArray];omega)
     obtain⟨cap9,e9⟩:=pl9
     have I9:Inv Y [] σ6 H8 { s8 with heap:=h9 }:=(I8.pins_of (pins':=[]) fun p hp=>absurd hp (by simp)).turned (t':=s8.toks) (it:=D) (fun b o hb e=>(sb9.2 b hb).trans e) pD.2.1 hDC
      (.inr (Nat.le_of_eq hDe)) (fun y c e z=>absurd z (Nat.ne_of_lt (cellD y c (clsub y c e)))) fun p hp=>absurd (show p∈([]:List (Addr×Obj)) from hp) (by simp)
     have kf9:∀b∈fp,∀o,s4.heap.get? b=some o->h9.get? b=some o/\H8 b=none:=fun b hb o e=>by
      have z:=I8.pin (b,o) (List.mem_append_right _ (List.mem_append_right _ (tQ hb e)))
      exact⟨(sb9.2 b (Nat.ne_of_lt (fpD b hb))).trans z.1,z.2.1⟩
     refine again (s7:={ s8 with heap:=h9 }) (its7:=its ++ [yv]) (cap7:=cap9) (pl:=[]) (I9.pins_of fun p hp=>?_) kf9 (rv.append (.cons r8 .nil)) (hN7 _ _ q8)
     have hp':p=(D,{ cls:=.type "list",data:=.seq (its ++ [yv]).toArray cap9 }):=by simpa using hp
     subst hp'
     refine⟨?_,pD.2.1,pD.2.2.1,pD.2.2.2.1,fun v z=>by cases z⟩
     rw [e9]
     simp
  ·refine IY.pins_of fun p hp=>?_
   have hp':p=(D,{ cls:=.type "list",dict:=none,data:=.seq ([]:List Value).toArray }):=by simpa using hp
   subst hp'
   exact⟨accD,fresh _ (Nat.le_refl _),hDC,fun hf=>Nat.lt_irrefl _ (frD _ hf),fun v z=>by cases z⟩
 exact codeAny_compStart_list (loop _ rfl) (wpAny_mono (T.self X.A 0 _ (fun v s'=>v=.ref it/\s'={ s with heap:=h₁,toks:=s.toks+([]:List (Str×Value)).length }) (fun _ _=>False) (T.keep _ _ _ st1 fun b _ o e=>old b o e) ⟨rfl,rfl⟩) (fun v s' ⟨e1,e2⟩=>by subst e1 e2;exact loop _ rfl) fun _ _ f=>f.elim)
theorem yZ (xs:List Str) (js:List Nat) (N0:List Str) (sc0:Scope) (hc:X.calm=true) (hi:PI X tg iter wi) (hg:∀cl C s H ex,PG (my X scope xs js cl C s H ex) tg g)
  (hif:∀cl C s H ex,PF (my X scope xs js cl C s H ex) ifs tt) (he:∀cl C s H ex,PE (my X scope xs js cl C s H ex) elt te)
  (hk:scope.kind=.function:=by rfl) (hcell:∀y∈scope.names,y.2≠.cell:=by decide +kernel)
  (hnames:∀y∈scope.names,y.2=.local->scope.names.lookup y.1=some .local:=by decide +kernel)
  (hsc:X.env.scope=sc0:=by rfl) (hfree0:∀y∈scope.names,y.2=.free->sc0.names.lookup y.1=some .cell∨sc0.names.lookup y.1=some .free:=by decide +kernel)
  (hNN:X.N=N0:=by rfl) (hj0:∀y∈dM N0 js,scope.names.lookup y=some .free:=by decide +kernel)
  (hs:∀x,foldedSetIterable iter X.env x=pure x:=by intro _;rfl):
  PE X (.ListComp elt [⟨tg,iter,ifs,0⟩] scope pos) (S8 xs js wi g tt te):=by
 intro pins s σ H Q I h
 have hfree:∀y∈scope.names,y.2=.free->X.env.kindOf y.1=some .cell∨X.env.kindOf y.1=some .free:=fun y hy e=>by
  show X.env.scope.names.lookup y.1=some .cell∨X.env.scope.names.lookup y.1=some .free
  rw [hsc];exact hfree0 y hy e
 rw [eval_ListComp]
 have hcl:closureFor scope X.env=pure (clos X.env scope.names []):=mC fun y hy e=>I.ok.has y.1 (hfree y hy e)
 refine wpAny_comprehension_free (use:=none) rfl hs hcl hk hnames (eX (hi pins s σ H _ I h) fun xv s1 h1=>eX h1 fun it s2 h2=>?_)
 have hjs:∀y∈dM X.N js,scope.names.lookup y=some .free:=by rw [hNN];exact hj0
 refine vA xs js (RR:=fun acc C=>compPost (model X.prog X.w) X.A X.xe none (EP X pins σ Q) acc C) (Q:=fun ys H2=>∀D,H2 D=none->Q (.ref D) (upd H2 D (.lst ys))) hc hk hcell hfree hg hif he hjs h2 ?_
 intro D C s' H2 ys m I' hD hn all fpC hCD hq
 exact⟨m,hn,fun h' sb=>⟨.ref D,_,all h' sb,rfl,hq D hD⟩⟩
theorem Qo {i:Nat} {y:Str} {py spos:Pos} (xs:List Str) (js:List Nat) (N0:List Str) (sc0:Scope) (hc:X.calm=true) (hNX:X.N.Nodup) (hiy:X.N[i]?=some y) (hi:PI X tg iter wi) (hg:∀cl C s H ex,PG (my X scope xs js cl C s H ex) tg g)
  (hif:∀cl C s H ex,PF (my X scope xs js cl C s H ex) ifs tt) (he:∀cl C s H ex,PE (my X scope xs js cl C s H ex) elt te)
  (hsw:swapsWith (.ListComp elt [⟨tg,iter,ifs,0⟩] scope pos) (some (.Name y py)) spos.line X.env=pure true:=by rfl) (hy:X.env.scope.names.lookup y=some .local:=by rfl)
  (hk:scope.kind=.function:=by rfl) (hcell:∀y∈scope.names,y.2≠.cell:=by decide +kernel)
  (hnames:∀y∈scope.names,y.2=.local->scope.names.lookup y.1=some .local:=by decide +kernel)
  (hsc:X.env.scope=sc0:=by rfl) (hfree0:∀y∈scope.names,y.2=.free->sc0.names.lookup y.1=some .cell∨sc0.names.lookup y.1=some .free:=by decide +kernel)
  (hNN:X.N=N0:=by rfl) (hj0:∀y∈dM N0 js,scope.names.lookup y=some .free:=by decide +kernel)
  (hs:∀x,foldedSetIterable iter X.env x=pure x:=by intro _;rfl):
  PS X (.Assign [.Name y py] (.ListComp elt [⟨tg,iter,ifs,0⟩] scope pos) spos) (QG (S8 xs js wi g tt te) (zq i)):=by
 intro pins s σ H D I h
 have hfree:∀y∈scope.names,y.2=.free->X.env.kindOf y.1=some .cell∨X.env.kindOf y.1=some .free:=fun y hy e=>by
  show X.env.scope.names.lookup y.1=some .cell∨X.env.scope.names.lookup y.1=some .free
  rw [hsc];exact hfree0 y hy e
 have hjs:∀y∈dM X.N js,scope.names.lookup y=some .free:=by rw [hNN];exact hj0
 rw [exec_Assign_Name_used _ _ _ _ hsw]
 refine wpAny_bind (wpAny_standAt (wpAny_bind ?_))
 show wpAny _ X.A (do let _ <-comprehension (.ListComp elt [⟨tg,iter,ifs,0⟩] scope pos) scope X.env _ (newList []) false (eval iter X.env) (some (assign (.Name y py) X.env))) _ _ s
 have hcl:closureFor scope X.env=pure (clos X.env scope.names []):=mC fun y hy e=>I.ok.has y.1 (hfree y hy e)
 refine wpAny_bind (wpAny_mono (wpAny_comprehension_free (use:=some (assign (.Name y py) X.env)) (Q:=fun _ s'=>SP X pins D .next s') rfl hs hcl hk hnames
  (eX (hi pins s σ H _ I h) fun xv s1 h1=>eX h1 fun it s2 h2=>?_)) (fun _ s' hq=>wpAny_pure (wpAny_pure hq)) fun _ _ e=>e)
 refine vA xs js (RR:=fun acc C=>compPost (model X.prog X.w) X.A X.xe (some (assign (.Name y py) X.env)) (fun _ s'=>SP X pins D .next s') acc C) (Q:=fun ys H2=>∀D',H2 D'=none->D.nx (σ.set i (some (.ref D'))) (upd H2 D' (.lst ys))) hc hk hcell hfree hg hif he hjs h2 ?_
 intro D' C s' H2 ys m I' hD hn all fpC hCD hq
 show wpAny _ X.A (assign (.Name y py) X.env (.ref D')) _ _ _
 refine wpAny_assign_Name (Ag I' hNX hiy (.inl hy) (v:=.ref D') rfl (fun s'' I'' ⟨a,sb,ha⟩=>?_) (.inr hy))
 obtain⟨f1,f2,f3,f4,f5,f6⟩:=fpC
 have hCa:C≠a:=by
  rcases ha with z | z
  ·rw [z];exact f2
  ·exact fun w=>f5 _ _ z w.symm
 exact⟨m,hn.sameBut sb hCa,fun h' sb'=>⟨_,_,I''.turned (t':=s''.toks) (it:=C) (fun b o hb e=>(sb'.2 b hb).trans e) f1 f2 f4 f5 f6,hq D' hD⟩⟩
end
theorem xX {ts:List Str} {js:List Nat} {σ:St} {g:TG} {tt:TT} {te:TE} {Qd:List V->Hp->Prop} {K:PySem.W.Frag} {a:Addr} {xs:List V} {H:Hp} (Pv:Nat->List V->Hp->Prop) (hn:xs.length<=sizeLine) (h0:Pv 0 [] H) (hl:∀i ys H,Pv i ys H->ys.length<=i) (hq:∀i ys H,i<=xs.length->Pv i ys H->bK K H a xs)
  (hs:∀i x ys H,xs[i]?=some x->Pv i ys H->g x ((ts.map fun _=>none) ++ dZ σ js) H fun σ2 H3=>σ2.drop ts.length=dZ σ js/\tt σ2 H3 fun b H4=>if b=true then te σ2 H4 fun y H5=>Pv (i+1) (ys ++ [y]) H5 else Pv (i+1) ys H4)
  (hd:∀ys H,Pv xs.length ys H->Qd ys H):zO ts js σ g tt te Qd (Wr K a) H:=by
 refine⟨fun i m ys H=>m=xs.length - i/\i<=xs.length/\Pv i ys H,⟨xs.length,by simp,Nat.zero_le _,h0⟩,?_⟩
 rintro i m ys H ⟨rfl,hi,p⟩
 have hlen:=hl i ys H p
 have q:=hq i ys H hi p
 by_cases hlt:i <xs.length
 ·refine .inr ⟨⟨xs,xs[i],q,by simp [hlt]⟩,by omega,Pv (i+1),fun ys' H' p'=>⟨xs.length - (i+1),by omega,rfl,hlt,p'⟩,fun x H' y=>?_⟩
  obtain⟨e,y⟩:=y
  subst e
  exact hs i x ys _ (y xs q) p
 ·have e:i=xs.length:=by omega
  subst e
  exact .inl ⟨⟨xs,q,Nat.le_refl _⟩,by omega,hd ys H p⟩
structure MT (K:PySem.W.Frag) (x qual:Str) (st:Stmt) (f:Addr) (fd:FuncData) (its:Array Value):Prop where
 ex:∃(oc:Value) (od:Option Addr) (T:Addr) (kV doc pm:Value) (an:Option Addr) (cdv ct:Value) (osl:Array (Option Value)) (o:Obj) (n:Nat),
  fd=PySem.W.fnOf x qual (jG st) (iZ st) (bc st) (.ref T) kV doc pm an cdv ct/\K.lookup f=some ⟨oc,od,.func fd,osl⟩/\PySem.W.codeIn K cdv qual=true/\K.lookup T=some o/\o.data=.seq its n
 kp:PySem.W.keepIn K (.ref f)=true
section
variable {P:Program} {w:World} {K:PySem.W.Frag} {mg:Str->Option Value} {base:Heap} {its:Array Value}
theorem MT.ok {x qual:Str} {st:Stmt} {f:Addr} {fd:FuncData} {N ps:List Str} {k:Nat} {sp:Sp} (F:MT K x qual st f fd its) (S:gm N ps (bc st)) (len:∀vs H Q E,sp vs H Q E->vs.length=ps.length)
  (hbody:∀(cdv:Value) (A:Around) (outer:List Env) (s:Shared) (H:Hp) (vs:List V) (Q:VK) (E:XK),jM k (A.deeper (envOfC qual (bc st) s.heap.objs.size f cdv))->sp vs H Q E->
   ∃t,N8 (Ni Ao P w K mg base N qual (bc st) f cdv A outer s H E).nox (iZ st) t/\t { nx:=fun _ H'=>Q .non H',rt:=Q } (start N vs) H):jB P w K mg base Ao (k+1) f fd ps sp:=by
 obtain⟨oc,od,T,kV,doc,pm,an,cdv,ct,osl,o,n,rfl,lk,hcd,_⟩:=F.ex
 refine VF lk hcd S len fun A outer s H vs Q E hr hsp=>?_
 obtain⟨t,h,q⟩:=hbody cdv A outer s H vs Q E hr hsp
 exact⟨t,h.nox,q⟩
theorem MT.binds {x qual:Str} {st:Stmt} {f:Addr} {fd:FuncData} {ps:List Str} (F:MT K x qual st f fd its)
  (h:∀(T:Addr) (kV doc pm:Value) (an:Option Addr) (cdv ct:Value) (us:List Value),us.length=ps.length->∃k,bindArgs (PySem.W.fnOf x qual (jG st) (iZ st) (bc st) (.ref T) kV doc pm an cdv ct) ⟨us,[]⟩=seqItems? (.ref T) >>= k/\k (some its)=pure (ps.zip us)):Binds K fd ps []:=by
 obtain⟨oc,od,T,kV,doc,pm,an,cdv,ct,osl,o,n,rfl,lk,hcd,hT,ho⟩:=F.ex
 intro s us X hl
 rw [List.append_nil] at hl ⊢
 obtain⟨k,h1,h2⟩:=h T kV doc pm an cdv ct us hl
 exact .of_defaults rfl (X _ _ hT) ho h1 h2
theorem Uz {x qual:Str} {st:Stmt} {f T:Addr} {oc:Value} {od an:Option Addr} {osl:Array (Option Value)} {kV doc pm cdv ct:Value} {o:Obj} {n:Nat} (l:K.lookup f=some ⟨oc,od,.func (PySem.W.fnOf x qual (jG st) (iZ st) (bc st) (.ref T) kV doc pm an cdv ct),osl⟩)
  (c:PySem.W.codeIn K cdv qual=true) (k:PySem.W.keepIn K (.ref f)=true) (d:K.lookup T=some o) (e:o.data=.seq its n):MT K x qual st f (PySem.W.fnOf x qual (jG st) (iZ st) (bc st) (.ref T) kV doc pm an cdv ct) its:=⟨⟨oc,od,T,kV,doc,pm,an,cdv,ct,osl,o,n,rfl,l,c,d,e⟩,k⟩
end
theorem Ep {ts:List Str} {js:List Nat} {σ:St} {g:TG} {tt:TT} {te:TE} {Qd:List V->Hp->Prop} {K:PySem.W.Frag} {a:Addr} {xs:List V} {H:Hp} (Pv:Nat->List V->Hp->Prop) (hn:xs.length<=sizeLine) (h0:Pv 0 [] H) (hl:∀i ys H,Pv i ys H->ys.length<=i) (hq:∀i ys H,i<=xs.length->Pv i ys H->bK K H a xs)
  (hs:∀i x ys H p,xs[i]?=some x->Pv i ys H->H p=none->g (.ref p) ((ts.map fun _=>none) ++ dZ σ js) (upd H p (.tup [.int (i:Nat),x])) fun σ2 H3=>σ2.drop ts.length=dZ σ js/\tt σ2 H3 fun b H4=>if b=true then te σ2 H4 fun y H5=>Pv (i+1) (ys ++ [y]) H5 else Pv (i+1) ys H4)
  (hd:∀ys H,Pv xs.length ys H->Qd ys H):zO ts js σ g tt te Qd (Pz K a) H:=by
 refine⟨fun i m ys H=>m=xs.length - i/\i<=xs.length/\Pv i ys H,⟨xs.length,by simp,Nat.zero_le _,h0⟩,?_⟩
 rintro i m ys H ⟨rfl,hi,p⟩
 have hlen:=hl i ys H p
 have q:=hq i ys H hi p
 by_cases hlt:i <xs.length
 ·refine .inr ⟨⟨xs,xs[i],q,by simp [hlt]⟩,by omega,Pv (i+1),fun ys' H' p'=>⟨xs.length - (i+1),by omega,rfl,hlt,p'⟩,fun x H' y=>?_⟩
  obtain⟨u,z,hu,ex,eH,hy⟩:=y
  subst ex eH
  exact hs i z ys H u (hy xs q) p hu
 ·have e:i=xs.length:=by omega
  subst e
  exact .inl ⟨⟨xs,q,Nat.le_refl _⟩,by omega,hd ys H p⟩
section
variable {X:Cx} {e:Expr} {es:List Expr} {te:TE} {t:TA} {pos:Pos} {st:Stmt} {rest:List Stmt} {ts us:TS}
end
theorem um {X:Cx} {K:PySem.W.Frag} (hK:X.K=K):lu X (.type "list") (fun xs H Q=>∃p ys,xs=[.ref p]/\(bK K H p ys∨fC K H p ys)/\∀l,H l=none->Q (.ref l) (upd H l (.lst ys))):=by subst hK;exact iJ
section
variable {X:Cx}
end
section
variable {X:Cx}
end
section
variable {prog:Program} {w:World} {A:Around} {E:Value->Shared->Prop}
end
section
variable {X:Cx} {tg:Expr}
end
section
variable {X:Cx} {e:Expr}
end
section
variable {X:Cx}
theorem tX:∀{us:List Value} {ys:List Str},StrsAre us ys->Vals (ys.map V.str) us
 | _,_,.nil=>.nil
 | _,_,.cons _ _ t=>.cons ⟨_,rfl⟩ (tX t)
theorem GZ:bootBuiltins "sorted" =some (.builtin "sorted"):=by decide +kernel
theorem LC:lu X (.builtin "sorted") (fun xs H Q=>∃p ys,xs=[.ref p]/\bK X.K H p (ys.map V.str)/\ys.length <64/\∀l zs,H l=none->zs.Perm ys->sortedS zs=true->Q (.ref l) (upd H l (.lst (zs.map V.str)))):=by
 intro pins s σ H xs us Q I rx h
 obtain⟨p,ys,rfl,hq,hl,q⟩:=h
 obtain⟨u,rfl,ru⟩:=vals1 rx
 cases ru
 obtain⟨its,r,pl,hz⟩:=I.list hq
 have hlen:=r.length
 rw [List.length_map] at hlen
 have hsz:sizeLine=16777216:=sizeLine_eq
 refine sorted_strs pl.isList (tR r) (by omega) fun out ss' a1 a2 a3=>?_
 obtain⟨e,he⟩:=sortedAll_at s.heap its out
 have hl':=a2.length_eq
 have rv:=tX a1
 refine⟨.ref (s.heap.objs.size+1),_,I.laid (t':=s.toks) (fun b o=>sortedAll_old) (Nat.le_succ _) (show fZ X.prog X.w _ _ _ (.lst (ss'.map V.str)) from⟨by rw [List.length_map];omega,out.toList,e,rv,by simpa [seqObj] using he⟩),rfl,q _ _ (I.hok.fresh (Nat.le_succ _)) a2 a3⟩
theorem Nh (hc:X.calm=true):lu X (.builtin "sorted") (fun xs H Q=>∃d kvs ys,xs=[.ref d]/\Rd H d (.dK kvs)/\kvs.map (·.1)=ys.map (fun y=>(Sum.inr y:Key))/\ys.length <64/\∀l zs,H l=none->zs.Perm ys->sortedS zs=true->Q (.ref l) (upd H l (.lst (zs.map V.str)))):=by
 intro pins s σ H xs us Q I rx h
 obtain⟨d,kvs,ys,rfl,hr,hk,hl,q⟩:=h
 obtain⟨u,rfl,ru⟩:=vals1 rx
 cases ru
 obtain⟨z,hd,vs,rel,dd⟩:=zy I.hok hr
 obtain⟨ep,da⟩:=dd.dictAt
 have hlv:kvs.length=vs.length:=Paired.length rel
 have hly:kvs.length=ys.length:=by have:=congrArg List.length hk;rwa [List.length_map,List.length_map] at this
 have hsz:sizeLine=16777216:=sizeLine_eq
 refine Calls.call_function_entry kind_sorted plain_sorted entry_sorted (args_sorted1 _) ?_
 unfold Builtin.«sorted»
 refine wpAny_bind (m:=checkCount "sorted" 1 1 _) (wpAny_pure ?_)
 refine wpAny_bind (PySem.W.kdu_collect (A:=X.A.in1) (PySem.W.kdl_dict (knd:=du X.prog X.w) (kvs:=vs) (ep:=ep) hd) (I.ok.hd hc) da (by omega) fun h' tk acc kp hacc=>?_)
 have hla:acc.toList.length=vs.length:=by rw [Array.length_toList];exact hacc.1
 refine wpAny_bind (wpAny_newList ?_ (by rw [hla];omega))
 have hS:StrsAre acc.toList ys:=by
  refine tR (vW (by rw [hla,List.length_map];omega) fun j x u hx hu=>?_)
  obtain⟨k,v,hkv,hki⟩:=hacc.2 j u (by rw [<-Array.getElem?_toList];exact hu)
  rw [List.getElem?_map] at hx
  obtain⟨y,hy,rfl⟩:=Option.map_eq_some_iff.mp hx
  have e1:(kvs.map (·.1))[j]?=some (Sum.inr y):=by rw [hk,List.getElem?_map,hy];rfl
  rw [List.getElem?_map] at e1
  obtain⟨p,hp,e2⟩:=Option.map_eq_some_iff.mp e1
  obtain⟨v',hv'⟩:=JH rel (k:=p.1) (v:=p.2) hp
  rw [hkv] at hv'
  cases hv'
  rw [e2] at hki
  exact M7 (k:=Sum.inr y) hki
 have hoL:(h'.push (seqObj "list" acc.toList.toArray 0)).get? h'.objs.size=some (seqObj "list" acc.toList.toArray 0):=Heap.get?_push_size _ rfl
 show wpAny _ _ _ _ _ { s with heap:=h'.push (seqObj "list" acc.toList.toArray 0),toks:=tk }
 refine wpAny_bind (wpAny_holding (wpAny_call_entry slot_list_sort ⟨_,hoL,rfl⟩ entry_list_sort (list_sort_treeK strKind_oneLt hoL hS.keysOf (fun v₁ v₂ rest e=>keyKind_strs (by rw [<-e];exact hS)) (by omega) fun st' a1 a2=>⟨_,rfl,?_⟩) (args_list_sort _)))
 obtain⟨ss',b1,b2,b3⟩:=sorted_out_str hS a1 a2
 generalize (arrOf st').map (·.2)=out at b1 ⊢
 obtain⟨e,he⟩:=sortedHeap_at (out:=out) hoL
 have hl':=b2.length_eq
 have I1:Inv X pins σ H { s with heap:=h',toks:=tk }:=I.kept kp
 refine wpAny_pure ⟨_,rfl,.ref h'.objs.size,_,I1.laid (t':=tk) (fun b o eb=>?_) (Nat.le_refl _) (show fZ X.prog X.w _ _ _ (.lst (ss'.map V.str)) from⟨by rw [List.length_map];omega,out.toList,e,tX b1,by simpa [seqObj] using he⟩),rfl,q _ _ (I1.hok.fresh (Nat.le_refl _)) b2 b3⟩
 have hlt:b <h'.objs.size:=Heap.lt_size eb
 rw [sortedHeap_old (Nat.ne_of_lt hlt) (by rw [size_push'];exact Nat.lt_succ_of_lt hlt),Heap.get?_push_ne _ _ _ (Nat.ne_of_lt hlt)]
 exact eb
end
theorem xZ:∀{p:Str} {r:List Str},risingS p r=true->∀y∈r,p.cps.toList<=y.cps.toList
 | p,x:: r,h,y,hy=>by
  unfold risingS at h
  rw [Bool.and_eq_true,ltCps_eq] at h
  have h1:p.cps.toList<=x.cps.toList:=List.not_lt.mp (by simpa using h.1)
  rcases List.mem_cons.mp hy with rfl | hy
  ·exact h1
  ·exact List.le_trans h1 (xZ h.2 y hy)
theorem zP {p:Str} {r:List Str} (h:sortedS (p:: r)=true):sortedS r=true:=by
 cases r with
 | nil=>rfl
 | cons x r=>
  have:risingS p (x:: r)=true:=h
  unfold risingS at this
  rw [Bool.and_eq_true] at this
  exact this.2
theorem Fw:∀{l m:List Str},sortedS l=true->sortedS m=true->l.Perm m->l=m
 | [],m,_,_,p=>(List.nil_perm.mp p).symm
 | a:: r,[],_,_,p=>by have:=p.length_eq;simp at this
 | a:: r,b:: t,h1,h2,p=>by
  have e:a=b:=by
   have hb:b∈a:: r:=p.mem_iff.mpr List.mem_cons_self
   have ha:a∈b:: t:=p.mem_iff.mp List.mem_cons_self
   rcases List.mem_cons.mp hb with h | hb
   ·exact h.symm
   rcases List.mem_cons.mp ha with h | ha
   ·exact h
   exact PyProof.Rows.ext_toList (List.le_antisymm (xZ h1 b hb) (xZ h2 a ha))
  subst e
  rw [Fw (zP h1) (zP h2) (List.Perm.cons_inv p)]
section
variable {M:Model} {A:Around} {E:Value->Shared->Prop} {nm q:Str} {C N:Addr} {bs bm:List Value} {hdct:Bool} {sn:List Str} {sub:List Value} {ab:Bool} {col:Option Bool} {dd:Option Addr} {k0 k1 k2 k3 k5:Option Value} {newId:String}
end
end L2
namespace L2
open PySem PyProof
section
variable {X:Cx} {x:Str} {px pos:Pos} {iter elt:Expr} {ifs:List Expr} {scope:Scope} {wi:TI} {tt:TT} {te:TE}
theorem Bx (js:List Nat) {pins:List (Addr×Obj)} {σ:St} {s:Shared} {itv:Value} {Q:List V->Hp->Prop} {RR:Value->Addr->Result->Shared->Prop} {E:Value->Shared->Prop}
  (hc:X.calm=true) (hk:scope.kind=.function) (hx:scope.names.lookup x=some .local) (hcell:∀y∈scope.names,y.2≠.cell)
  (hfree:∀y∈scope.names,y.2=.free->X.env.kindOf y.1=some .cell∨X.env.kindOf y.1=some .free)
  (hN:(x:: dM X.N js).Nodup) (hjs:∀y∈dM X.N js,scope.names.lookup y=some .free)
  (hif:∀cl C s H ex,PF (Ar X scope x js cl C s H ex) ifs tt) (he:∀cl C s H ex,PE (Ar X scope x js cl C s H ex) elt te)
  (hit:PIE X pins σ (.Name x px) (CompEnd js tt te σ Q) itv s)
  (hR:∀D C s' H2 ys m,Inv X pins σ (upd H2 D (.lst ys)) s'->H2 D=none->s'.heap.Ns C m->(∀h',Heap.SameBut C s'.heap h'->Inv X pins σ (upd H2 D (.lst ys)) { s' with heap:=h' })->JK X pins (upd H2 D (.lst ys)) C->C≠D->Q ys H2->RR (.ref D) C (.ok .next) s'):
  wpAny (model X.prog X.w) X.A (newList []) (fun acc s₃=>wpAny (model X.prog X.w) X.A (newFunctionEnv scope X.env.globals (clos X.env scope.names []) [] X.env.qual none .none (some X.env)) (fun cenv s₄=>
   codeAny (model X.prog X.w) X.A (.compStart (.ListComp elt [⟨.Name x px,iter,ifs,0⟩] scope pos) 0 itv acc { cenv with scope:=relabel scope X.env }) (RR acc cenv.locals) s₄) E s₃) E s:=
 vA (tg:=.Name x px) (g:=zq 0) [x] js hc hk hcell hfree (fun cl C s H ex=>jF (i:=0) hN rfl (.inl (lookup_relabel_local hx)) (.inr (lookup_relabel_local hx))) hif he hjs
  (by
   obtain⟨it,fp,tn,J,H',e,I,T,t0,hf,W,h0,hW⟩:=hit
   exact⟨it,fp,tn,J,H',e,I,T,t0,hf,W,h0,fun i m ys H2 w=>(hW i m ys H2 w).imp_right fun⟨a,b,N,c,d⟩=>⟨a,b,N,c,fun y H3 z=>⟨rfl,d y H3 z⟩⟩⟩) hR
theorem gZ (js:List Nat) (N0:List Str) (sc0:Scope) (hc:X.calm=true) (hi:PI X (.Name x px) iter wi)
  (hif:∀cl C s H ex,PF (Ar X scope x js cl C s H ex) ifs tt) (he:∀cl C s H ex,PE (Ar X scope x js cl C s H ex) elt te)
  (hk:scope.kind=.function:=by rfl) (hx:scope.names.lookup x=some .local:=by rfl) (hcell:∀y∈scope.names,y.2≠.cell:=by decide +kernel)
  (hnames:∀y∈scope.names,y.2=.local->scope.names.lookup y.1=some .local:=by decide +kernel)
  (hsc:X.env.scope=sc0:=by rfl) (hfree0:∀y∈scope.names,y.2=.free->sc0.names.lookup y.1=some .cell∨sc0.names.lookup y.1=some .free:=by decide +kernel)
  (hNN:X.N=N0:=by rfl) (hN0:(x:: dM N0 js).Nodup:=by decide +kernel) (hj0:∀y∈dM N0 js,scope.names.lookup y=some .free:=by decide +kernel)
  (hs:∀x,foldedSetIterable iter X.env x=pure x:=by intro _;rfl):
  PE X (.ListComp elt [⟨.Name x px,iter,ifs,0⟩] scope pos) (Vc js wi tt te):=by
 intro pins s σ H Q I h
 have hN:(x:: dM X.N js).Nodup:=by rw [hNN];exact hN0
 have hfree:∀y∈scope.names,y.2=.free->X.env.kindOf y.1=some .cell∨X.env.kindOf y.1=some .free:=fun y hy e=>by
  show X.env.scope.names.lookup y.1=some .cell∨X.env.scope.names.lookup y.1=some .free
  rw [hsc];exact hfree0 y hy e
 have hjs:∀y∈dM X.N js,scope.names.lookup y=some .free:=by rw [hNN];exact hj0
 rw [eval_ListComp]
 have hcl:closureFor scope X.env=pure (clos X.env scope.names []):=mC fun y hy e=>I.ok.has y.1 (hfree y hy e)
 refine wpAny_comprehension_free (use:=none) rfl hs hcl hk hnames (eX (hi pins s σ H _ I h) fun xv s1 h1=>eX h1 fun it s2 h2=>?_)
 refine Bx js (RR:=fun acc C=>compPost (model X.prog X.w) X.A X.xe none (EP X pins σ Q) acc C) (Q:=fun ys H2=>∀D,H2 D=none->Q (.ref D) (upd H2 D (.lst ys))) hc hk hx hcell hfree hN hjs hif he h2 ?_
 intro D C s' H2 ys m I' hD hn all fpC hCD hq
 exact⟨m,hn,fun h' sb=>⟨.ref D,_,all h' sb,rfl,hq D hD⟩⟩
theorem jg {i:Nat} {y:Str} {py spos:Pos} (js:List Nat) (N0:List Str) (sc0:Scope) (hc:X.calm=true) (hNX:X.N.Nodup) (hiy:X.N[i]?=some y) (hi:PI X (.Name x px) iter wi)
  (hif:∀cl C s H ex,PF (Ar X scope x js cl C s H ex) ifs tt) (he:∀cl C s H ex,PE (Ar X scope x js cl C s H ex) elt te)
  (hsw:swapsWith (.ListComp elt [⟨.Name x px,iter,ifs,0⟩] scope pos) (some (.Name y py)) spos.line X.env=pure true:=by rfl) (hy:X.env.scope.names.lookup y=some .local:=by rfl)
  (hk:scope.kind=.function:=by rfl) (hx:scope.names.lookup x=some .local:=by rfl) (hcell:∀y∈scope.names,y.2≠.cell:=by decide +kernel)
  (hnames:∀y∈scope.names,y.2=.local->scope.names.lookup y.1=some .local:=by decide +kernel)
  (hsc:X.env.scope=sc0:=by rfl) (hfree0:∀y∈scope.names,y.2=.free->sc0.names.lookup y.1=some .cell∨sc0.names.lookup y.1=some .free:=by decide +kernel)
  (hNN:X.N=N0:=by rfl) (hN0:(x:: dM N0 js).Nodup:=by decide +kernel) (hj0:∀y∈dM N0 js,scope.names.lookup y=some .free:=by decide +kernel)
  (hs:∀x,foldedSetIterable iter X.env x=pure x:=by intro _;rfl):
  PS X (.Assign [.Name y py] (.ListComp elt [⟨.Name x px,iter,ifs,0⟩] scope pos) spos) (QG (Vc js wi tt te) (zq i)):=by
 intro pins s σ H D I h
 have hN:(x:: dM X.N js).Nodup:=by rw [hNN];exact hN0
 have hfree:∀y∈scope.names,y.2=.free->X.env.kindOf y.1=some .cell∨X.env.kindOf y.1=some .free:=fun y hy e=>by
  show X.env.scope.names.lookup y.1=some .cell∨X.env.scope.names.lookup y.1=some .free
  rw [hsc];exact hfree0 y hy e
 have hjs:∀y∈dM X.N js,scope.names.lookup y=some .free:=by rw [hNN];exact hj0
 rw [exec_Assign_Name_used _ _ _ _ hsw]
 refine wpAny_bind (wpAny_standAt (wpAny_bind ?_))
 show wpAny _ X.A (do let _ <-comprehension (.ListComp elt [⟨.Name x px,iter,ifs,0⟩] scope pos) scope X.env _ (newList []) false (eval iter X.env) (some (assign (.Name y py) X.env))) _ _ s
 have hcl:closureFor scope X.env=pure (clos X.env scope.names []):=mC fun y hy e=>I.ok.has y.1 (hfree y hy e)
 refine wpAny_bind (wpAny_mono (wpAny_comprehension_free (use:=some (assign (.Name y py) X.env)) (Q:=fun _ s'=>SP X pins D .next s') rfl hs hcl hk hnames
  (eX (hi pins s σ H _ I h) fun xv s1 h1=>eX h1 fun it s2 h2=>?_)) (fun _ s' hq=>wpAny_pure (wpAny_pure hq)) fun _ _ e=>e)
 refine Bx js (RR:=fun acc C=>compPost (model X.prog X.w) X.A X.xe (some (assign (.Name y py) X.env)) (fun _ s'=>SP X pins D .next s') acc C) (Q:=fun ys H2=>∀D',H2 D'=none->D.nx (σ.set i (some (.ref D'))) (upd H2 D' (.lst ys))) hc hk hx hcell hfree hN hjs hif he h2 ?_
 intro D' C s' H2 ys m I' hD hn all fpC hCD hq
 show wpAny _ X.A (assign (.Name y py) X.env (.ref D')) _ _ _
 refine wpAny_assign_Name (Ag I' hNX hiy (.inl hy) (v:=.ref D') rfl (fun s'' I'' ⟨a,sb,ha⟩=>?_) (.inr hy))
 obtain⟨f1,f2,f3,f4,f5,f6⟩:=fpC
 have hCa:C≠a:=by
  rcases ha with z | z
  ·rw [z];exact f2
  ·exact fun w=>f5 _ _ z w.symm
 exact⟨m,hn.sameBut sb hCa,fun h' sb'=>⟨_,_,I''.turned (t':=s''.toks) (it:=C) (fun b o hb e=>(sb'.2 b hb).trans e) f1 f2 f4 f5 f6,hq D' hD⟩⟩
end
end L2
namespace L2
open PySem PySem.Spec PyProof.Rows
noncomputable def fdOf (K:PySem.W.Frag) (f:Addr):FuncData:=match K.lookup f with
 | some ⟨_,_,.func d,_⟩=>d
 | _=>default
theorem U6 {K:PySem.W.Frag} {f:Addr} {oc:Value} {od:Option Addr} {fd:FuncData} {osl:Array (Option Value)} (l:K.lookup f=some ⟨oc,od,.func fd,osl⟩):fdOf K f=fd:=by
 unfold fdOf
 rw [l]
structure dU (K:PySem.W.Frag) (nm qn:Str) (s:Stmt) (f:Addr) (ps:List Str):Prop where
 F:Vv K nm qn s f (fdOf K f)
 b:Binds K (fdOf K f) ps []
 i:PySem.W.isFn K (.ref f)=true
theorem dU.me {K:PySem.W.Frag} {nm qn m:Str} {s:Stmt} {f C:Addr} {ps:List Str} (x:dU K nm qn s f ps) (h:PySem.W.findIn K (.ref C) m=some (some (.ref f))):Meth K C m f:=⟨h,x.i,x.F.kp⟩
theorem dU.of {K:PySem.W.Frag} {nm qn:Str} {s:Stmt} {f:Addr} {ps:List Str} {oc:Value} {od an:Option Addr} {osl:Array (Option Value)} {kV doc pm cdv ct:Value}
  (l:K.lookup f=some ⟨oc,od,.func (PySem.W.fnOf nm qn (jG s) (iZ s) (bc s) .none kV doc pm an cdv ct),osl⟩) (c:PySem.W.codeIn K cdv qn=true) (k:PySem.W.keepIn K (.ref f)=true) (i:PySem.W.isFn K (.ref f)=true)
  (h:∀(kV doc pm:Value) (an:Option Addr) (cdv ct:Value) (us:List Value),us.length=ps.length->bindArgs (PySem.W.fnOf nm qn (jG s) (iZ s) (bc s) .none kV doc pm an cdv ct) ⟨us,[]⟩=pure (ps.zip us)):dU K nm qn s f ps:=by
 have e:fdOf K f=PySem.W.fnOf nm qn (jG s) (iZ s) (bc s) .none kV doc pm an cdv ct:=by
  unfold fdOf
  rw [l]
 have F:=We l c k
 have b:=F.binds h
 rw [<-e] at F b
 exact⟨F,b,i⟩
structure Xc (K:PySem.W.Frag) (nm qn:Str) (s:Stmt) (f:Addr) (ps:List Str):Prop where
 F:MT K nm qn s f (fdOf K f) #[.none]
 b:Binds K (fdOf K f) ps []
 i:PySem.W.isFn K (.ref f)=true
theorem Xc.me {K:PySem.W.Frag} {nm qn m:Str} {s:Stmt} {f C:Addr} {ps:List Str} (x:Xc K nm qn s f ps) (h:PySem.W.findIn K (.ref C) m=some (some (.ref f))):Meth K C m f:=⟨h,x.i,x.F.kp⟩
theorem Xc.of {K:PySem.W.Frag} {nm qn:Str} {s:Stmt} {f T:Addr} {ps:List Str} {oc oe:Value} {od an oh:Option Addr} {osl osm:Array (Option Value)} {kV doc pm cdv ct:Value} {n:Nat}
  (l:K.lookup f=some ⟨oc,od,.func (PySem.W.fnOf nm qn (jG s) (iZ s) (bc s) (.ref T) kV doc pm an cdv ct),osl⟩) (d:K.lookup T=some ⟨oe,oh,.seq #[.none] n,osm⟩) (c:PySem.W.codeIn K cdv qn=true) (k:PySem.W.keepIn K (.ref f)=true) (i:PySem.W.isFn K (.ref f)=true)
  (h:∀fd:FuncData,MT K nm qn s f fd #[.none]->Binds K fd ps []):Xc K nm qn s f ps:=by
 have F:=Uz (its:=#[.none]) l c k d rfl
 have b:=h _ F
 rw [<-U6 l] at F b
 exact⟨F,b,i⟩
structure qG (K:PySem.W.Frag) (mg:Str->Option Value) (nm:Str) (s:Stmt) (f:Addr) (ps:List Str):Prop where
 x:dU K nm nm s f ps
 m:mg nm=some (.ref f)
theorem qG.of {K:PySem.W.Frag} {mg:Str->Option Value} {nm:Str} {s:Stmt} {f:Addr} {ps:List Str} (m:mg nm=some (.ref f)) (x:dU K nm nm s f ps):qG K mg nm s f ps:=⟨x,m⟩
theorem gC {mg:Str->Option Value} {nm:Str} {u:Value} {v:V} (m:mg nm=some u) (r:RelV v u):∃u,mg nm=some u/\RelV v u:=⟨u,m,r⟩
theorem qG.F {K:PySem.W.Frag} {mg:Str->Option Value} {nm:Str} {s:Stmt} {f:Addr} {ps:List Str} (h:qG K mg nm s f ps):Vv K nm nm s f (fdOf K f):=h.x.F
theorem qG.b {K:PySem.W.Frag} {mg:Str->Option Value} {nm:Str} {s:Stmt} {f:Addr} {ps:List Str} (h:qG K mg nm s f ps):Binds K (fdOf K f) ps []:=h.x.b
noncomputable def MB (K:PySem.W.Frag) (C:Addr):List (Str×Addr)->Prop
 | []=>True
 | (m,f):: r=>PySem.W.findIn K (.ref C) m=some (some (.ref f))/\MB K C r
noncomputable def NB (K:PySem.W.Frag) (C:Addr):List Str->Prop
 | []=>True
 | f:: r=>PySem.W.findIn K (.ref C) f=some none/\NB K C r
structure JQ (K:PySem.W.Frag) (mg:Str->Option Value) (nm:Str) (C:Addr) (ms:List (Str×Addr)) (as:List Str):Prop where
 m:mg nm=some (.ref C)
 c:Qi K C
 mks:PySem.W.makesIn K C=true
 kp:PySem.W.keepIn K (.ref C)=true
 me:MB K C ms
 na:NB K C as
theorem JQ.M {K:PySem.W.Frag} {mg:Str->Option Value} {nm:Str} {C f:Addr} {ms:List (Str×Addr)} {as ps:List Str} {n q:Str} {s:Stmt} (h:JQ K mg nm C (("__init__",f):: ms) as) (x:dU K n q s f ps):Mk K C f:=⟨h.mks,h.me.1,x.i,h.kp⟩
theorem V8 {K:PySem.W.Frag} {nm qn:Str} {st:Stmt} {f:Addr} {x:Str} (F:Vv K nm qn st f (fdOf K f))
  (h:∀(kV doc pm:Value) (an:Option Addr) (cdv ct v:Value),bindArgs (PySem.W.fnOf nm qn (jG st) (iZ st) (bc st) .none kV doc pm an cdv ct) ⟨[v],[]⟩=pure [(x,v)]) (s:Shared) (v:Value):BindsTo s (fdOf K f) ⟨[v],[]⟩ [(x,v)]:=by
 obtain⟨oc,od,kV,doc,pm,an,cdv,ct,osl,e,lk,hcd⟩:=F.ex
 rw [e]
 exact .of_eq (h kV doc pm an cdv ct v)
theorem ZW {K:PySem.W.Frag} {h:Heap} {C f:Addr} (X:K.In h) (_:PySem.W.findIn K (.ref C) "__init__" =some (some (.ref f))) (b:Qn K C f=true):ExcAt K C:=(Dm.ofIn b).at X
theorem us_0 {α:Type} {P:List α->Prop} (h:P []):∀us:List α,us.length=0->P us
 | [],_=>h
theorem wQ {α:Type} {P:List α->Prop} (h:∀a,P [a]):∀us:List α,us.length=1->P us
 | [a],_=>h a
theorem yj {α:Type} {P:List α->Prop} (h:∀a b,P [a,b]):∀us:List α,us.length=2->P us
 | [a,b],_=>h a b
theorem FQ {α:Type} {P:List α->Prop} (h:∀a b c,P [a,b,c]):∀us:List α,us.length=3->P us
 | [a,b,c],_=>h a b c
theorem Us {α:Type} {P:List α->Prop} (h:∀a b c d,P [a,b,c,d]):∀us:List α,us.length=4->P us
 | [a,b,c,d],_=>h a b c d
theorem X6 {α:Type} {P:List α->Prop} (h:∀a b c d e,P [a,b,c,d,e]):∀us:List α,us.length=5->P us
 | [a,b,c,d,e],_=>h a b c d e
theorem Zb {α:Type} {P:List α->Prop} (h:∀a b c d e f,P [a,b,c,d,e,f]):∀us:List α,us.length=6->P us
 | [a,b,c,d,e,f],_=>h a b c d e f
theorem us_7 {α:Type} {P:List α->Prop} (h:∀a b c d e f g,P [a,b,c,d,e,f,g]):∀us:List α,us.length=7->P us
 | [a,b,c,d,e,f,g],_=>h a b c d e f g
theorem dU.sc {K:PySem.W.Frag} {nm qn:Str} {s:Stmt} {f:Addr} {ps:List Str} (_:dU K nm qn s f ps) (N:List Str) (h:gm N ps (bc s):=by exact⟨rfl,rfl,rfl,by decide +kernel,rfl,by decide +kernel,by decide +kernel⟩):gm N ps (bc s):=h
theorem qG.sc {K:PySem.W.Frag} {mg:Str->Option Value} {nm:Str} {s:Stmt} {f:Addr} {ps:List Str} (_:qG K mg nm s f ps) (N:List Str) (h:gm N ps (bc s):=by exact⟨rfl,rfl,rfl,by decide +kernel,rfl,by decide +kernel,by decide +kernel⟩):gm N ps (bc s):=h
noncomputable abbrev FO (P:Program) (w:World) (K:PySem.W.Frag) (mg:Str->Option Value) (base:Heap) (k:Nat) (f:Addr) (ps:List Str) (sp:Sp):Prop:=jB P w K mg base Ao k f (fdOf K f) ps sp
theorem J4 {N ps:List Str} {sc:Scope} (h:gm N ps sc:=by exact⟨rfl,rfl,rfl,by decide +kernel,rfl,by decide +kernel,by decide +kernel⟩):gm N ps sc:=h
section
variable {X:Cx} {k k' i:Nat} {f C:Addr} {ps as:List Str} {ms:List (Str×Addr)} {sp:Sp} {x m nm qn n:Str} {p pos apos pos':Pos} {e o:Expr} {es:List Expr} {ta te:TE} {t:TA} {s:Stmt} {N:List Str}
theorem fj (F:jB X.prog X.w X.K X.mg X.base Ao k f (fdOf X.K f) ps sp) (g:qG X.K X.mg x s f ps) (hr:jM k' X.A) (ha:PA X (e:: es) t) (hk:k<=k':=by decide) (hg:Gl X x:=by rfl)
  (hdb:(x == ("__debug__" :Str))=false:=by decide) (he:starEach (e:: es) X.env=(false,eval e X.env):: starEach es X.env:=by rfl) (hpl:(backTo pos (starEach es X.env)).any (·.1)=false:=by rfl):
  PE X (.Call (.Name x p) (e:: es) [] pos) (VH sp [] E0 t):=U8 F (hr.mono hk) hg g.m g.F.kp g.b .nil fQ ha hdb he hpl
theorem tD {pl:Sem Bool} (he:PE X o ta) (c:JQ X.K X.mg n C ms as) (hm:PySem.W.findIn X.K (.ref C) m=some (some (.ref f))) (F:jB X.prog X.w X.K X.mg X.base Ao k f (fdOf X.K f) ps sp) (g:dU X.K nm qn s f ps) (hr:jM k' X.A) (ha:PA X (e:: es) t)
  (hk:k<=k':=by decide) (hst:starEach (e:: es) X.env=(false,eval e X.env):: starEach es X.env:=by rfl) (hpl:(backTo pos (starEach es X.env)).any (·.1)=false:=by rfl)
  (ht:eval (.Call (.Attribute o m apos) (e:: es) [] pos) X.env=(do
   let ov <-eval o X.env
   standAt apos.atName
   let (f,first) <-holding [ov] (getMethod ov m pl)
   callWith pos f first (backTo pos (starEach (e:: es) X.env)) (backToKw pos (keywordEach [] X.env))):=by rfl):
  PE X (.Call (.Attribute o m apos) (e:: es) [] pos) (Ou C m sp [] E0 ta t):=Cy he c.c (g.me hm) F (hr.mono hk) g.b .nil fQ ha hst hpl ht
theorem J5 {pl:Sem Bool} (he:PE X o ta) (c:JQ X.K X.mg n C ms as) (hm:PySem.W.findIn X.K (.ref C) m=some (some (.ref f))) (F:jB X.prog X.w X.K X.mg X.base Ao k f (fdOf X.K f) ps sp) (g:dU X.K nm qn s f ps) (hr:jM k' X.A)
  (hk:k<=k':=by decide) (ht:eval (.Call (.Attribute o m apos) [] [] pos) X.env=(do
   let ov <-eval o X.env
   standAt apos.atName
   let (f,first) <-holding [ov] (getMethod ov m pl)
   callWith pos f first (backTo pos (starEach [] X.env)) (backToKw pos (keywordEach [] X.env))):=by rfl):
  PE X (.Call (.Attribute o m apos) [] [] pos) (Ou C m sp [] E0 ta Qw):=Rh he c.c (g.me hm) F (hr.mono hk) g.b .nil fQ ht
theorem gN {sc:Scope} (S:gm X.N ps sc) (i:Nat) (hi:X.N[i]?=some x:=by rfl) (hx:Loc X.env.scope x:=by first | exact Or.inl rfl | exact Or.inr rfl) (hf:X.fn x=true∨X.env.scope.names.lookup x=some .local:=by first | exact .inl rfl | exact .inr rfl | assumption):PG X (.Name x pos) (zq i):=jF S.nd hi hx hf
theorem sN {sc:Scope} (S:gm X.N ps sc) (i:Nat) (he:PE X e te) (hi:X.N[i]?=some x:=by rfl) (hx:Loc X.env.scope x:=by first | exact Or.inl rfl | exact Or.inr rfl) (hs:swapsWith e (some (.Name x pos')) pos.line X.env=pure false:=by rfl) (hf:X.fn x=true∨X.env.scope.names.lookup x=some .local:=by first | exact .inl rfl | exact .inr rfl | assumption):
  PS X (.Assign [.Name x pos'] e pos) (QG te (zq i)):=Wq S.nd hi hx he hs hf
theorem IK (h1:PE X o ta) (h2:PA X (e:: es) t) (hbase:attributeBase o "append" X.env (eval o X.env)=eval o X.env:=by rfl)
  (hfew:((backTo pos (starEach (e:: es) X.env)).all (fun x=>!x.1) && (backToKw pos (keywordEach [] X.env)).all (fun x=>x.1.isSome) && decide ((e:: es).length+([]:List Keyword).length+(if ([]:List Keyword).isEmpty then 0 else 1) <30))=true:=by rfl)
  (hline:(apos.endLine == pos.line)=true:=by rfl) (hs:starEach (e:: es) X.env=(false,eval e X.env):: starEach es X.env:=by rfl) (hplain:(backTo pos (starEach es X.env)).any (·.1)=false:=by rfl):
  PE X (.Call (.Attribute o "append" apos) (e:: es) [] pos) (ZQ X.K "list" Ol ta t):=Er PySem.F.plainAttrs_list PySem.F.slot_list_append PySem.F.type_list_append Pj h1 h2 hbase hfew hline hs hplain
end
theorem ln {sp:Sp} {ps:List Str} (h:∀vs H Q E,sp vs H Q E->vs.length=ps.length:=by
 intro _ _ _ _ h
 first
 | (cases h;subst_vars;rfl)
 | (cases h;rename_i h;cases h;subst_vars;rfl)
 | (obtain⟨_,rfl,_⟩:=h;rfl)
 | (obtain⟨_,_,rfl,_⟩:=h;rfl)
 | (obtain⟨_,_,_,rfl,_⟩:=h;rfl)):∀vs H Q E,sp vs H Q E->vs.length=ps.length:=h
end L2
namespace PySem
open PyProof.Rows
section
variable {prog:Program} {w:World} {A:Around} {R:Result->Shared->Prop} {I:Addr} {fp wr:List Addr} {G:Array GenState->Array GenState->Prop} {n:Nat} {P:Nat->Value->Prop} {St:Nat->Shared->Prop} {KK:Type} [DecidableEq KK] {knd:KeyKind prog w KK}
end
section
variable {prog:Program} {w:World} {A:Around} {E:Value->Shared->Prop} {s:Shared} {KK:Type} [DecidableEq KK] {knd:KeyKind prog w KK}
end
end PySem
namespace L2
open PySem PySem.Spec PyProof.Rows
theorem Qh {X:Cx} (hc:X.calm=true):lu X (.builtin "sum") (fun xs H Q=>∃(p:Addr) (ns:List Int),xs=[.ref p]/\bK X.K H p (ns.map V.int)/\(∀n∈ns,0<=n/\n<=1000000000)/\ns.length<=1000/\Q (.int ns.sum) H):=by
 intro pins s σ H xs us Q I r h
 obtain⟨p,ns,rfl,hq,hb,hz,q⟩:=h
 obtain⟨u,rfl,rx⟩:=vals1 r
 cases rx
 obtain⟨its,rv,pl,_⟩:=I.list hq
 have hl:=pl.isList
 have hlen:ns.length=its.length:=by have:=rv.length;rw [List.length_map] at this;exact this
 have hlt:p <s.heap.objs.size:=by obtain⟨_,e,_⟩:=hl;exact Heap.lt_size e
 have hv:∀i v,its[i]?=some v->∃t,v=Value.int (ns.getD i 0) t:=fun i v e=>by
  have hi:i <its.length:=(List.getElem?_eq_some_iff.mp e).1
  have hi':i <ns.length:=by omega
  obtain⟨u,e',r'⟩:=rv.get (i:=i) (x:=.int ns[i]) (by rw [List.getElem?_map,List.getElem?_eq_getElem hi'];rfl)
  rw [e] at e'
  cases e'
  obtain⟨t,rfl⟩:=r'
  exact⟨t,by rw [List.getD_eq_getElem?_getD,List.getElem?_eq_getElem hi'];rfl⟩
 have bound:∀n,n<=ns.length->0<=preSum (fun i=>ns.getD i 0) n/\preSum (fun i=>ns.getD i 0) n<=(n:Int) * 1000000000:=by
  intro n
  induction n with
  | zero=>intro _;simp [preSum]
  | succ n ih=>
   intro h
   obtain⟨h1,h2⟩:=ih (by omega)
   have hn:n <ns.length:=by omega
   have e:ns.getD n 0=ns[n]:=by rw [List.getD_eq_getElem?_getD,List.getElem?_eq_getElem hn];rfl
   obtain⟨b1,b2⟩:=hb ns[n] (List.getElem_mem hn)
   show 0<=preSum _ n+ns.getD n 0/\preSum _ n+ns.getD n 0<=_
   rw [e]
   have:((n+1:Nat):Int) * 1000000000=(n:Int) * 1000000000+1000000000:=by rw [Int.natCast_add,Int.add_mul];rfl
   omega
 refine call_sum_walk (wpAny_pyIter_list hl ?_)
 refine⟨s.heap.objs.size,[s.heap.objs.size,p],[s.heap.objs.size],its.toArray.size,_,_,fun i=>ns.getD i 0,rfl,Walks.list (A:=X.A.in1) (I.ok.hd hc) _ p (Nat.ne_of_lt hlt) its.toArray,
  ⟨⟨_,Heap.get?_push_size _ rfl,rfl,rfl⟩,hl.push _⟩,fun b hb=>?_,fun i v hP=>hv i v (by simpa using hP),fun j hj=>?_,fun h' tk t' hk=>?_⟩
 ·rw [Heap.size_push]
  rcases List.mem_cons.mp hb with rfl | hb
  ·exact Nat.lt_succ_self _
  ·have:b=p:=by simpa using hb
   subst this
   exact Nat.lt_succ_of_lt hlt
 ·have hj':j <ns.length:=by rw [List.size_toArray] at hj;omega
  have e:ns.getD j 0=ns[j]:=by rw [List.getD_eq_getElem?_getD,List.getElem?_eq_getElem hj'];rfl
  obtain⟨b1,b2⟩:=hb ns[j] (List.getElem_mem hj')
  obtain⟨c1,c2⟩:=bound (j+1) (by omega)
  have c3:((j+1:Nat):Int) * 1000000000<=1000 * 1000000000:=Int.mul_le_mul_of_nonneg_right (by omega) (by decide)
  refine⟨?_,?_⟩
  ·show InLong (ns.getD j 0)
   rw [e]
   unfold InLong
   omega
  ·unfold InLong
   omega
 ·rw [List.size_toArray,<-hlen,Bc ns _ (Nat.le_refl _),List.take_length]
  exact⟨.int _,H,I.kept (LSm.kept_iter hk),⟨_,rfl⟩,q⟩
end L2
namespace One
open PySem PySem.W PySem.Calls PyProof.Rows
def GR:Nat->BT->List Obj->BT
 | _,t,[]=>t
 | n,t,o:: r=>GR (n+1) (t.ins n o) r
def Ik:Nat->BT->List Obj->Bool
 | _,_,[]=>true
 | n,t,o:: r=>((t.ins n o).get n).isSome && Ik (n+1) (t.ins n o) r
theorem Hi {life:Life}:∀(l:List Obj) (n:Nat) (t:BT) (as:List Obj),absHeap t n life=⟨as.toArray,life⟩->Ik n t l=true->absHeap (GR n t l) (n+l.length) life=⟨(as ++ l).toArray,life⟩
 | [],n,t,as,h,_=>by simpa [GR] using h
 | o:: r,n,t,as,h,k=>by
  simp only [Ik,Bool.and_eq_true] at k
  have e:=absHeap_ins (life:=life) k.1
  rw [h] at e
  have:=Hi r (n+1) (t.ins n o) (as ++ [o]) (by rw [e];simp [Heap.push]) k.2
  rw [List.append_assoc] at this
  rw [List.length_cons,show n+(r.length+1)=n+1+r.length by omega]
  exact this
def Yt (tb:String->Option Builtin) (p:Program) (w:World) (m:Nat) (an:Option Value):Nat->SharedT->Thread->Option (SharedT×Thread)
 | 0,s,t=>some (s,t)
 | n+1,s,t=>match through t with
  | true=>some (s,t)
  | false=>match stepOk m an t with
   | false=>none
   | true=>match stepT (denote tb) p w s t with
    | some (s',t')=>Yt tb p w m an n s' t'
    | none=>none
theorem Sy {tb:String->Option Builtin} {p:Program} {w:World} {m:Nat} {an:Option Value}:∀{n:Nat} {s s':SharedT} {t t':Thread},Yt tb p w m an n s t=some (s',t')->through t'=true->topRun tb p w m an (n+1) s.abs t=some s'.abs
 | 0,s,s',t,t',h,z=>by
  obtain⟨rfl,rfl⟩:=Prod.mk.inj (Option.some.inj h)
  unfold topRun
  rw [z]
 | n+1,s,s',t,t',h,z=>by
  unfold Yt at h
  unfold topRun
  cases e1:through t with
  | true=>
   rw [e1] at h
   obtain⟨rfl,rfl⟩:=Prod.mk.inj (Option.some.inj h)
   rfl
  | false=>
   rw [e1] at h
   cases e2:stepOk m an t with
   | false=>rw [e2] at h;cases h
   | true=>
    rw [e2] at h
    cases e3:stepT (denote tb) p w s t with
    | none=>rw [e3] at h;cases h
    | some r=>
     obtain⟨s2,t2⟩:=r
     rw [e3] at h
     rw [stepT_spec e3]
     exact Sy h z
def ends (r:SharedT×Thread):Option SharedT:=match through r.2 with
 | true=>some r.1
 | false=>none
theorem Uo {tb:String->Option Builtin} {p:Program} {w:World} {m:Nat} {an:Option Value} {n:Nat} {s s':SharedT} {t:Thread} (h:(Yt tb p w m an n s t).bind ends=some s'):topRun tb p w m an (n+1) s.abs t=some s'.abs:=by
 obtain⟨⟨s2,t2⟩,e1,e2⟩:=Option.bind_eq_some_iff.mp h
 unfold ends at e2
 cases z:through t2 with
 | false=>simp only [z] at e2;cases e2
 | true=>
  simp only [z] at e2
  cases e2
  exact Sy e1 z
noncomputable def Xg (P:Params):Option Value:=(boot_heap P).nsMap mainGlobals "__annotations__"
noncomputable def S0 (w:World) (os:OsState):SharedT:=⟨GR 0 .nil (boot_heap w.params).objs.toList,11,{},Array.mk [],boot_drawn,boot_toks,os⟩
theorem Wf (w:World) (os:OsState):(S0 w os).abs=⟨boot_heap w.params,Array.mk [],boot_drawn,boot_toks,os⟩:=by
 have e:=Hi (life:={}) (boot_heap w.params).objs.toList 0 .nil [] rfl (by rfl)
 have e2:absHeap (GR 0 .nil (boot_heap w.params).objs.toList) 11 {}=boot_heap w.params:=e
 show(⟨absHeap (GR 0 .nil (boot_heap w.params).objs.toList) 11 {},_,_,_,_⟩:Shared)=_
 rw [e2]
 rfl
noncomputable def Wh (p:Program) (M:Nat) (w:World) (os:OsState):Option SharedT:=(Yt treeTable p w 11 (Xg w.params) M (S0 w os) (topStub p)).bind ends
noncomputable def Qt (p q:Program) (loose:List Str) (Xt:Shared->Bool) (M:Nat) (w:World) (os:OsState):=
 (Wh p M w os).map fun s=>(staticsOk (importedModules p.main.body) (boot_heap w.params) s.abs.heap && namesBound p s.abs.heap && gensDone s.abs && laidKept (boot_heap w.params) s.abs.heap,openSeen q loose (importedModules p.main.body) Xt true s.abs)
theorem Tw {p q:Program} {loose:List Str} {Xt:Shared->Bool} {α:Type} {Yf:Shared->α} {Ya:World->α} {N M:Nat} (e:opening p=plainProg p.main.scope.names) (hN:Nat.ble 600 N=true) (f:∀s,fenceModules? p s=some s) (le:Nat.ble (M+1) N=true)
  (A:∀w os,Qt p q loose Xt M w os=some (true,openGood q loose)) (B:∀w os,(Wh p M w os).map (fun s=>Yf s.abs)=some (Ya w)):LeftO p q loose Xt Yf Ya N:=fun w=>by
 obtain⟨⟨h,gs,d,k,os⟩,e1,e2⟩:=Option.map_eq_some_iff.mp (boot_open e hN f w)
 obtain⟨rfl,rfl,rfl,rfl⟩:h=boot_heap w.params/\gs=Array.mk []/\d=boot_drawn/\k=boot_toks:=by simpa using e2
 obtain⟨s1,r1,l1⟩:=Option.map_eq_some_iff.mp (A w os)
 obtain⟨s2,r2,l2⟩:=Option.map_eq_some_iff.mp (B w os)
 rw [r1] at r2
 cases r2
 obtain⟨l3,l4⟩:=Prod.mk.inj l1
 have r3:=Uo r1
 rw [Wf] at r3
 have r4:=topRun_mono (N - (M+1)) _ _ _ _ r3
 rw [show M+1+(N - (M+1))=N by have:=Nat.le_of_ble_eq_true le;omega] at r4
 have t:topFrom treeTable p w N ⟨boot_heap w.params,Array.mk [],boot_drawn,boot_toks,os⟩=some s1.abs:=by
  unfold topFrom
  have z1:((boot_heap w.params).isNs mainGlobals && (Array.mk []:Array GenState).size == 0)=true:=by kernel_rfl
  dsimp only
  rw [z1]
  show((topRun treeTable p w 11 (Xg w.params) N _ _).bind _)=_
  rw [r4]
  show(match staticsOk (importedModules p.main.body) (boot_heap w.params) s1.abs.heap && namesBound p s1.abs.heap && gensDone s1.abs && laidKept (boot_heap w.params) s1.abs.heap with | true=>_ | false=>_)=_
  rw [l3]
 unfold openEnds
 rw [e1]
 show(topFrom treeTable p w N _).map _=_
 rw [t]
 exact congrArg some (Prod.ext l4 l2)
def yU (s:SharedT) (a:Addr):Option Obj:=match Nat.blt a s.n with
 | true=>(match s.tree.get a with | some o=>alive o | none=>none)
 | false=>none
theorem SQ {s:SharedT} {a:Addr} {o:Obj} (h:yU s a=some o):s.abs.heap.get? a=some o:=by
 unfold yU at h
 cases e:Nat.blt a s.n with
 | false=>rw [e] at h;cases h
 | true=>
  rw [e] at h
  cases g:s.tree.get a with
  | none=>rw [g] at h;cases h
  | some x=>
   rw [g] at h
   exact(abs_get (Nat.le_of_ble_eq_true e) g).trans h
theorem Ov {s:SharedT}:∀{as:List Addr} {l:List (Addr×Obj)},as.map (yU s)=l.map (fun p=>some p.2)->as.map s.abs.heap.get?=l.map fun p=>some p.2
 | [],[],_=>rfl
 | [],_:: _,h=>by cases h
 | _:: _,[],h=>by cases h
 | a:: as,x:: l,h=>by
  have h1:=List.cons.inj h
  show s.abs.heap.get? a:: as.map _=_
  rw [SQ h1.1,Ov h1.2]
  rfl
theorem chunk {o:Option SharedT} {as:List Addr} {l:List (Addr×Obj)} (n:Nat) (h1:o.map (fun s=>(as.take n).map (yU s))=some ((l.take n).map fun p=>some p.2)) (h2:o.map (fun s=>(as.drop n).map (yU s))=some ((l.drop n).map fun p=>some p.2)):
  o.map (fun s=>as.map (yU s))=some (l.map fun p=>some p.2):=by
 obtain⟨s,e1,e2⟩:=Option.map_eq_some_iff.mp h1
 subst e1
 have e3:=Option.some.inj h2
 show some (as.map (yU s))=_
 rw [<-List.take_append_drop n as,<-List.take_append_drop n l,List.map_append,List.map_append]
 exact congrArg some (congr (congrArg _ e2) e3)
theorem Uv {o:Option SharedT} {w:World} {K:Params->Frag} {as:List Addr} {e:∀P,as=(K P).map (·.1)} (h:o.map (fun s=>as.map (yU s))=some ((K w.params).map fun p=>some p.2)):
  o.map (fun s=>Hook.obs (kHook K as e) s.abs)=some (Hook.val (kHook K as e) w):=by
 obtain⟨s,h1,h2⟩:=Option.map_eq_some_iff.mp h
 rw [h1]
 exact congrArg some (Ov h2)
end One
namespace HD
open PySem PySem.W PySem.Calls PyProof.Rows
abbrev rr:OpenRow:=OpenLaw.row PySem.Challenge.rw_holdlane_k46_written_down_and_gone_on
def q:Program:=view PySem.Challenge.pw_holdlane_k46_written_down_and_gone_on [81]
def loose:List PySem.Str:=(["_wall", "LaneError", "TooMany", "NoKind", "BadName", "Doubled", "NoSuch", "BadNumbers", "BadLanes", "BadRoom", "Open", "Loose", "BadRow", "Flow", "VALUES", "FIGURES"]:List PySem.Str) ++ (["LETTERS", "LONGEST_NAME", "is_whole", "is_value", "is_name", "rest", "COUNTS", "Part", "Give", "Take", "Pass", "Copy", "Turn", "Heap", "Add", "Less"]:List PySem.Str) ++ (["Order", "Choose", "Split", "is_kind", "need_fit", "made_of", "part_made", "MOST_LANES", "MOST_PARTS", "MOST_ROOM", "need_counts", "need_fresh", "need_lane", "fresh_part", "tie_lanes", "need_ends"]:List PySem.Str) ++ (["joined_with", "need_joined", "row_of", "Net", "LONGEST_ROW", "is_row", "need_rows", "Run", "_law_cell", "_law_mix", "_law_value", "_law_word", "_law_lane", "_law_part", "_law_pick", "_law_two"]:List PySem.Str) ++ (["_law_loop", "_law_step", "_law_closed", "_law_net", "_law_doors", "_law_lists", "_law_due", "_law_held", "_law_alike"]:List PySem.Str)
def Xt (s:Shared):Bool:=xlAt q [] s && recOk (RowW.records (OpenRow.toRowW (OpenLaw.row PySem.Challenge.rw_holdlane_k46_written_down_and_gone_on))) s
structure KA where
 K:Params->Frag
 as:List Addr
def pickK {r:OpenRow} {K:Params->Frag} {as:List Addr} (_:(∀H:Hook,(∃e,H=kHook K as e)->r.Holds)->r.Holds):KA:=⟨K,as⟩
local macro_rules | `(tactic| o_head $H)=>`(tactic| (rename_i hh;exact hh $H ⟨_,rfl⟩))
noncomputable def ka:KA:=pickK (r:=rr) (fun _=>by k_head)
theorem Tq (P:Params):KA.as ka=(ka.heap_1 P).map (·.1):=by kernel_rfl
noncomputable def runC:World->OsState->Option SharedT:=fun w os=>One.Wh PySem.Challenge.pw_holdlane_k46_written_down_and_gone_on 14060 w os
noncomputable def Ii:=fun(w:World) (os:OsState)=>One.Qt PySem.Challenge.pw_holdlane_k46_written_down_and_gone_on q loose Xt 14060 w os
noncomputable def NQ:=some (true,openGood q loose)
theorem Wj:runC=runC:=rfl
name_quick runQ for HD.runC by HD.Wj
theorem Q4:Ii=Ii:=rfl
name_quick looksQ for HD.Ii by HD.Q4
theorem Tt:NQ=NQ:=rfl
name_quick goodQ for HD.NQ by HD.Tt
theorem A0 (w:World) (os:OsState):PySem.W.Fast.looksQ (w.withFollow "special-get-raises" false) os=PySem.W.Fast.goodQ:=by kernel_rfl
theorem Zg (w:World) (os:OsState):(PySem.W.Fast.runQ (w.withFollow "special-get-raises" false) os).map (fun s=>(KA.as ka).map (One.yU s))=some ((ka.heap_1 (w.withFollow "special-get-raises" false).params).map fun p=>some p.2):=by kernel_rfl
theorem B0 (w:World) (os:OsState):(PySem.W.Fast.runQ (w.withFollow "special-get-raises" false) os).map (fun s=>(KA.as ka).map (One.yU s))=some ((ka.heap_1 (w.withFollow "special-get-raises" false).params).map fun p=>some p.2):=Zg w os
theorem A1 (w:World) (os:OsState):PySem.W.Fast.looksQ (w.withFollow "special-get-raises" true) os=PySem.W.Fast.goodQ:=by kernel_rfl
theorem Zw (w:World) (os:OsState):(PySem.W.Fast.runQ (w.withFollow "special-get-raises" true) os).map (fun s=>(KA.as ka).map (One.yU s))=some ((ka.heap_1 (w.withFollow "special-get-raises" true).params).map fun p=>some p.2):=by kernel_rfl
theorem B1 (w:World) (os:OsState):(PySem.W.Fast.runQ (w.withFollow "special-get-raises" true) os).map (fun s=>(KA.as ka).map (One.yU s))=some ((ka.heap_1 (w.withFollow "special-get-raises" true).params).map fun p=>some p.2):=Zw w os
theorem A (w:World):∀os,Ii w os=NQ:=by
 rw [PySem.W.Fast.looksQ_eq,PySem.W.Fast.goodQ_eq]
 exact byRow2 "special-get-raises" (P:=fun w=>∀os,PySem.W.Fast.looksQ w os=PySem.W.Fast.goodQ) A0 A1 w
theorem B (w:World):∀os,(runC w os).map (fun s=>(KA.as ka).map (One.yU s))=some ((ka.heap_1 w.params).map fun p=>some p.2):=by
 rw [PySem.W.Fast.runQ_eq]
 exact byRow2 "special-get-raises" (P:=fun w=>∀os,(PySem.W.Fast.runQ w os).map (fun s=>(KA.as ka).map (One.yU s))=some ((ka.heap_1 w.params).map fun p=>some p.2)) B0 B1 w
theorem head {d:DefRec} {kwd:List (PySem.Str×Expr)}
  (hdef:defOf q rr.name=some (d,kwd)) (hp:rr.prog.theDef rr.name=some (d.params,d.body,d.scope)) (hk:kwWritten? d.params.kwonlyargs d.params.kw_defaults=some kwd) (hwr:(!rr.writes || rr.records.isEmpty)=true)
  (k1:rr.wellSaid=true) (ok:(chainsOk q && opensWell rr.prog && (frees rr.toRowW && rr.within.isEmpty))=true) (hb:rr.prog.bare) (ho:opening PySem.Challenge.pw_holdlane_k46_written_down_and_gone_on=plainProg (PySem.Challenge.pw_holdlane_k46_written_down_and_gone_on).main.scope.names) (f:∀s,fenceModules? PySem.Challenge.pw_holdlane_k46_written_down_and_gone_on s=some s)
  (hw:rr.toRowW.promised) (hc:WalkO q loose (XL q []) (Hook.says (kHook ka.heap_1 (KA.as ka) Tq)) rr.toRowW d kwd fun f vs=>PySem.call f vs):rr.Holds:=by
 have left:LeftO PySem.Challenge.pw_holdlane_k46_written_down_and_gone_on q loose Xt (Hook.obs (kHook ka.heap_1 (KA.as ka) Tq)) (Hook.val (kHook ka.heap_1 (KA.as ka) Tq)) 28700:=One.Tw (M:=14060) ho rfl f rfl A fun w os=>One.Uv (B w os)
 exact holds_open (XP:=XL q []) (YP:=Hook.says (kHook ka.heap_1 (KA.as ka) Tq)) left (Hook.of _) (Hook.keeps _) (fun s z=>xl_of s (Bool.and_eq_true_iff.mp z).1) XL.keeps hdef hp hk (fun s z=>recFacts_of (Bool.and_eq_true_iff.mp z).2) hwr k1 ok hb hw hc
end HD
namespace K46
open PySem L2
theorem lM {α β:Type} {f:α->β} {l:List α}:(l.map f).length=l.length:=List.length_map ..
theorem lP {α:Type} {l m:List α}:(l ++ m).length=l.length+m.length:=List.length_append ..
theorem jt {n:Nat} (h:Nat.ble n 16777216=true:=by rfl):n<=sizeLine:=by rw [sizeLine_eq];exact Nat.le_of_ble_eq_true h
noncomputable def top (i:Nat):Stmt:=PySem.Challenge.pw_holdlane_k46_written_down_and_gone_on.main.body.getD i (.Pass ⟨0,0,0,0⟩)
set_option genInjectivity false in
structure jL where
 (Ds Ed cj vm vY vJ vC uT uR xU wk uh rY ur GD Ey Gm BZ Sv cZ ou dh dF uo bT j5 rF rO rG rW tW rJ qg oR ql rD rZ DY Bm zV BJ Bd Bp Ce Dd Cd Bu xn En GQ wV yz BL zb Bo Ci xr wZ lW lQ jN wy uP jA rU qu rK Kq xT qe tG oG uK lL uf p7 wg zY oM oA oJ wz qt xV lZ xY K8 BK qp Am oK oN qi rE zG zX Ew Bb zT VG Nf Mq Nk Np LR Jh Ra Mz Jz Fp Ie dR cL oY yQ:Addr)
noncomputable abbrev ROWS:List (Str×List Int):=[("give",[0,0,1]),("take",[0,1,0]),("pass",[0,1,1]),("copy",[0,1,2]),("turn",[2,1,1]),("heap",[1,1,1]),("add",[0,2,1]),("less",[0,2,1]),("order",[0,2,2]),("choose",[0,3,1]),("split",[0,2,2])]
structure Txt (w:World) (K:PySem.W.Frag) (mg:Str->Option Value) (t:jL):Prop where
 iT:JQ K mg "Give" t.Nf [("__init__",t.cj),("kind",t.vm),("taking",t.cZ),("lacks",t.dh),("worked",t.rD),("start",t.dF),("with_memory",t.bT)] ["name", "numbers", "ins", "outs"]
 jc:JQ K mg "Take" t.Mq [("__init__",t.cj),("kind",t.vY),("taking",t.cZ),("lacks",t.dh),("worked",t.rZ),("start",t.dF),("with_memory",t.bT)] ["name", "numbers", "ins", "outs"]
 iH:JQ K mg "Pass" t.Nk [("__init__",t.cj),("kind",t.vJ),("taking",t.cZ),("lacks",t.dh),("worked",t.rF),("start",t.dF),("with_memory",t.bT)] ["name", "numbers", "ins", "outs"]
 je:JQ K mg "Copy" t.Np [("__init__",t.cj),("kind",t.vC),("taking",t.cZ),("lacks",t.dh),("worked",t.rO),("start",t.dF),("with_memory",t.bT)] ["name", "numbers", "ins", "outs"]
 iQ:JQ K mg "Turn" t.LR [("__init__",t.cj),("kind",t.uT),("taking",t.cZ),("lacks",t.dh),("worked",t.rG),("start",t.dF),("with_memory",t.bT)] ["name", "numbers", "ins", "outs"]
 gH:JQ K mg "Heap" t.Jh [("__init__",t.cj),("kind",t.uR),("taking",t.cZ),("lacks",t.dh),("worked",t.rW),("start",t.uo),("with_memory",t.j5)] ["name", "numbers", "ins", "outs"]
 lC:JQ K mg "Add" t.Ra [("__init__",t.cj),("kind",t.xU),("taking",t.cZ),("lacks",t.dh),("worked",t.tW),("start",t.dF),("with_memory",t.bT)] ["name", "numbers", "ins", "outs"]
 iR:JQ K mg "Less" t.Mz [("__init__",t.cj),("kind",t.wk),("taking",t.cZ),("lacks",t.dh),("worked",t.rJ),("start",t.dF),("with_memory",t.bT)] ["name", "numbers", "ins", "outs"]
 fM:JQ K mg "Order" t.Jz [("__init__",t.cj),("kind",t.uh),("taking",t.cZ),("lacks",t.dh),("worked",t.qg),("start",t.dF),("with_memory",t.bT)] ["name", "numbers", "ins", "outs"]
 d9:JQ K mg "Choose" t.Fp [("__init__",t.cj),("kind",t.rY),("taking",t.ou),("lacks",t.dh),("worked",t.oR),("start",t.dF),("with_memory",t.bT)] ["name", "numbers", "ins", "outs"]
 fP:JQ K mg "Split" t.Ie [("__init__",t.cj),("kind",t.ur),("taking",t.cZ),("lacks",t.dh),("worked",t.ql),("start",t.dF),("with_memory",t.bT)] ["name", "numbers", "ins", "outs"]
 aU:JQ K mg "Net" t.dR [("__init__",t.qe),("lane_names",t.lW),("part_names",t.lQ),("names_of_kind",t.jN),("gives",t.wy),("takes",t.uP),("need_lane_name",t.jA),("room_of",t.rU),("first_of",t.qu),("part_of",t.rK),("told",t.xT)] ["rooms", "firsts", "parts", "givers", "takers"]
 aR:JQ K mg "Flow" t.cL [("__init__",t.oM),("holds",t.tG),("held_now",t.oG),("head",t.uK),("row_ended",t.lL),("heads",t.uf),("lacking",t.p7),("deed",t.wg),("do",t.zY),("row_left",t.oK)] ["net", "ever", "gone", "kept", "done", "rows"]
 bB:JQ K mg "Run" t.oY [("__init__",t.qp),("full_lane",t.oA),("next_deed",t.oJ),("need_doors",t.lZ),("step",t.xY),("works",t.wz),("lane_now",t.qt),("turn",t.xV),("had",t.Am),("rows_left",t.oN),("part_now",t.qi),("net_now",t.rE)] ["net", "flow", "turns"]
 ux:qG K mg "is_whole" (top 21) t.Ds ["thing"]
 pX:qG K mg "is_value" (top 22) t.Ed ["thing"]
 bh:dU K "__init__" "Part.__init__" (inClass (top 27) 0) t.cj ["self", "name", "numbers", "ins", "outs"]
 qX:dU K "kind" "Give.kind" (inClass (top 28) 0) t.vm ["self"]
 qY:dU K "kind" "Take.kind" (inClass (top 29) 0) t.vY ["self"]
 qT:dU K "kind" "Pass.kind" (inClass (top 30) 0) t.vJ ["self"]
 qK:dU K "kind" "Copy.kind" (inClass (top 31) 0) t.vC ["self"]
 qP:dU K "kind" "Turn.kind" (inClass (top 32) 0) t.uT ["self"]
 rn:dU K "kind" "Heap.kind" (inClass (top 33) 0) t.uR ["self"]
 ue:dU K "kind" "Add.kind" (inClass (top 34) 0) t.xU ["self"]
 rB:dU K "kind" "Less.kind" (inClass (top 35) 0) t.wk ["self"]
 pJ:dU K "kind" "Order.kind" (inClass (top 36) 0) t.uh ["self"]
 mH:dU K "kind" "Choose.kind" (inClass (top 37) 0) t.rY ["self"]
 pB:dU K "kind" "Split.kind" (inClass (top 38) 0) t.ur ["self"]
 wD:qG K mg "is_kind" (top 39) t.GD ["word"]
 yg:qG K mg "need_fit" (top 40) t.Ey ["kind", "name", "numbers", "ins", "outs"]
 Aq:qG K mg "made_of" (top 41) t.Gm ["kind", "name", "numbers", "ins", "outs"]
 Br:qG K mg "part_made" (top 42) t.BZ ["kind", "name", "numbers", "ins", "outs"]
 Ef:qG K mg "rest" (top 24) t.Sv ["number"]
 bI:dU K "taking" "Part.taking" (inClass (top 27) 4) t.cZ ["self", "heads"]
 jW:dU K "taking" "Choose.taking" (inClass (top 37) 1) t.ou ["self", "heads"]
 bJ:dU K "lacks" "Part.lacks" (inClass (top 27) 3) t.dh ["self", "heads"]
 bO:dU K "start" "Part.start" (inClass (top 27) 2) t.dF ["self"]
 o8:dU K "start" "Heap.start" (inClass (top 33) 1) t.uo ["self"]
 aY:dU K "with_memory" "Part.with_memory" (inClass (top 27) 6) t.bT ["self", "kept"]
 iV:dU K "with_memory" "Heap.with_memory" (inClass (top 33) 3) t.j5 ["self", "kept"]
 mO:dU K "worked" "Pass.worked" (inClass (top 30) 1) t.rF ["self", "values", "kept"]
 mz:dU K "worked" "Copy.worked" (inClass (top 31) 1) t.rO ["self", "values", "kept"]
 mq:dU K "worked" "Turn.worked" (inClass (top 32) 1) t.rG ["self", "values", "kept"]
 mW:dU K "worked" "Heap.worked" (inClass (top 33) 2) t.rW ["self", "values", "kept"]
 pK:dU K "worked" "Add.worked" (inClass (top 34) 1) t.tW ["self", "values", "kept"]
 mF:dU K "worked" "Less.worked" (inClass (top 35) 1) t.rJ ["self", "values", "kept"]
 lB:dU K "worked" "Order.worked" (inClass (top 36) 1) t.qg ["self", "values", "kept"]
 jX:dU K "worked" "Choose.worked" (inClass (top 37) 2) t.oR ["self", "values", "kept"]
 lD:dU K "worked" "Split.worked" (inClass (top 38) 1) t.ql ["self", "values", "kept"]
 mJ:dU K "worked" "Give.worked" (inClass (top 28) 1) t.rD ["self", "values", "kept"]
 mL:dU K "worked" "Take.worked" (inClass (top 29) 1) t.rZ ["self", "values", "kept"]
 bC:qG K mg "_law_mix" (top 65) t.DY ["_law_cell_here", "_law_k"]
 gA:qG K mg "_law_cell" (top 64) t.Bm ["_law_script", "_law_k"]
 iI:qG K mg "_law_value" (top 66) t.zV ["_law_cell_here", "_law_k"]
 km:qG K mg "_law_word" (top 67) t.BJ ["_law_cell_here", "_law_k"]
 jy:qG K mg "_law_lane" (top 68) t.Bd ["_law_state", "_law_cell_here", "_law_back"]
 nY:qG K mg "_law_pick" (top 70) t.Bp ["_law_state", "_law_number"]
 cX:qG K mg "_law_part" (top 69) t.Ce ["_law_state", "_law_cell_here", "_law_kind", "_law_numbers", "_law_ins", "_law_many"]
 xW:qG K mg "_law_two" (top 71) t.Dd ["_law_state", "_law_cell_here", "_law_one", "_law_odd"]
 vH:qG K mg "_law_loop" (top 72) t.Cd ["_law_state", "_law_cell_here", "_law_one"]
 vz:qG K mg "_law_step" (top 73) t.Bu ["_law_state", "_law_cell_here", "_law_odd"]
 rH:qG K mg "_law_closed" (top 74) t.xn ["_law_state", "_law_cell_here", "_law_back"]
 yh:qG K mg "_law_net" (top 75) t.En ["_law_script", "_law_start", "_law_steps", "_law_odd"]
 Ah:qG K mg "is_name" (top 23) t.GQ ["thing"]
 rT:qG K mg "need_counts" (top 47) t.wV ["lanes", "parts"]
 ph:qG K mg "need_fresh" (top 48) t.yz ["name", "known"]
 vX:qG K mg "need_lane" (top 49) t.BL ["name", "room", "first"]
 tZ:qG K mg "fresh_part" (top 50) t.zb ["row", "known"]
 qM:qG K mg "tie_lanes" (top 51) t.Bo ["part", "lanes", "rooms", "ends"]
 wA:qG K mg "need_ends" (top 52) t.Ci ["rooms", "givers", "takers"]
 rN:qG K mg "joined_with" (top 53) t.xr ["part", "givers", "takers"]
 rQ:qG K mg "need_joined" (top 54) t.wZ ["names", "givers", "takers"]
 iD:dU K "lane_names" "Net.lane_names" (inClass (top 56) 1) t.lW ["self"]
 fV:dU K "part_names" "Net.part_names" (inClass (top 56) 2) t.lQ ["self"]
 gW:dU K "names_of_kind" "Net.names_of_kind" (inClass (top 56) 5) t.jN ["self", "kind"]
 kI:dU K "gives" "Net.gives" (inClass (top 56) 3) t.wy ["self"]
 vB:dU K "takes" "Net.takes" (inClass (top 56) 4) t.uP ["self"]
 dJ:dU K "need_lane_name" "Net.need_lane_name" (inClass (top 56) 12) t.jA ["self", "name"]
 mU:dU K "room_of" "Net.room_of" (inClass (top 56) 7) t.rU ["self", "name"]
 qx:dU K "first_of" "Net.first_of" (inClass (top 56) 8) t.qu ["self", "name"]
 gM:dU K "part_of" "Net.part_of" (inClass (top 56) 11) t.rK ["self", "name"]
 zc:qG K mg "row_of" (top 55) t.Kq ["part"]
 ug:dU K "told" "Net.told" (inClass (top 56) 13) t.xT ["self"]
 iC:dU K "__init__" "Net.__init__" (inClass (top 56) 0) t.qe ["self", "lanes", "parts"]
 pL:dU K "holds" "Flow.holds" (inClass (top 15) 1) t.tG ["self", "lane"]
 oV:dU K "held_now" "Flow.held_now" (inClass (top 15) 2) t.oG ["self", "lane"]
 uI:dU K "head" "Flow.head" (inClass (top 15) 5) t.uK ["self", "lane"]
 lX:dU K "row_ended" "Flow.row_ended" (inClass (top 15) 8) t.lL ["self", "name"]
 pH:dU K "heads" "Flow.heads" (inClass (top 15) 6) t.uf ["self", "part"]
 qj:dU K "lacking" "Flow.lacking" (inClass (top 15) 7) t.p7 ["self", "name"]
 v9:dU K "deed" "Flow.deed" (inClass (top 15) 9) t.wg ["self", "name"]
 Ac:dU K "do" "Flow.do" (inClass (top 15) 10) t.zY ["self", "name", "deed"]
 jY:dU K "__init__" "Flow.__init__" (inClass (top 15) 0) t.oM ["self", "net", "rows"]
 oW:dU K "full_lane" "Run.full_lane" (inClass (top 62) 4) t.oA ["self", "deed"]
 n6:dU K "next_deed" "Run.next_deed" (inClass (top 62) 3) t.oJ ["self", "name"]
 qN:dU K "works" "Run.works" (inClass (top 62) 6) t.wz ["self", "name"]
 fX:dU K "lane_now" "Run.lane_now" (inClass (top 62) 8) t.qt ["self", "name"]
 ym:dU K "turn" "Run.turn" (inClass (top 62) 10) t.xV ["self"]
 lU:dU K "need_doors" "Run.need_doors" (inClass (top 62) 2) t.lZ ["self", "names"]
 jZ:Xc K "step" "Run.step" (inClass (top 62) 1) t.xY ["self", "held"]
 Dq:qG K mg "is_row" (top 59) t.K8 ["thing"]
 uJ:qG K mg "need_rows" (top 60) t.BK ["net", "rows"]
 ie:dU K "__init__" "Run.__init__" (inClass (top 62) 0) t.qp ["self", "net", "rows"]
 pP:dU K "had" "Run.had" (inClass (top 62) 9) t.Am ["self", "name"]
 oE:dU K "row_left" "Flow.row_left" (inClass (top 15) 4) t.oK ["self", "door"]
 oU:dU K "rows_left" "Run.rows_left" (inClass (top 62) 13) t.oN ["self"]
 pY:dU K "part_now" "Run.part_now" (inClass (top 62) 12) t.qi ["self", "name"]
 rM:dU K "net_now" "Run.net_now" (inClass (top 62) 11) t.rE ["self"]
 tK:qG K mg "_law_doors" (top 76) t.zG ["_law_script", "_law_parts", "_law_many"]
 pC:qG K mg "_law_lists" (top 77) t.zX ["_law_told"]
 ye:qG K mg "_law_due" (top 78) t.Ew ["_law_run", "_law_lanes", "_law_parts"]
 uN:qG K mg "_law_held" (top 79) t.Bb ["_law_script", "_law_doors_here", "_law_cell_here", "_law_seldom"]
 ut:qG K mg "_law_alike" (top 80) t.zT ["_law_run", "_law_other", "_law_lanes", "_law_gone"]
 N6:qG K mg "law" (top 81) t.VG ["_law_script"]
 G9:mg "COUNTS" =some (.ref t.yQ)
 Km:KTab w K t.yQ ROWS
 Oa:mg "all" =none
 WM:mg "bool" =none
 vQ:mg "enumerate" =none
 XQ:mg "int" =none
 pq:mg "isinstance" =none
 gh:mg "len" =none
 j7:mg "list" =none
 Qy:mg "max" =none
 YC:mg "min" =none
 pG:mg "range" =none
 JW:mg "sorted" =none
 Vm:mg "str" =none
 XD:mg "sum" =none
 Cz:mg "tuple" =none
 Kg:∃u,mg "VALUES" =some u/\RelV (.int 1000000000) u
 Hz:∃u,mg "LETTERS" =some u/\RelV (.str "abcdefghijklmnopqrstuvwxyz") u
 Ft:∃u,mg "LONGEST_NAME" =some u/\RelV (.int 8) u
 O9:∃u,mg "FIGURES" =some u/\RelV (.str "0123456789") u
 HS:∃u,mg "MOST_LANES" =some u/\RelV (.int 24) u
 Je:∃u,mg "MOST_PARTS" =some u/\RelV (.int 16) u
 K6:∃u,mg "MOST_ROOM" =some u/\RelV (.int 199) u
 Gb:∃u,mg "LONGEST_ROW" =some u/\RelV (.int 300) u
section
variable {P:Program} {w:World} {K:PySem.W.Frag} {mg:Str->Option Value} {base:Heap} {t:jL}
noncomputable def cT (i:Nat):Str:=match i with
 | 0=> "give"
 | 1=> "take"
 | 2=> "pass"
 | 3=> "copy"
 | 4=> "turn"
 | 5=> "heap"
 | 6=> "add"
 | 7=> "less"
 | 8=> "order"
 | 9=> "choose"
 | _=> "split"
noncomputable def cN (i:Nat):Nat:=match i with
 | 0=>0
 | 1=>0
 | 2=>0
 | 3=>0
 | 4=>2
 | 5=>1
 | 6=>0
 | 7=>0
 | 8=>0
 | 9=>0
 | _=>0
noncomputable def cI (i:Nat):Nat:=match i with
 | 0=>0
 | 1=>1
 | 2=>1
 | 3=>1
 | 4=>1
 | 5=>1
 | 6=>2
 | 7=>2
 | 8=>2
 | 9=>3
 | _=>2
noncomputable def cO (i:Nat):Nat:=match i with
 | 0=>1
 | 1=>0
 | 2=>1
 | 3=>2
 | 4=>1
 | 5=>1
 | 6=>1
 | 7=>1
 | 8=>2
 | 9=>1
 | _=>2
noncomputable def cls (t:jL) (i:Nat):Addr:=match i with
 | 0=>t.Nf
 | 1=>t.Mq
 | 2=>t.Nk
 | 3=>t.Np
 | 4=>t.LR
 | 5=>t.Jh
 | 6=>t.Ra
 | 7=>t.Mz
 | 8=>t.Jz
 | 9=>t.Fp
 | _=>t.Ie
theorem row_of (i:Nat):rowOf ROWS (cT i)=some [((cN i:Nat):Int),((cI i:Nat):Int),((cO i:Nat):Int)]:=match i with
 | 0=>by show rowOf ROWS "give" =some [0,0,1];decide +kernel
 | 1=>by show rowOf ROWS "take" =some [0,1,0];decide +kernel
 | 2=>by show rowOf ROWS "pass" =some [0,1,1];decide +kernel
 | 3=>by show rowOf ROWS "copy" =some [0,1,2];decide +kernel
 | 4=>by show rowOf ROWS "turn" =some [2,1,1];decide +kernel
 | 5=>by show rowOf ROWS "heap" =some [1,1,1];decide +kernel
 | 6=>by show rowOf ROWS "add" =some [0,2,1];decide +kernel
 | 7=>by show rowOf ROWS "less" =some [0,2,1];decide +kernel
 | 8=>by show rowOf ROWS "order" =some [0,2,2];decide +kernel
 | 9=>by show rowOf ROWS "choose" =some [0,3,1];decide +kernel
 | n+10=>by show rowOf ROWS "split" =some [0,2,2];decide +kernel
theorem eN (T:Txt w K mg t) (i:Nat):Qi K (cls t i):=match i with
 | 0=>T.iT.c
 | 1=>T.jc.c
 | 2=>T.iH.c
 | 3=>T.je.c
 | 4=>T.iQ.c
 | 5=>T.gH.c
 | 6=>T.lC.c
 | 7=>T.iR.c
 | 8=>T.fM.c
 | 9=>T.d9.c
 | n+10=>T.fP.c
theorem tY (T:Txt w K mg t) (i:Nat):p8 K (cls t i) "name" :=match i with
 | 0=>T.iT.na.1
 | 1=>T.jc.na.1
 | 2=>T.iH.na.1
 | 3=>T.je.na.1
 | 4=>T.iQ.na.1
 | 5=>T.gH.na.1
 | 6=>T.lC.na.1
 | 7=>T.iR.na.1
 | 8=>T.fM.na.1
 | 9=>T.d9.na.1
 | n+10=>T.fP.na.1
theorem lY (T:Txt w K mg t) (i:Nat):p8 K (cls t i) "numbers" :=match i with
 | 0=>T.iT.na.2.1
 | 1=>T.jc.na.2.1
 | 2=>T.iH.na.2.1
 | 3=>T.je.na.2.1
 | 4=>T.iQ.na.2.1
 | 5=>T.gH.na.2.1
 | 6=>T.lC.na.2.1
 | 7=>T.iR.na.2.1
 | 8=>T.fM.na.2.1
 | 9=>T.d9.na.2.1
 | n+10=>T.fP.na.2.1
theorem tH (T:Txt w K mg t) (i:Nat):p8 K (cls t i) "ins" :=match i with
 | 0=>T.iT.na.2.2.1
 | 1=>T.jc.na.2.2.1
 | 2=>T.iH.na.2.2.1
 | 3=>T.je.na.2.2.1
 | 4=>T.iQ.na.2.2.1
 | 5=>T.gH.na.2.2.1
 | 6=>T.lC.na.2.2.1
 | 7=>T.iR.na.2.2.1
 | 8=>T.fM.na.2.2.1
 | 9=>T.d9.na.2.2.1
 | n+10=>T.fP.na.2.2.1
theorem wO (T:Txt w K mg t) (i:Nat):p8 K (cls t i) "outs" :=match i with
 | 0=>T.iT.na.2.2.2.1
 | 1=>T.jc.na.2.2.2.1
 | 2=>T.iH.na.2.2.2.1
 | 3=>T.je.na.2.2.2.1
 | 4=>T.iQ.na.2.2.2.1
 | 5=>T.gH.na.2.2.2.1
 | 6=>T.lC.na.2.2.2.1
 | 7=>T.iR.na.2.2.2.1
 | 8=>T.fM.na.2.2.2.1
 | 9=>T.d9.na.2.2.2.1
 | n+10=>T.fP.na.2.2.2.1
theorem YG (i:Nat):cN i<=2:=match i with
 | 0=>by show 0<=2;decide
 | 1=>by show 0<=2;decide
 | 2=>by show 0<=2;decide
 | 3=>by show 0<=2;decide
 | 4=>by show 2<=2;decide
 | 5=>by show 1<=2;decide
 | 6=>by show 0<=2;decide
 | 7=>by show 0<=2;decide
 | 8=>by show 0<=2;decide
 | 9=>by show 0<=2;decide
 | n+10=>by show 0<=2;decide
theorem Hr (i:Nat):cI i<=3:=match i with
 | 0=>by show 0<=3;decide
 | 1=>by show 1<=3;decide
 | 2=>by show 1<=3;decide
 | 3=>by show 1<=3;decide
 | 4=>by show 1<=3;decide
 | 5=>by show 1<=3;decide
 | 6=>by show 2<=3;decide
 | 7=>by show 2<=3;decide
 | 8=>by show 2<=3;decide
 | 9=>by show 3<=3;decide
 | n+10=>by show 2<=3;decide
theorem RJ (i:Nat):cO i<=2:=match i with
 | 0=>by show 1<=2;decide
 | 1=>by show 0<=2;decide
 | 2=>by show 1<=2;decide
 | 3=>by show 2<=2;decide
 | 4=>by show 1<=2;decide
 | 5=>by show 1<=2;decide
 | 6=>by show 1<=2;decide
 | 7=>by show 1<=2;decide
 | 8=>by show 2<=2;decide
 | 9=>by show 1<=2;decide
 | n+10=>by show 2<=2;decide
theorem jj {f:Str} {y:V} {fs:List (Str×V)} {n:Nat} (h:fs.length<=n):(aK f y fs).length<=n+1:=Nat.le_trans (uX f y fs) (Nat.succ_le_succ h)
noncomputable def Cu (nm:V) (tn ti to:Addr):List (Str×V):=aK "outs" (.ref to) (aK "ins" (.ref ti) (aK "numbers" (.ref tn) (aK "name" nm [])))
theorem pU (nm:V) (tn ti to:Addr):(Cu nm tn ti to).lookup ("name" :Str)=some nm:=by
 unfold Cu
 rw [aC,if_neg (by decide +kernel),aC,if_neg (by decide +kernel),aC,if_neg (by decide +kernel),aC,if_pos rfl]
theorem lF (nm:V) (tn ti to:Addr):(Cu nm tn ti to).lookup ("numbers" :Str)=some (.ref tn):=by
 unfold Cu
 rw [aC,if_neg (by decide +kernel),aC,if_neg (by decide +kernel),aC,if_pos rfl]
theorem mZ (nm:V) (tn ti to:Addr):(Cu nm tn ti to).lookup ("ins" :Str)=some (.ref ti):=by
 unfold Cu
 rw [aC,if_neg (by decide +kernel),aC,if_pos rfl]
theorem sJ (nm:V) (tn ti to:Addr):(Cu nm tn ti to).lookup ("outs" :Str)=some (.ref to):=by
 unfold Cu
 rw [aC,if_pos rfl]
theorem mK (nm:V) (tn ti to:Addr) {m:Str} (h1:¬m= "outs") (h2:¬m= "ins") (h3:¬m= "numbers") (h4:¬m= "name"):(Cu nm tn ti to).lookup m=none:=by
 unfold Cu
 rw [aC,if_neg h1,aC,if_neg h2,aC,if_neg h3,aC,if_neg h4]
 all_goals rfl
structure fL (K:PySem.W.Frag) (t:jL) (H:Hp) (p:Addr) (i:Nat) (nm:V) (ns is os:List V):Prop where
 ex:∃dx tn ti to,H p=some (.ins (cls t i) dx (Cu nm tn ti to))/\fC K H tn ns/\fC K H ti is/\fC K H to os
theorem fL.same {H H':Hp} {p:Addr} {i:Nat} {nm:V} {ns is os:List V} (h:fL K t H p i nm ns is os) (s:aJ H H'):fL K t H' p i nm ns is os:=by
 obtain⟨dx,tn,ti,to,h1,h2,h3,h4⟩:=h
 exact⟨dx,tn,ti,to,s _ _ h1,s.seqT h2,s.seqT h3,s.seqT h4⟩
noncomputable def iM (i:Nat):Sp:=fun vs H Q _=>∃x,vs=[x]/\Q (.str (cT i)) H
noncomputable def nV (j:Nat):V:=.int (j:Nat)
inductive Val (v:V):Prop where
 | mk:∀n:Int,v=.int n->0<=n->n <1000000000->Val v
inductive Flat:PyData->Prop
 | non:Flat .none
 | int (i:Int):Flat (.int i)
noncomputable def places (i:Nat) (hs:List V):List Nat:=if i=9 then(match hs with | .int n:: _=>[0,1+(n % 2).toNat] | _=>[0]) else List.range hs.length
noncomputable def zu (i:Nat) (hs:List V):Prop:=hs.length=cI i/\∀h∈hs,h=.non∨∃n:Int,h=.int n
noncomputable def xf (hs:List V) (q:Nat):Bool:=decide (hs[q]?=some V.non)
noncomputable def Nu (i:Nat) (hs:List V):V:=match (places i hs).find? (xf hs) with
 | some q=>nV q
 | none=>.non
theorem lO {i:Nat} {hs:List V} (h:zu i hs):∀q∈places i hs,q <hs.length:=by
 intro q hq
 unfold places at hq
 by_cases hi:i=9
 ·rw [if_pos hi] at hq
  have hl:hs.length=3:=by rw [h.1,hi];rfl
  rw [hl]
  split at hq
  ·rename_i n r
   have h0:=Int.emod_nonneg n (show(2:Int)≠0 by decide)
   have h1:=Int.emod_lt_of_pos n (show(0:Int) <2 by decide)
   simp at hq
   omega
  ·simp at hq
   omega
 ·rw [if_neg hi] at hq
  simpa using hq
theorem Oj {f:Nat->Bool}:∀{l:List Nat} {j q:Nat},l[j]?=some q->(∀x∈l.take j,f x=false)->f q=true->l.find? f=some q
 | [],_,_,e,_,_=>by simp at e
 | x:: r,0,q,e,_,hq=>by
  simp at e
  subst e
  rw [List.find?_cons,hq]
 | x:: r,j+1,q,e,h,hq=>by
  have hx:f x=false:=h x (by simp)
  rw [List.find?_cons,hx]
  exact Oj (l:=r) (j:=j) (by simpa using e) (fun y hy=>h y (by simp [hy])) hq
theorem Uw {f:Nat->Bool} {l:List Nat} (h:∀x∈l,f x=false):l.find? f=none:=by
 rw [List.find?_eq_none]
 intro x hx
 rw [h x hx]
 decide
inductive pM (K:PySem.W.Frag) (t:jL) (i:Nat) (vs:List V) (H:Hp) (Q:VK) (E:XK):Prop where
 | mk:∀(p a:Addr) (nm:V) (ns is os hs:List V),vs=[.ref p,.ref a]->fL K t H p i nm ns is os->is.length=cI i->bK K H a hs->zu i hs->(∀H' L,aJ H H'->H L=none->H' L=some (.lst ((places i hs).map nV))->Q (.ref L) H')->pM K t i vs H Q E
inductive zN (K:PySem.W.Frag) (t:jL) (i:Nat) (vs:List V) (H:Hp) (Q:VK) (E:XK):Prop where
 | mk:∀(p a:Addr) (nm:V) (ns is os hs:List V),vs=[.ref p,.ref a]->fL K t H p i nm ns is os->is.length=cI i->bK K H a hs->zu i hs->(∀H',aJ H H'->Q (Nu i hs) H')->zN K t i vs H Q E
noncomputable def g0 (l:List Int):Int:=l.getD 0 0
noncomputable def g1 (l:List Int):Int:=l.getD 1 0
noncomputable def cV (i:Nat):Nat:=match i with
 | 0=>1
 | 1=>1
 | 2=>1
 | 3=>1
 | 4=>1
 | 5=>1
 | 6=>2
 | 7=>2
 | 8=>2
 | 9=>2
 | _=>2
noncomputable def cU (i:Nat) (ns ws:List Int) (kp:Int):List (Int×Int):=match i with
 | 0=>[(0,g0 ws)]
 | 1=>[]
 | 2=>[(0,g0 ws)]
 | 3=>[(0,g0 ws),(1,g0 ws)]
 | 4=>[(0,(g0 ns * g0 ws+g1 ns) % 1000000000)]
 | 5=>[(0,(kp+g0 ws) % 1000000000)]
 | 6=>[(0,(g0 ws+g1 ws) % 1000000000)]
 | 7=>[(0,if g0 ws <g1 ws then 1 else 0)]
 | 8=>[(0,if g1 ws <g0 ws then g1 ws else g0 ws),(1,if g1 ws <g0 ws then g0 ws else g1 ws)]
 | 9=>[(0,g1 ws)]
 | _=>[(g0 ws % 2,g1 ws)]
noncomputable def gB (i:Nat) (ws:List Int) (kp:Int):Int:=if i=5 then(kp+g0 ws) % 1000000000 else kp
noncomputable def JS (ps:List (Int×Int)):List (List V):=ps.map fun p=>[.int p.1,.int p.2]
noncomputable def Xf (ws:List Int):Prop:=∀w∈ws,0<=w/\w <1000000000
inductive fH (K:PySem.W.Frag) (t:jL) (i:Nat) (vs:List V) (H:Hp) (Q:VK) (E:XK):Prop where
 | mk:∀(p a:Addr) (nm:V) (ns:List Int) (is os:List V) (ws:List Int) (kp:Int),vs=[.ref p,.ref a,.int kp]->fL K t H p i nm (ns.map V.int) is os->ns.length=cN i->bK K H a (ws.map V.int)->ws.length=cV i->Xf ws->(∀H' U L rs,aJ H H'->H L=none->H' U=some (.tup [.ref L,.int (gB i ws kp)])->H' L=some (.lst (rs.map V.ref))->jP H' rs (JS (cU i ns ws kp))->Q (.ref U) H')->fH K t i vs H Q E
theorem yw {H:Hp} {Q:VK} {a b x y:Int} (hx:x=a) (hy:y=b) (k:∀H' L rs,aJ H H'->H L=none->H' L=some (.lst (rs.map V.ref))->jP H' rs (JS [(a,b)])->Q (.ref L) H') {t0 L:Addr} (n0:H t0=none)
  (nL:(upd H t0 (.tup [.int x,.int y])) L=none):Q (.ref L) (upd (upd H t0 (.tup [.int x,.int y])) L (.lst [.ref t0])):=by
 subst hx hy
 have s0:=aB (o:=.tup [.int x,.int y]) n0
 have s1:=aB (o:=.lst [.ref t0]) nL
 exact k _ L [t0] (s0.trans s1) (s0.free nL) ao (.cons (s1 _ _ ao) .nil)
theorem Vl {H:Hp} {Q:VK} {a b c d x y u v:Int} (hx:x=a) (hy:y=b) (hu:u=c) (hv:v=d) (k:∀H' L rs,aJ H H'->H L=none->H' L=some (.lst (rs.map V.ref))->jP H' rs (JS [(a,b),(c,d)])->Q (.ref L) H') {t0 t1 L:Addr} (n0:H t0=none)
  (n1:(upd H t0 (.tup [.int x,.int y])) t1=none) (nL:(upd (upd H t0 (.tup [.int x,.int y])) t1 (.tup [.int u,.int v])) L=none):Q (.ref L) (upd (upd (upd H t0 (.tup [.int x,.int y])) t1 (.tup [.int u,.int v])) L (.lst [.ref t0,.ref t1])):=by
 subst hx hy hu hv
 have s0:=aB (o:=.tup [.int x,.int y]) n0
 have s1:=aB (o:=.tup [.int u,.int v]) n1
 have s2:=aB (o:=.lst [.ref t0,.ref t1]) nL
 exact k _ L [t0,t1] (s0.trans (s1.trans s2)) (s0.free (s1.free nL)) ao (.cons (s2 _ _ (s1 _ _ ao)) (.cons (s2 _ _ ao) .nil))
theorem Dv {H:Hp} {Q:VK} {c:Int} {ps:List (Int×Int)} (k:∀H' U L rs,aJ H H'->H L=none->H' U=some (.tup [.ref L,.int c])->H' L=some (.lst (rs.map V.ref))->jP H' rs (JS ps)->Q (.ref U) H'):
  ∀H' L rs,aJ H H'->H L=none->H' L=some (.lst (rs.map V.ref))->jP H' rs (JS ps)->∀U,H' U=none->Q (.ref U) (upd H' U (.tup [.ref L,.int c])):=fun H' L rs s nL eL tL U nU=>
 have s2:=aB (o:=.tup [.ref L,.int c]) nU
 k _ U L rs (s.trans s2) nL ao (s2 _ _ eL) (tL.same s2)
theorem fc:(2:Nat)<=sizeLine:=by decide
theorem one_le:(1:Nat)<=sizeLine:=by decide
theorem Y0 {a b:Int} {ws:List Int} (h:Xf ws) (hb:b∈ws):IntMulOk a b:=.of_right (intBits_le_64 (by have:=(h b hb).1;omega) (by have:=(h b hb).2;omega))
noncomputable def Im (i:Nat) (ns:List V):V:=if i=5 then ns.headD .non else .int 0
inductive vh (K:PySem.W.Frag) (t:jL) (i:Nat) (vs:List V) (H:Hp) (Q:VK) (E:XK):Prop where
 | mk:∀(p:Addr) (nm:V) (ns is os:List V),vs=[.ref p]->fL K t H p i nm ns is os->ns.length=cN i->Q (Im i ns) H->vh K t i vs H Q E
noncomputable def Jy (i:Nat) (kv:V) (ns:List V):List V:=if i=5 then [kv] else ns
inductive jw (K:PySem.W.Frag) (t:jL) (i:Nat) (vs:List V) (H:Hp) (Q:VK) (E:XK):Prop where
 | mk:∀(p:Addr) (kv nm:V) (ns is os:List V),vs=[.ref p,kv]->i<=10->fL K t H p i nm ns is os->(∀H' q,aJ H H'->H q=none->fL K t H' q i nm (Jy i kv ns) is os->Q (.ref q) H')->jw K t i vs H Q E
noncomputable def cJ (a b:Int):Int:=((((a % 2147483647 * 48271+7919 * b+11) % 2147483647) * ((a % 2147483647 * 48271+7919 * b+11) % 2147483647) % 2147483629+613 * b) * (((a % 2147483647 * 48271+7919 * b+11) % 2147483647) * ((a % 2147483647 * 48271+7919 * b+11) % 2147483647) % 2147483629)) % 2147483587
theorem BW (a b:Int):0<=cJ a b:=Int.emod_nonneg _ (by decide)
noncomputable def jU (ns:List Int) (j:Nat):Int:=(ns[j]?).getD (41 * (j:Int)+3)
noncomputable def rP (a b:Int):Int:=if cJ a b / 7 % 3=0 then cJ a b % 5 else if cJ a b / 7 % 3=1 then cJ a b % 10 ^ 9 else 10 ^ 9 - 1 - cJ a b % 3
theorem sX (a b:Int):0<=rP a b/\rP a b <1000000000:=by
 unfold rP
 have h0:=BW a b
 generalize cJ a b=n at h0
 split
 ·omega
 ·split
  ·have h1:=Int.emod_lt_of_pos n (show(0:Int) <10 ^ 9 by decide)
   have h2:=Int.emod_nonneg n (show(10:Int) ^ 9≠0 by decide)
   exact⟨h2,h1⟩
  ·have h1:=Int.emod_lt_of_pos n (show(0:Int) <3 by decide)
   have h2:=Int.emod_nonneg n (show(3:Int)≠0 by decide)
   have e:(10:Int) ^ 9=1000000000:=by decide
   rw [e]
   omega
noncomputable def low (c:Nat):Bool:=decide (97<=c) && decide (c<=122)
noncomputable def MP (c:Nat):Bool:=decide (48<=c) && decide (c<=57)
noncomputable def nameB (x:Str):Bool:=match x.cps.toList with
 | []=>false
 | c:: r=>decide (r.length<=7) && (low c && (c:: r).all fun d=>low d || MP d)
theorem pO (x:Str):x.cps.toList.length=x.length:=by simp [Str.length]
theorem Ez:∀(ws:List Str),(Str.join Str.empty ws).cps.toList=(ws.map fun w=>w.cps.toList).flatten
 | []=>rfl
 | [w]=>by simp [Str.join]
 | w:: v:: r=>by
  have ih:=Ez (v:: r)
  show(w.cps ++ #[] ++ (Str.join Str.empty (v:: r)).cps).toList=_
  rw [Array.toList_append,ih]
  simp
theorem RV {n:Nat}:∀(ws:List Str),(∀w∈ws,w.length<=n)->(ws.map (·.length)).sum<=ws.length * n
 | [],_=>by simp
 | w:: r,h=>by
  have h1:=h w (by simp)
  have h2:=RV r fun v hv=>h v (by simp [hv])
  simp only [List.map_cons,List.sum_cons,List.length_cons,Nat.add_mul]
  omega
noncomputable def KH (n:Int):Nat:=97+(n % 26).toNat
theorem Js (n:Int):low (KH n)=true:=by
 unfold low KH
 have h0:=Int.emod_nonneg n (show(26:Int)≠0 by decide)
 have h1:=Int.emod_lt_of_pos n (show(0:Int) <26 by decide)
 simp
 omega
noncomputable abbrev LT:Str:= "abcdefghijklmnopqrstuvwxyz"
theorem Mv:LT.length=26:=by decide +kernel
theorem Q7:LT.cps.toList=List.range' 97 26:=by decide +kernel
theorem RT (n:Int):J0 LT.cps.toList (n % 26)=some (KH n):=by
 have h0:=Int.emod_nonneg n (show(26:Int)≠0 by decide)
 have h1:=Int.emod_lt_of_pos n (show(0:Int) <26 by decide)
 obtain⟨j,hj⟩:∃j:Nat,n % 26=(j:Int):=⟨(n % 26).toNat,by omega⟩
 unfold KH
 rw [hj,Q7]
 exact aM (by rw [List.getElem?_range' (by omega)];simp)
noncomputable def iG (a:Int):List Nat:=(List.range (cJ a 50 % 7).toNat).map fun j=>KH (cJ a (60+(j:Nat)))
noncomputable def qL (a:Int):Nat:=(cJ a 51 % (cJ a 50 % 7+1)).toNat
noncomputable def Mi (n:Nat):List Nat:=(toString (Int.ofNat n):Str).cps.toList
noncomputable def Bh (a:Int) (k:Nat):List Nat:=if cJ a 52 % 3=0 then KH (cJ a 53):: Mi (cJ a 54 % 1000+37 * (k:Int)).toNat else(iG a).take (qL a) ++ KH (cJ a 55+k):: (iG a).drop (qL a)
noncomputable def dw (a:Int) (k:Nat):Str:=⟨(Bh a k).toArray⟩
noncomputable def Qp (l:List Nat):Nat:=l.foldl (fun r c=>10 * r+(c - 48)) 0
theorem Tg:(List.range 2000).all (fun i=>(Mi i).all MP && decide ((Mi i).length<=4) && decide (Qp (Mi i)=i))=true:=by decide +kernel
theorem wC {n:Nat} (h:n <2000):(Mi n).all MP=true/\(Mi n).length<=4/\Qp (Mi n)=n:=by
 have z:=List.all_eq_true.mp Tg n (List.mem_range.mpr h)
 simp only [Bool.and_eq_true,decide_eq_true_eq] at z
 exact⟨z.1.1,z.1.2,z.2⟩
theorem DP (a:Int):(iG a).length<=6/\((iG a).length:Int)=cJ a 50 % 7:=by
 unfold iG
 have h0:=Int.emod_nonneg (cJ a 50) (show(7:Int)≠0 by decide)
 have h1:=Int.emod_lt_of_pos (cJ a 50) (show(0:Int) <7 by decide)
 rw [lM,List.length_range]
 omega
theorem Og (a:Int):qL a<=(iG a).length:=by
 have h:=(DP a).2
 unfold qL
 have h0:=Int.emod_nonneg (cJ a 50) (show(7:Int)≠0 by decide)
 have h1:=Int.emod_lt_of_pos (cJ a 51) (show(0:Int) <cJ a 50 % 7+1 by omega)
 have h2:=Int.emod_nonneg (cJ a 51) (show cJ a 50 % 7+1≠0 by omega)
 omega
theorem Ea {x:Str} {c:Nat} {r:List Nat} (e:x.cps.toList=c:: r) (h:r.length<=7) (hc:low c=true) (ha:∀d∈r,low d=true∨MP d=true):nameB x=true:=by
 unfold nameB
 rw [e]
 simp only [Bool.and_eq_true,decide_eq_true_eq,List.all_eq_true,Bool.or_eq_true]
 refine⟨h,hc,fun d hd=>?_⟩
 rcases List.mem_cons.mp hd with rfl | hd
 ·exact .inl hc
 ·exact ha d hd
theorem Fb (a:Int) (k:Nat):(dw a k).cps.toList=Bh a k:=by simp [dw]
theorem NT (a:Int) {k:Nat} (hk:k <26):nameB (dw a k)=true:=by
 have h0:=Int.emod_nonneg (cJ a 54) (show(1000:Int)≠0 by decide)
 have h1:=Int.emod_lt_of_pos (cJ a 54) (show(0:Int) <1000 by decide)
 have e:=Fb a k
 unfold Bh at e
 split at e
 ·obtain⟨n1,n2,_⟩:=wC (n:=(cJ a 54 % 1000+37 * (k:Int)).toNat) (by omega)
  exact Ea e (by omega) (Js _) fun c hc=>.inr (List.all_eq_true.mp n1 c hc)
 ·have b1:=(DP a).1
  have b2:=Og a
  have all:∀c∈(iG a).take (qL a) ++ KH (cJ a 55+k):: (iG a).drop (qL a),low c=true:=fun c hc=>by
   have hb:∀c∈iG a,low c=true:=fun c hc=>by
    unfold iG at hc
    obtain⟨j,_,rfl⟩:=List.mem_map.mp hc
    exact Js _
   rcases List.mem_append.mp hc with h | h
   ·exact hb c (List.mem_of_mem_take h)
   ·rcases List.mem_cons.mp h with rfl | h
    ·exact Js _
    ·exact hb c (List.mem_of_mem_drop h)
  have len:((iG a).take (qL a) ++ KH (cJ a 55+k):: (iG a).drop (qL a)).length<=7:=by
   rw [lP,List.length_take,List.length_cons,List.length_drop]
   omega
  have ne:(iG a).take (qL a) ++ KH (cJ a 55+k):: (iG a).drop (qL a)≠[]:=by simp
  generalize (iG a).take (qL a) ++ KH (cJ a 55+k):: (iG a).drop (qL a)=l at all len ne e
  obtain⟨c,r,rfl⟩:=List.exists_cons_of_ne_nil ne
  rw [List.length_cons] at len
  exact Ea e (by omega) (all c List.mem_cons_self) fun d hd=>.inl (all d (List.mem_cons_of_mem _ hd))
theorem Kv (a:Int) {j k:Nat} (hj:j <26) (hk:k <26) (h:dw a j=dw a k):j=k:=by
 have e:Bh a j=Bh a k:=by
  have:=congrArg (fun s:Str=>s.cps.toList) h
  simpa [dw] using this
 unfold Bh at e
 split at e
 ·have h0:=Int.emod_nonneg (cJ a 54) (show(1000:Int)≠0 by decide)
  have h1:=Int.emod_lt_of_pos (cJ a 54) (show(0:Int) <1000 by decide)
  have e2:=congrArg Qp (List.cons.inj e).2
  rw [(wC (by omega)).2.2,(wC (by omega)).2.2] at e2
  omega
 ·have e2:=(List.cons.inj (List.append_cancel_left e)).1
  unfold KH at e2
  omega
namespace Drawn
variable {S:Type}
structure jC (S:Type) where
 kind:Nat
 name:S
 nums:List Int
 ins:List S
 outs:List S
structure NS (S:Type) where
 lanes:List S
 parts:List (jC S)
 opens:List S
 back:List S
inductive jJ (ps:List (jC S)):S->S->Prop
 | refl (x:S):jJ ps x x
 | step {x y z:S} {p:jC S}:p∈ps->x∈p.ins ++ p.outs->y∈p.ins ++ p.outs->jJ ps y z->jJ ps x z
theorem jJ.trans {ps:List (jC S)} {x y z:S} (h:jJ ps x y) (k:jJ ps y z):jJ ps x z:=by
 induction h with
 | refl _=>exact k
 | step hp hx hy _ ih=>exact .step hp hx hy (ih k)
theorem jJ.symm {ps:List (jC S)} {x y:S} (h:jJ ps x y):jJ ps y x:=by
 induction h with
 | refl _=>exact .refl _
 | step hp hx hy _ ih=>exact ih.trans (.step hp hy hx (.refl _))
theorem jJ.mono {ps qs:List (jC S)} (hs:∀p∈ps,p∈qs) {x y:S} (h:jJ ps x y):jJ qs x y:=by
 induction h with
 | refl _=>exact .refl _
 | step hp hx hy _ ih=>exact .step (hs _ hp) hx hy ih
theorem jJ.part {ps:List (jC S)} {p:jC S} (hp:p∈ps) {x y:S} (hx:x∈p.ins ++ p.outs) (hy:y∈p.ins ++ p.outs):jJ ps x y:=.step hp hx hy (.refl _)
structure WF (ns:NS S):Prop where
 nod:ns.lanes.Nodup
 outs:((ns.parts.flatMap (·.outs)) ++ ns.back).Perm ns.lanes
 ins:((ns.parts.flatMap (·.ins)) ++ ns.opens).Perm ns.lanes
 hang:∀p∈ns.parts,∃x∈p.ins ++ p.outs,∃o∈ns.opens,jJ ns.parts x o
 touch:∀p∈ns.parts,p.ins ++ p.outs≠[]
theorem WF.add {ns:NS S} (w:WF ns) {p:jC S} {newl opens' back':List S} (hn:(ns.lanes ++ newl).Nodup) (ho:(p.outs ++ back').Perm (ns.back ++ newl)) (hi:(p.ins ++ opens').Perm (ns.opens ++ newl))
  (hg:∀o∈ns.opens,∃o'∈opens',jJ (ns.parts ++ [p]) o o') (hp:∃x∈p.ins ++ p.outs,∃o∈opens',jJ (ns.parts ++ [p]) x o):
  WF { lanes:=ns.lanes ++ newl,parts:=ns.parts ++ [p],opens:=opens',back:=back' }:=by
 have mono:∀q∈ns.parts,q∈ns.parts ++ [p]:=fun q hq=>List.mem_append.mpr (.inl hq)
 refine⟨hn,?_,?_,?_,?_⟩
 ·have e:(ns.parts ++ [p]).flatMap (·.outs)=ns.parts.flatMap (·.outs) ++ p.outs:=by simp
  show(((ns.parts ++ [p]).flatMap (·.outs)) ++ back').Perm _
  rw [e,List.append_assoc]
  exact(ho.append_left _).trans (by rw [<-List.append_assoc];exact w.outs.append_right _)
 ·have e:(ns.parts ++ [p]).flatMap (·.ins)=ns.parts.flatMap (·.ins) ++ p.ins:=by simp
  show(((ns.parts ++ [p]).flatMap (·.ins)) ++ opens').Perm _
  rw [e,List.append_assoc]
  exact(hi.append_left _).trans (by rw [<-List.append_assoc];exact w.ins.append_right _)
 ·intro q hq
  rcases List.mem_append.mp hq with h | h
  ·obtain⟨x,hx,o,hoq,c⟩:=w.hang q h
   obtain⟨o',ho',c'⟩:=hg o hoq
   exact⟨x,hx,o',ho',(c.mono mono).trans c'⟩
  ·rw [List.mem_singleton] at h
   subst h
   exact hp
 ·intro q hq
  rcases List.mem_append.mp hq with h | h
  ·exact w.touch q h
  ·rw [List.mem_singleton] at h
   subst h
   obtain⟨x,hx,_⟩:=hp
   intro z
   rw [z] at hx
   cases hx
theorem WF.start:WF (⟨[],[],[],[]⟩:NS S):=⟨List.nodup_nil,.refl _,.refl _,fun p hp=>(by cases hp),fun p hp=>(by cases hp)⟩
theorem WF.backLane {ns:NS S} (w:WF ns) {b:S} (hn:(ns.lanes ++ [b]).Nodup):WF { ns with lanes:=ns.lanes ++ [b],opens:=ns.opens ++ [b],back:=ns.back ++ [b] }:=by
 refine⟨hn,?_,?_,fun p hp=>?_,w.touch⟩
 ·show(_ ++ (ns.back ++ [b])).Perm _
  rw [<-List.append_assoc]
  exact w.outs.append_right _
 ·show(_ ++ (ns.opens ++ [b])).Perm _
  rw [<-List.append_assoc]
  exact w.ins.append_right _
 ·obtain⟨x,hx,o,ho,c⟩:=w.hang p hp
  exact⟨x,hx,o,List.mem_append.mpr (.inl ho),c⟩
theorem WF.part {ns:NS S} (w:WF ns) {p:jC S} {rest:List S} (hi:ns.opens.Perm (p.ins ++ rest)) (hf:(ns.lanes ++ p.outs).Nodup) (ho:p.outs≠[]):
  WF { ns with lanes:=ns.lanes ++ p.outs,parts:=ns.parts ++ [p],opens:=rest ++ p.outs }:=by
 have hp:p∈ns.parts ++ [p]:=by simp
 obtain⟨o1,hoo⟩:∃o1,o1∈p.outs:=List.exists_mem_of_ne_nil _ ho
 have h1:o1∈rest ++ p.outs:=List.mem_append.mpr (.inr hoo)
 refine w.add hf List.perm_append_comm ?_ (fun o h=>?_) ⟨o1,List.mem_append.mpr (.inr hoo),o1,h1,.refl _⟩
 ·rw [<-List.append_assoc]
  exact hi.symm.append_right _
 ·rcases List.mem_append.mp (hi.mem_iff.mp h) with h | h
  ·exact⟨o1,h1,jJ.part hp (List.mem_append.mpr (.inl h)) (List.mem_append.mpr (.inr hoo))⟩
  ·exact⟨o,List.mem_append.mpr (.inl h),.refl _⟩
theorem WF.take {ns:NS S} (w:WF ns) {p:jC S} {rest:List S} {y x:S} (hi:p.ins=[y]) (ho:p.outs=[]) (hr:ns.opens.Perm (y:: rest)) (hx:x∈rest) (c:jJ ns.parts y x):
  WF { ns with parts:=ns.parts ++ [p],opens:=rest }:=by
 have mono:∀q∈ns.parts,q∈ns.parts ++ [p]:=fun q hq=>List.mem_append.mpr (.inl hq)
 have:=w.add (p:=p) (newl:=[]) (opens':=rest) (back':=ns.back) (by rw [List.append_nil];exact w.nod) (by rw [ho,List.append_nil];exact .refl _) (by rw [hi,List.append_nil];exact hr.symm)
  (fun o h=>by
   rcases List.mem_cons.mp (hr.mem_iff.mp h) with rfl | h
   ·exact⟨x,hx,c.mono mono⟩
   ·exact⟨o,h,.refl _⟩) ⟨y,by simp [hi],x,hx,c.mono mono⟩
 rw [List.append_nil] at this
 exact this
theorem WF.loop {ns:NS S} (w:WF ns) {p:jC S} {rest:List S} {one own fresh:S} (hi:p.ins=[one,own]) (ho:p.outs=[own,fresh]) (hr:ns.opens.Perm (one:: rest)) (hn:(ns.lanes ++ [own,fresh]).Nodup):
  WF { ns with lanes:=ns.lanes ++ [own,fresh],parts:=ns.parts ++ [p],opens:=rest ++ [fresh] }:=by
 have hp:p∈ns.parts ++ [p]:=by simp
 have hf:fresh∈rest ++ [fresh]:=by simp
 refine w.add hn (by rw [ho];exact List.perm_append_comm) ?_ (fun o h=>?_) ⟨fresh,by simp [ho],fresh,hf,.refl _⟩
 ·rw [hi]
  show(one:: own:: (rest ++ [fresh])).Perm (ns.opens ++ [own,fresh])
  refine .trans ?_ (hr.symm.append_right _)
  refine .cons _ ?_
  show(own:: (rest ++ [fresh])).Perm (rest ++ ([own] ++ [fresh]))
  rw [<-List.append_assoc]
  exact(List.perm_append_comm (l₁:=[own]) (l₂:=rest)).append_right [fresh]
 ·rcases List.mem_cons.mp (hr.mem_iff.mp h) with rfl | h
  ·exact⟨fresh,hf,jJ.part hp (by simp [hi]) (by simp [ho])⟩
  ·exact⟨o,List.mem_append.mpr (.inl h),.refl _⟩
theorem WF.closeBack {ns:NS S} (w:WF ns) {p:jC S} {rest:List S} {one b fresh:S} (hi:p.ins=[one]) (ho:p.outs=[b,fresh]) (hb:ns.back.Perm (b:: rest)) (h1:ns.opens=[one]) (hn:(ns.lanes ++ [fresh]).Nodup):
  WF { lanes:=ns.lanes ++ [fresh],parts:=ns.parts ++ [p],opens:=[fresh],back:=rest }:=by
 have hp:p∈ns.parts ++ [p]:=by simp
 refine w.add hn ?_ (by rw [hi,h1]) (fun o h=>?_) ⟨fresh,by simp [ho],fresh,by simp,.refl _⟩
 ·rw [ho]
  show(b:: fresh:: rest).Perm (ns.back ++ [fresh])
  refine .trans ?_ (hb.symm.append_right _)
  exact .cons _ (List.perm_append_comm (l₁:=[fresh]) (l₂:=rest))
 ·rw [h1,List.mem_singleton] at h
  subst h
  exact⟨fresh,by simp,jJ.part hp (by simp [hi]) (by simp [ho])⟩
theorem WF.last {ns:NS S} (w:WF ns) {p:jC S} {y:S} (hb:ns.back=[]) (h1:ns.opens=[y]) (hi:p.ins=[y]) (ho:p.outs=[]):
  ((ns.parts ++ [p]).flatMap (·.outs)).Perm ns.lanes/\((ns.parts ++ [p]).flatMap (·.ins)).Perm ns.lanes/\∀q∈ns.parts ++ [p],∃x∈q.ins ++ q.outs,jJ (ns.parts ++ [p]) x y:=by
 have mono:∀q∈ns.parts,q∈ns.parts ++ [p]:=fun q hq=>List.mem_append.mpr (.inl hq)
 refine⟨?_,?_,?_⟩
 ·have e:(ns.parts ++ [p]).flatMap (·.outs)=ns.parts.flatMap (·.outs):=by simp [ho]
  rw [e]
  have:=w.outs
  rw [hb,List.append_nil] at this
  exact this
 ·have e:(ns.parts ++ [p]).flatMap (·.ins)=ns.parts.flatMap (·.ins) ++ [y]:=by simp [hi]
  rw [e]
  have:=w.ins
  rw [h1] at this
  exact this
 ·intro q hq
  rcases List.mem_append.mp hq with h | h
  ·obtain⟨x,hx,o,hoq,c⟩:=w.hang q h
   rw [h1,List.mem_singleton] at hoq
   subst hoq
   exact⟨x,hx,c.mono mono⟩
  ·rw [List.mem_singleton] at h
   subst h
   exact⟨y,by simp [hi],.refl _⟩
theorem M3 {ps:List (jC S)} {J:jC S->Prop} (closed:∀(l:S) (p q:jC S),p∈ps->q∈ps->l∈p.ins ++ p.outs->l∈q.ins ++ q.outs->J p->J q) {y:S} (hang:∀q∈ps,∃x∈q.ins ++ q.outs,jJ ps x y)
  {p0:jC S} (hp0:p0∈ps) (h0:J p0):∀q∈ps,J q:=by
 have go:∀{x z:S},jJ ps x z->(∃p∈ps,x∈p.ins ++ p.outs/\J p)->∃p∈ps,z∈p.ins ++ p.outs/\J p:=by
  intro x z c
  induction c with
  | refl _=>exact id
  | step hp hx hy _ ih=>
   rintro⟨p',hp',hx',hJ⟩
   exact ih ⟨_,hp,hy,closed _ _ _ hp' hp hx' hx hJ⟩
 obtain⟨x0,hx0,c0⟩:=hang p0 hp0
 have hy:=go c0 ⟨p0,hp0,hx0,h0⟩
 intro q hq
 obtain⟨x,hx,c⟩:=hang q hq
 obtain⟨p',hp',hx',hJ⟩:=go c.symm hy
 exact closed _ _ _ hp' hq hx' hx hJ
theorem OD {ps:List (jC S)} (f:jC S->List S) (h:(ps.flatMap f).Nodup) {i j:Nat} {p q:jC S} {l:S} (hi:ps[i]?=some p) (hj:ps[j]?=some q) (hp:l∈f p) (hq:l∈f q):i=j:=by
 induction ps generalizing i j with
 | nil=>cases hi
 | cons r rs ih=>
  rw [List.flatMap_cons,List.nodup_append] at h
  obtain⟨h1,h2,h3⟩:=h
  have far:∀{k:Nat} {s:jC S},rs[k]?=some s->l∈f s->l∈rs.flatMap f:=fun e hs=>List.mem_flatMap.mpr ⟨_,List.mem_of_getElem? e,hs⟩
  match i,j with
  | 0,0=>rfl
  | 0,j+1=>
   simp only [List.getElem?_cons_zero,Option.some.injEq] at hi
   subst hi
   exact absurd rfl (h3 l hp l (far (by simpa using hj) hq))
  | i+1,0=>
   simp only [List.getElem?_cons_zero,Option.some.injEq] at hj
   subst hj
   exact absurd rfl (h3 l hq l (far (by simpa using hi) hp))
  | i+1,j+1=>exact congrArg (· +1) (ih h2 (by simpa using hi) (by simpa using hj))
end Drawn
structure aG where
 name:Str
 room:Int
 first:List Int
noncomputable def aG.ok (l:aG):Prop:=1<=l.room/\l.room<=10/\(l.first.length:Int)<=l.room/\∀v∈l.first,0<=v/\v <1000000000
noncomputable abbrev PD:=Drawn.jC Str
noncomputable def qb (p:PD):Prop:=p.kind <11/\p.nums.length=cN p.kind/\p.ins.length=cI p.kind/\p.outs.length=cO p.kind/\∀v∈p.nums,0<=v/\v <1000000000
noncomputable def aX (E:List Addr) (H:Hp):Hp:=fun b=>if b∈E then none else H b
theorem bu {E:List Addr} {H:Hp}:aJ (aX E H) H:=fun b o e=>by
 unfold aX at e
 split at e
 ·cases e
 ·exact e
theorem CP {E:List Addr} {H:Hp} {p:Addr} {o:HO} (h:H p=none):aJ (aX E H) (aX E (upd H p o)):=fun b u e=>by
 have e':=bu b u e
 unfold aX at e ⊢
 split at e
 ·cases e
 ·rename_i n
  rw [if_neg n,aH (aD e' h)]
  exact e
theorem bH {E:List Addr} {H:Hp} {p:Addr} {o:HO} (h:H p=some o) (n:p∉E):aX E H p=some o:=by
 unfold aX
 rw [if_neg n]
 exact h
theorem eU {E:List Addr} {H:Hp} {a:Addr} {o:HO} (h:a∈E):aX E (upd H a o)=aX E H:=by
 funext b
 unfold aX
 split
 ·rfl
 ·rename_i n
  rw [aH (fun z=>n (by rw [z];exact h))]
theorem Kl {E:List Addr} {H H':Hp} (s:aJ H H') (hE:∀a∈E,∃o,H a=some o):aJ (aX E H) (aX E H'):=fun b o e=>by
 have e':=bu b o e
 unfold aX at e ⊢
 split at e
 ·cases e
 ·rename_i n
  rw [if_neg n]
  exact s _ _ e'
inductive iy {α β:Type} (R:α->β->Prop):List α->List β->Prop
 | nil:iy R [] []
 | cons {a:α} {b:β} {l:List α} {m:List β}:R a b->iy R l m->iy R (a:: l) (b:: m)
theorem iy.imp {α β:Type} {R R':α->β->Prop} (h:∀a b,R a b->R' a b):∀{l:List α} {m:List β},iy R l m->iy R' l m
 | _,_,.nil=>.nil
 | _,_,.cons r t=>.cons (h _ _ r) (t.imp h)
theorem iy.length {α β:Type} {R:α->β->Prop}:∀{l:List α} {m:List β},iy R l m->l.length=m.length
 | _,_,.nil=>rfl
 | _,_,.cons _ t=>by rw [List.length_cons,List.length_cons,t.length]
theorem iy.app {α β:Type} {R:α->β->Prop}:∀{l l':List α} {m m':List β},iy R l m->iy R l' m'->iy R (l ++ l') (m ++ m')
 | _,_,_,_,.nil,h=>h
 | _,_,_,_,.cons r t,h=>.cons r (t.app h)
theorem iy.get {α β:Type} {R:α->β->Prop}:∀{l:List α} {m:List β},iy R l m->∀{i:Nat} {a:α},l[i]?=some a->∃b,m[i]?=some b/\R a b
 | _,_,.nil,_,_,h=>by simp at h
 | _,_,.cons r t,0,_,h=>by
  simp only [List.getElem?_cons_zero,Option.some.injEq] at h
  subst h
  exact⟨_,rfl,r⟩
 | _,_,.cons r t,i+1,_,h=>t.get (i:=i) (by simpa using h)
theorem iy.take {α β:Type} {R:α->β->Prop}:∀{l:List α} {m:List β},iy R l m->∀n:Nat,iy R (l.take n) (m.take n)
 | _,_,.nil,_=>by simp;exact .nil
 | _,_,.cons r t,0=>by simp;exact .nil
 | _,_,.cons r t,n+1=>by simp;exact .cons r (t.take n)
theorem iy.drop {α β:Type} {R:α->β->Prop}:∀{l:List α} {m:List β},iy R l m->∀n:Nat,iy R (l.drop n) (m.drop n)
 | _,_,.nil,_=>by simp;exact .nil
 | _,_,.cons r t,0=>.cons r t
 | _,_,.cons r t,n+1=>by simp;exact t.drop n
inductive j6 (G:Hp) (v:V) (l:aG):Prop where
 | mk:∀q f,v=.ref q->G q=some (.tup [.str l.name,.int l.room,.ref f])->G f=some (.lst (l.first.map V.int))->j6 G v l
inductive sW (G:Hp) (v:V) (p:PD):Prop where
 | mk:∀q a1 a2 a3,v=.ref q->G q=some (.tup [.str (cT p.kind),.str p.name,.ref a1,.ref a2,.ref a3])->G a1=some (.lst (p.nums.map V.int))->G a2=some (.lst (p.ins.map V.str))->G a3=some (.lst (p.outs.map V.str))->sW G v p
theorem j6.same {G G':Hp} {v:V} {l:aG} (h:j6 G v l) (s:aJ G G'):j6 G' v l:=by
 obtain⟨q,f,e,h1,h2⟩:=h
 exact⟨q,f,e,s _ _ h1,s _ _ h2⟩
theorem sW.same {G G':Hp} {v:V} {p:PD} (h:sW G v p) (s:aJ G G'):sW G' v p:=by
 obtain⟨q,a1,a2,a3,e,h1,h2,h3,h4⟩:=h
 exact⟨q,a1,a2,a3,e,s _ _ h1,s _ _ h2,s _ _ h3,s _ _ h4⟩
structure Dw where
 S:Addr
 L:Addr
 P:Addr
 O:Addr
 c3:Int
 c4:Int
noncomputable abbrev Dw.E (d:Dw):List Addr:=[d.L,d.P,d.O]
structure pF (d:Dw) (H:Hp) (ls:List aG) (ps:List PD) (os:List Str):Prop where
 top:aX d.E H d.S=some (.lst [.ref d.L,.ref d.P,.ref d.O,.int d.c3,.int d.c4])
 lanes:∃xs,H d.L=some (.lst xs)/\iy (j6 (aX d.E H)) xs ls
 parts:∃xs,H d.P=some (.lst xs)/\iy (sW (aX d.E H)) xs ps
 opens:H d.O=some (.lst (os.map V.str))
 ne:d.L≠d.P/\d.L≠d.O/\d.P≠d.O
 lok:∀l∈ls,l.ok
 pok:∀p∈ps,qb p
 ln:ls.map (·.name)=(List.range ls.length).map (dw d.c3)
 pn:ps.map (·.name)=(List.range ps.length).map (dw d.c4)
theorem pF.seqS {d:Dw} {H:Hp} {ls:List aG} {ps:List PD} {os:List Str} (D:pF d H ls ps os):bK K H d.S [.ref d.L,.ref d.P,.ref d.O,.int d.c3,.int d.c4]:=bK.of (bu _ _ D.top)
theorem pF.has {d:Dw} {H:Hp} {ls:List aG} {ps:List PD} {os:List Str} (D:pF d H ls ps os) {a:Addr} (h:a∈d.E):∃o,H a=some o:=by
 obtain⟨_,e1,_⟩:=D.lanes
 obtain⟨_,e2,_⟩:=D.parts
 rcases List.mem_cons.mp h with rfl | h
 ·exact⟨_,e1⟩
 ·rcases List.mem_cons.mp h with rfl | h
  ·exact⟨_,e2⟩
  ·rw [List.mem_singleton] at h
   subst h
   exact⟨_,D.opens⟩
theorem pF.out {d:Dw} {H:Hp} {ls:List aG} {ps:List PD} {os:List Str} (D:pF d H ls ps os) {p:Addr} (h:H p=none):p∉d.E:=fun z=>by
 obtain⟨o,e⟩:=D.has z
 rw [h] at e
 cases e
theorem pF.keep {d:Dw} {H H':Hp} {ls:List aG} {ps:List PD} {os:List Str} (D:pF d H ls ps os) (s:aJ H H'):pF d H' ls ps os:=by
 obtain⟨xs,e1,a1⟩:=D.lanes
 obtain⟨ys,e2,a2⟩:=D.parts
 have c:=Kl (E:=d.E) s (fun a h=>D.has h)
 exact⟨c _ _ D.top,⟨xs,s _ _ e1,a1.imp fun _ _ h=>h.same c⟩,⟨ys,s _ _ e2,a2.imp fun _ _ h=>h.same c⟩,s _ _ D.opens,D.ne,D.lok,D.pok,D.ln,D.pn⟩
theorem pF.cut {d:Dw} {H H':Hp} {ls:List aG} {ps:List PD} {os:List Str} (D:pF d H ls ps os) (s:aJ H H'):aJ (aX d.E H) (aX d.E H'):=Kl s (fun _ h=>D.has h)
theorem GK {α:Type} {f:α->Str} {w:Nat->Str} {l:List α} {x:α} (h:l.map f=(List.range l.length).map w) (hx:f x=w l.length):(l ++ [x]).map f=(List.range (l ++ [x]).length).map w:=by
 rw [List.map_append,lP,List.length_singleton,List.range_succ,List.map_append,h,List.map_singleton,List.map_singleton,hx]
theorem pF.lane {d:Dw} {H:Hp} {ls:List aG} {ps:List PD} {os:List Str} (D:pF d H ls ps os) {v:V} {l:aG} (h:j6 (aX d.E H) v l) (hl:l.ok) (hn:l.name=dw d.c3 ls.length) {xs:List V} (e:H d.L=some (.lst xs)):
  pF d (upd H d.L (.lst (xs ++ [v]))) (ls ++ [l]) ps os:=by
 obtain⟨xs',e1,a1⟩:=D.lanes
 obtain⟨ys,e2,a2⟩:=D.parts
 rw [e] at e1
 cases e1
 have c:aX d.E (upd H d.L (.lst (xs ++ [v])))=aX d.E H:=eU (by simp)
 refine⟨by rw [c];exact D.top,⟨_,ao,by rw [c];exact a1.app (.cons h .nil)⟩,⟨ys,by rw [aH (Ne.symm D.ne.1)];exact e2,by rw [c];exact a2⟩,by rw [aH (Ne.symm D.ne.2.1)];exact D.opens,D.ne,fun x hx=>?_,D.pok,GK D.ln hn,D.pn⟩
 rcases List.mem_append.mp hx with hx | hx
 ·exact D.lok x hx
 ·rw [List.mem_singleton] at hx
  subst hx
  exact hl
theorem pF.part {d:Dw} {H:Hp} {ls:List aG} {ps:List PD} {os:List Str} (D:pF d H ls ps os) {v:V} {p:PD} (h:sW (aX d.E H) v p) (hl:qb p) (hn:p.name=dw d.c4 ps.length) {xs:List V} (e:H d.P=some (.lst xs)):
  pF d (upd H d.P (.lst (xs ++ [v]))) ls (ps ++ [p]) os:=by
 obtain⟨xs',e1,a1⟩:=D.lanes
 obtain⟨ys,e2,a2⟩:=D.parts
 rw [e] at e2
 cases e2
 have c:aX d.E (upd H d.P (.lst (xs ++ [v])))=aX d.E H:=eU (by simp)
 refine⟨by rw [c];exact D.top,⟨_,by rw [aH D.ne.1];exact e1,by rw [c];exact a1⟩,⟨_,ao,by rw [c];exact a2.app (.cons h .nil)⟩,by rw [aH (Ne.symm D.ne.2.2)];exact D.opens,D.ne,D.lok,fun x hx=>?_,D.ln,GK D.pn hn⟩
 rcases List.mem_append.mp hx with hx | hx
 ·exact D.pok x hx
 ·rw [List.mem_singleton] at hx
  subst hx
  exact hl
theorem pF.open {d:Dw} {H:Hp} {ls:List aG} {ps:List PD} {os os':List Str} (D:pF d H ls ps os):pF d (upd H d.O (.lst (os'.map V.str))) ls ps os':=by
 obtain⟨xs,e1,a1⟩:=D.lanes
 obtain⟨ys,e2,a2⟩:=D.parts
 have c:aX d.E (upd H d.O (.lst (os'.map V.str)))=aX d.E H:=eU (by simp)
 exact⟨by rw [c];exact D.top,⟨xs,by rw [aH D.ne.2.1];exact e1,by rw [c];exact a1⟩,⟨ys,by rw [aH D.ne.2.2];exact e2,by rw [c];exact a2⟩,ao,D.ne,D.lok,D.pok,D.ln,D.pn⟩
theorem Bq (a:Int) {n:Nat} (h:n<=26):((List.range n).map (dw a)).Nodup:=by
 induction n with
 | zero=>exact List.nodup_nil
 | succ n ih=>
  rw [List.range_succ,List.map_append,List.nodup_append]
  refine⟨ih (by omega),by simp,fun x hx y hy=>?_⟩
  obtain⟨j,hj,rfl⟩:=List.mem_map.mp hx
  rw [List.map_singleton,List.mem_singleton] at hy
  subst hy
  have hj':=List.mem_range.mp hj
  intro z
  have:=Kv a (by omega) (by omega) z
  omega
noncomputable abbrev u5 (ls:List aG) (ps:List PD) (os back:List Str):Drawn.NS Str:=⟨ls.map (·.name),ps,os,back⟩
theorem pF.nod {d:Dw} {H:Hp} {ls:List aG} {ps:List PD} {os:List Str} (D:pF d H ls ps os) (h:ls.length<=26):(ls.map (·.name)).Nodup:=by
 rw [D.ln]
 exact Bq _ h
theorem WQ {ns:Drawn.NS Str} (w:Drawn.WF ns) {os:List Str} (h:ns.opens.Perm os):Drawn.WF { ns with opens:=os }:=
 ⟨w.nod,w.outs,(h.symm.append_left _).trans w.ins,fun p hp=>by
  obtain⟨x,hx,o,ho,c⟩:=w.hang p hp
  exact⟨x,hx,o,h.mem_iff.mp ho,c⟩,w.touch⟩
theorem sU {d:Dw} {H:Hp} {ls newl:List aG} {ps:List PD} {p:PD} {os ops back:List Str} (w:Drawn.WF (u5 ls ps ops back)) (ho:p.outs=newl.map (·.name)) (D:pF d H (ls ++ newl) (ps ++ [p]) (os ++ newl.map (·.name))) (hi:ops.Perm (p.ins ++ os)) (hne:newl.length≠0) (hl:(ls ++ newl).length<=26):
  Drawn.WF (u5 (ls ++ newl) (ps ++ [p]) (os ++ newl.map (·.name)) back):=by
 have nd:=D.nod hl
 rw [List.map_append] at nd
 have:=w.part (p:=p) hi (by rw [ho];exact nd) (by rw [ho];intro z;exact hne (by rw [<-lM (f:=fun l:aG=>l.name),z];rfl))
 rw [ho] at this
 unfold u5
 rw [List.map_append]
 exact this
structure Zu (d:Dw) (H H':Hp) (ls:List aG) (ps:List PD) (back:List Str) (ls':List aG) (ps':List PD) (os':List Str):Prop where
 cut:aJ (aX d.E H) (aX d.E H')
 at':pF d H' ls' ps' os'
 wf:Drawn.WF (u5 ls' ps' os' back)
 o1:1<=os'.length
 o4:os'.length<=4
 l2:ls'.length<=ls.length+2
 p2:ps'.length<=ps.length+2
theorem Du {c X Y B:Prop} [Decidable c] (k:B) (hx:c->B->X) (hy:B->Y):if c then X else Y:=by
 split
 ·rename_i h;exact hx h k
 ·exact hy k
theorem hide {t u:TS} {D:Ends} {σ:St} {H:Hp} (h:∀v,v=u->zr t v D σ H):zr t u D σ H:=h u rfl
theorem RM {i:Nat} {x:V} {t u:TS} {D:Ends} {σ:St} {H:Hp} (h:∀E,E=D->∀v,v=u->zr t v E (σ.set i (some x)) H):zq i x σ H fun σ2 H2=>zr t u D σ2 H2:=h D rfl u rfl
theorem Vr {i:Nat} {x:V} {t:TS} {D:Ends} {σ:St} {H:Hp} (h:∀E,E=D->t E (σ.set i (some x)) H):zq i x σ H fun σ2 H2=>t D σ2 H2:=h D rfl
theorem Xj {t u:TS} {D:Ends} {σ:St} {H:Hp} (h:∀E,E=D->∀v,v=u->zr t v E σ H):zr t u D σ H:=h D rfl u rfl
theorem dI {t u v:TS} {D:Ends} {σ:St} {H:Hp} (hv:v=zr t u) (h:∀w,w=u->zr t w D σ H):v D σ H:=by
 subst hv
 exact h u rfl
theorem pF.two {d:Dw} {H:Hp} {ls:List aG} {ps:List PD} {os:List Str} (D:pF d H ls ps os) {a1 a2:Addr} {x y:HO} (n1:H a1=none) (n2:upd H a1 x a2=none):
  pF d (upd (upd H a1 x) a2 y) ls ps os/\aX d.E (upd (upd H a1 x) a2 y) a1=some x/\aX d.E (upd (upd H a1 x) a2 y) a2=some y/\aJ (aX d.E H) (aX d.E (upd (upd H a1 x) a2 y)):=by
 have s1:=aB (o:=x) n1
 have s2:=aB (o:=y) n2
 have s:=s1.trans s2
 exact⟨D.keep s,bH (s2 _ _ ao) (D.out n1),bH ao (D.out (s1.free n2)),D.cut s⟩
structure G3 (lanes:List Str) (ps:List PD):Prop where
 nod:lanes.Nodup
 outs:(ps.flatMap (·.outs)).Perm lanes
 ins:(ps.flatMap (·.ins)).Perm lanes
 hang:∃y,∀q∈ps,∃x∈q.ins ++ q.outs,Drawn.jJ ps x y
noncomputable def Qu (H:Hp) (a:Addr):Nat:=match H a with
 | some (.lst xs)=>xs.length
 | _=>0
theorem KC {H:Hp} {a:Addr} {xs:List V} (h:H a=some (.lst xs)):Qu H a=xs.length:=by
 unfold Qu
 rw [h]
theorem MK (m:Int) {n:Int} {k:Nat} (h0:0 <n) (hk:n=k):∃j:Nat,m % n=(j:Int)/\j <k:=by
 have h1:=Int.emod_nonneg m (Int.ne_of_gt h0)
 have h2:=Int.emod_lt_of_pos m h0
 exact⟨(m % n).toNat,(Int.toNat_of_nonneg h1).symm,by omega⟩
theorem Xz (m:Int):∃i:Nat,J0 [V.str "add",V.str "less",V.str "add"] (m % 3)=some (.str (cT i))/\(i=6∨i=7):=by
 have key:∀j,j <3->J0 [V.str "add",V.str "less",V.str "add"] ((j:Nat):Int)=some (.str (cT (([6,7,6]:List Nat).getD j 0)))/\(([6,7,6]:List Nat).getD j 0=6∨([6,7,6]:List Nat).getD j 0=7):=by decide +kernel
 obtain⟨j,e,hj⟩:=MK m (n:=3) (k:=3) (by decide) rfl
 rw [e]
 exact⟨_,key j hj⟩
structure Sq (c3 c4:Int) (ls:List aG) (ps:List PD):Prop where
 lok:∀l∈ls,l.ok
 pok:∀p∈ps,qb p
 ln:ls.map (·.name)=(List.range ls.length).map (dw c3)
 pn:((List.range ps.length).map (dw c4)).Perm (ps.map (·.name))
 whole:G3 (ls.map (·.name)) ps
 l1:1<=ls.length
 l17:ls.length<=17
 p1:1<=ps.length
 p16:ps.length<=16
structure BV (H:Hp) (L P:Addr) (ls:List aG) (ps:List PD):Prop where
 lanes:∃xs,H L=some (.lst xs)/\iy (j6 H) xs ls
 parts:∃xs,H P=some (.lst xs)/\iy (sW H) xs ps
theorem BV.same {H H':Hp} {L P:Addr} {ls:List aG} {ps:List PD} (h:BV H L P ls ps) (s:aJ H H'):BV H' L P ls ps:=by
 obtain⟨⟨xs,e1,a1⟩,⟨ys,e2,a2⟩⟩:=h
 exact⟨⟨xs,s _ _ e1,a1.imp fun _ _ h=>h.same s⟩,⟨ys,s _ _ e2,a2.imp fun _ _ h=>h.same s⟩⟩
theorem PX {ps qs:List PD} (h:ps.Perm qs) {x y:Str} (c:Drawn.jJ ps x y):Drawn.jJ qs x y:=c.mono fun _ hp=>h.mem_iff.mp hp
theorem G3.perm {ns:List Str} {ps qs:List PD} (w:G3 ns ps) (h:ps.Perm qs):G3 ns qs:=by
 obtain⟨y,hy⟩:=w.hang
 exact⟨w.nod,(h.symm.flatMap_right _).trans w.outs,(h.symm.flatMap_right _).trans w.ins,y,fun q hq=>by
  obtain⟨x,hx,c⟩:=hy q (h.mem_iff.mpr hq)
  exact⟨x,hx,PX h c⟩⟩
theorem Qx {α:Type} (l:List α) (n:Nat):l.Perm (l.drop n ++ l.take n):=by
 have h:l.Perm (l.take n ++ l.drop n):=by rw [List.take_append_drop]
 exact h.trans List.perm_append_comm
theorem O1 (xs:List V) (g:Nat):yp xs (some (g:Int)) none=xs.drop g:=by
 unfold yp
 rw [HT.zM,HT.wI,<-List.length_drop,List.take_length]
 rcases Nat.le_total g xs.length with h | h
 ·rw [Nat.min_eq_left h]
 ·rw [Nat.min_eq_right h,List.drop_length,List.drop_eq_nil_of_le h]
theorem Ua (xs:List V) (g:Nat):yp xs none (some (g:Int))=xs.take g:=by
 unfold yp
 rw [HT.zM,HT.wI,List.drop_zero,Nat.sub_zero]
 rcases Nat.le_total g xs.length with h | h
 ·rw [Nat.min_eq_left h]
 ·rw [Nat.min_eq_right h,List.take_length,List.take_of_length_le h]
theorem pF.init {H:Hp} {S L P O:Addr} (c3 c4:Int) (nL:H L=none) (nP:upd H L (.lst []) P=none) (nO:upd (upd H L (.lst [])) P (.lst []) O=none) (nS:upd (upd (upd H L (.lst [])) P (.lst [])) O (.lst []) S=none):
  pF ⟨S,L,P,O,c3,c4⟩ (upd (upd (upd (upd H L (.lst [])) P (.lst [])) O (.lst [])) S (.lst [.ref L,.ref P,.ref O,.int c3,.int c4])) [] [] []/\aJ H (aX [L,P,O] (upd (upd (upd (upd H L (.lst [])) P (.lst [])) O (.lst [])) S (.lst [.ref L,.ref P,.ref O,.int c3,.int c4])))/\H P=none:=by
 have s1:=aB (o:=.lst []) nL
 have s2:=aB (o:=.lst []) nP
 have s3:=aB (o:=.lst []) nO
 have s4:=aB (o:=.lst [.ref L,.ref P,.ref O,.int c3,.int c4]) nS
 have e1:=s4 _ _ (s3 _ _ (s2 L (.lst []) ao))
 have e2:=s4 _ _ (s3 P (.lst []) ao)
 have e3:=s4 O (.lst []) ao
 have n1:L≠P:=aD (ao (H:=H) (o:=.lst [])) nP
 have n2:L≠O:=aD (s2 L (.lst []) ao) nO
 have n3:P≠O:=aD (ao (H:=upd H L (.lst [])) (o:=.lst [])) nO
 have m1:L≠S:=aD (s3 _ _ (s2 L (.lst []) ao)) nS
 have m2:P≠S:=aD (s3 P (.lst []) ao) nS
 have m3:O≠S:=aD (ao (H:=upd (upd H L (.lst [])) P (.lst [])) (o:=.lst [])) nS
 refine⟨⟨bH ao ?_,⟨[],e1,.nil⟩,⟨[],e2,.nil⟩,e3,⟨n1,n2,n3⟩,(fun _ h=>by cases h),(fun _ h=>by cases h),rfl,rfl⟩,fun b o e=>bH (s4 _ _ (s3 _ _ (s2 _ _ (s1 _ _ e)))) ?_,s1.free nP⟩
 ·show S∉[L,P,O]
  simp [m1.symm,m2.symm,m3.symm]
 ·have q1:=aD e nL
  have q2:=aD (s1 _ _ e) nP
  have q3:=aD (s2 _ _ (s1 _ _ e)) nO
  simp [q1,q2,q3]
noncomputable abbrev LET:Str:= "abcdefghijklmnopqrstuvwxyz"
noncomputable abbrev Zz:Str:= "0123456789"
theorem Px:LET.cps.toList=List.range' 97 26:=by decide +kernel
theorem PN:Zz.cps.toList=List.range' 48 10:=by decide +kernel
theorem Qv (c:Nat):(!(Builtin.Str.occurrences LET ⟨#[c]⟩ 0 LET.length 1).isEmpty)=low c:=by
 rw [StrLaws.found_one,Px]
 unfold low
 rw [Bool.eq_iff_iff]
 simp [List.mem_range'_1]
 omega
theorem Xa (c:Nat):(!(Builtin.Str.occurrences Zz ⟨#[c]⟩ 0 Zz.length 1).isEmpty)=MP c:=by
 rw [StrLaws.found_one,PN]
 unfold MP
 rw [Bool.eq_iff_iff]
 simp [List.mem_range'_1]
 omega
structure UV (ms:List Str) (want:List (Str×V)) (fs:List (Str×V)):Prop where
 has:∀p∈want,fs.lookup p.1=some p.2
 no:∀m∈ms,fs.lookup m=none
theorem jo {H:Hp} {d:Addr} {kvs:List (Key×V)} {v:HO} (e:H d=some (.dK kvs)) {b:Addr} {u:HO} (h:H b=some u) (hu:∀ks,u≠.dK ks):upd H d v b=some u:=by
 rw [aH]
 ·exact h
 ·rintro rfl
  rw [e] at h
  exact hu _ (Option.some.inj h).symm
theorem gJ {H:Hp} {d a:Addr} {kvs:List (Key×V)} {v:HO} {xs:List V} (e:H d=some (.dK kvs)) (h:fC K H a xs):fC K (upd H d v) a xs:=by
 rcases h with (h | ⟨o,h⟩) | h
 ·exact .inl (.inl (jo e h (by intro _ z;cases z)))
 ·exact .inl (.inr ⟨o,jo e h (by intro _ z;cases z)⟩)
 ·exact .inr h
theorem fL.chill {H:Hp} {d p:Addr} {kvs:List (Key×V)} {v:HO} {i:Nat} {nm:V} {ns is os:List V} (e:H d=some (.dK kvs)) (h:fL K t H p i nm ns is os):fL K t (upd H d v) p i nm ns is os:=by
 obtain⟨dx,tn,ti,to,h1,h2,h3,h4⟩:=h
 exact⟨dx,tn,ti,to,jo e h1 (by intro _ z;cases z),gJ e h2,gJ e h3,gJ e h4⟩
theorem Qc {H:Hp} {d D:Addr} {kvs:List (Key×V)} {o:Obj} {u:HO} (e:H d=some (.dK kvs)) (hD:(upd H d (.frz o (.dK kvs))) D=none):upd (upd (upd H d (.frz o (.dK kvs))) D u) d (.dK kvs)=upd H D u:=by
 have n:D≠d:=by rintro rfl;rw [ao] at hD;cases hD
 funext b
 by_cases h:b=d
 ·subst h
  rw [ao,aH (Ne.symm n)]
  exact e.symm
 ·rw [aH h]
  unfold upd
  rw [if_neg h]
theorem yc {H:Hp} {d D:Addr} {v:HO} (hD:(upd H d v) D=none):H D=none:=by
 by_cases h:D=d
 ·subst h;rw [ao] at hD;cases hD
 ·rw [aH h] at hD;exact hD
theorem JG {H:Hp} {a:Addr} {o:HO} (e:H a=some o):upd H a o=H:=by
 funext b
 unfold upd
 split
 ·rename_i h;rw [h];exact e.symm
 ·rfl
theorem ig {κ:Type} [DecidableEq κ] {kvs:List (κ×V)} {k:κ} (h:k∉kvs.map (·.1)):cD kvs k=none:=by
 induction kvs with
 | nil=>rfl
 | cons p r ih=>
  simp only [List.map_cons,List.mem_cons,not_or] at h
  rw [iz (Ne.symm h.1)]
  exact ih h.2
theorem ju {κ:Type} [DecidableEq κ] {kvs:List (κ×V)} {k:κ} {v:V} (nd:(kvs.map (·.1)).Nodup) (h:(k,v)∈kvs):cD kvs k=some v:=by
 induction kvs with
 | nil=>cases h
 | cons p r ih=>
  simp only [List.map_cons,List.nodup_cons] at nd
  rcases List.mem_cons.mp h with h | h
  ·subst h
   exact jl rfl
  ·have:¬p.1=k:=fun z=>nd.1 (List.mem_map.mpr ⟨_,h,z.symm⟩)
   rw [iz this]
   exact ih nd.2 h
noncomputable def dg (f:PD->List Str) (ps:List PD):List (Key×V):=ps.flatMap fun p=>(f p).map fun l=>((Sum.inr l:Key),V.str p.name)
theorem xR (f:PD->List Str) (ps:List PD):(dg f ps).map (·.1)=(ps.flatMap f).map (fun l=>(Sum.inr l:Key)):=by
 induction ps with
 | nil=>rfl
 | cons p r ih=>
  unfold dg at ih ⊢
  simp only [List.flatMap_cons,List.map_append,ih,List.map_map]
  rfl
theorem ik {l:List Str} (h:l.Nodup):(l.map (fun x=>(Sum.inr x:Key))).Nodup:=by
 induction l with
 | nil=>exact List.nodup_nil
 | cons a r ih=>
  simp only [List.map_cons,List.nodup_cons,List.mem_map] at h ⊢
  refine⟨?_,ih h.2⟩
  rintro⟨b,hb,e⟩
  cases e
  exact h.1 hb
theorem jD {f:PD->List Str} {ps:List PD} (nd:(ps.flatMap f).Nodup) {p:PD} (hp:p∈ps) {l:Str} (hl:l∈f p):cD (dg f ps) (Sum.inr l)=some (.str p.name):=
 ju (by rw [xR];exact ik nd) (List.mem_flatMap.mpr ⟨p,hp,List.mem_map.mpr ⟨l,hl,rfl⟩⟩)
theorem Ec {f:PD->List Str} {ps:List PD} {l:Str} (h:l∉ps.flatMap f):cD (dg f ps) (Sum.inr l)=none:=ig (by
 rw [xR]
 intro z
 obtain⟨b,hb,e⟩:=List.mem_map.mp z
 cases e
 exact h hb)
theorem Pa (f:PD->List Str) (ps:List PD):(dg f ps).length=(ps.flatMap f).length:=by
 have:=congrArg List.length (xR f ps)
 simpa using this
theorem Et (f:PD->List Str) (ps:List PD) (p:PD):dg f (ps ++ [p])=dg f ps ++ (f p).map fun l=>((Sum.inr l:Key),V.str p.name):=by
 unfold dg
 rw [List.flatMap_append]
 simp
theorem Oi {α:Type} {f g:α->Bool}:∀{l:List α},(∀a∈l,g a=true->f a=true)->(∃a∈l,f a=true/\g a=false)->(l.filter g).length <(l.filter f).length
 | [],_,h=>by obtain⟨a,ha,_⟩:=h;cases ha
 | x:: r,h,h2=>by
  have le:∀r:List α,(∀a∈r,g a=true->f a=true)->(r.filter g).length<=(r.filter f).length:=fun r=>by
   induction r with
   | nil=>intro _;exact Nat.le_refl _
   | cons y t ih=>
    intro q
    have:=ih fun a ha=>q a (List.mem_cons_of_mem _ ha)
    have q0:=q y List.mem_cons_self
    rw [List.filter_cons,List.filter_cons]
    cases hg:g y
    ·simp only [Bool.false_eq_true,if_false]
     split
     ·rw [List.length_cons];omega
     ·exact this
    ·rw [q0 hg]
     simp only [if_true,List.length_cons]
     omega
  obtain⟨a,ha,hf,hg⟩:=h2
  have hr:=fun a ha=>h a (List.mem_cons_of_mem x ha)
  rw [List.filter_cons,List.filter_cons]
  rcases List.mem_cons.mp ha with rfl | ha
  ·rw [hf,hg]
   have:=le r hr
   simp
   omega
  ·have ih:=Oi hr ⟨a,ha,hf,hg⟩
   have q0:=h x List.mem_cons_self
   cases hx:g x
   ·simp only [Bool.false_eq_true,if_false]
    split
    ·rw [List.length_cons];omega
    ·exact ih
   ·rw [q0 hx]
    simp only [if_true,List.length_cons]
    omega
noncomputable def jd (jk:List (Key×V)) (x:Str):Bool:=(cD jk (Sum.inr x)).isSome
noncomputable def qd (ps:List PD) (jk:List (Key×V)):Nat:=(ps.filter fun p=>!jd jk p.name).length
theorem Ku (jk:List (Key×V)) (x y:Str) (v:V):jd (putK jk (Sum.inr x) v) y=(decide (y=x) || jd jk y):=by
 unfold jd
 rw [RP]
 by_cases h:y=x
 ·subst h;simp
 ·have:¬(Sum.inr y:Key)=Sum.inr x:=fun z=>h (Sum.inr.inj z)
  rw [if_neg this]
  simp [h]
theorem Lx {ps:List PD} {jk jk':List (Key×V)} (h:∀x,jd jk x=true->jd jk' x=true) {p:PD} (hp:p∈ps) (h1:jd jk p.name=false) (h2:jd jk' p.name=true):qd ps jk' <qd ps jk:=by
 refine Oi (fun a _ q=>?_) ⟨p,hp,by simp [h1],by simp [h2]⟩
 cases hj:jd jk a.name
 ·rfl
 ·rw [h _ hj] at q;cases q
theorem Qj {ps:List PD} (pm:(ps.flatMap (·.outs)).Perm (ps.flatMap (·.ins))) {l:Str} (h:l∈ps.flatMap (·.outs)):∃a∈ps,∃b∈ps,l∈a.outs/\l∈b.ins:=by
 obtain⟨a,ha,hl⟩:=List.mem_flatMap.mp h
 obtain⟨b,hb,hl2⟩:=List.mem_flatMap.mp (pm.mem_iff.mp h)
 exact⟨a,ha,b,hb,hl,hl2⟩
theorem WR {ps:List PD} (no:(ps.flatMap (·.outs)).Nodup) (ni:(ps.flatMap (·.ins)).Nodup) (pm:(ps.flatMap (·.outs)).Perm (ps.flatMap (·.ins))) {jk:List (Key×V)} (hang:∃y,∀q∈ps,∃x∈q.ins ++ q.outs,Drawn.jJ ps x y)
  (cl:∀a∈ps,∀b∈ps,∀l,l∈a.outs->l∈b.ins->jd jk a.name=jd jk b.name) {p0:PD} (hp0:p0∈ps) (h0:jd jk p0.name=true):∀q∈ps,jd jk q.name=true:=by
 obtain⟨y,hy⟩:=hang
 refine Drawn.M3 (J:=fun p=>jd jk p.name=true) (fun l p q hp hq hlp hlq hJ=>?_) hy hp0 h0
 have same:∀{f:PD->List Str},(ps.flatMap f).Nodup->∀{a b:PD},a∈ps->b∈ps->l∈f a->l∈f b->a.name=b.name:=fun {f} nd {a b} ha hb h1 h2=>by
  obtain⟨i,hi,ei⟩:=List.mem_iff_getElem.mp ha
  obtain⟨j,hj,ej⟩:=List.mem_iff_getElem.mp hb
  have:=Drawn.OD f nd (i:=i) (j:=j) (p:=a) (q:=b) (l:=l) (by rw [List.getElem?_eq_getElem hi,ei]) (by rw [List.getElem?_eq_getElem hj,ej]) h1 h2
  subst this
  rw [<-ei,<-ej]
 have hl:l∈ps.flatMap (·.outs):=by
  rcases List.mem_append.mp hlp with h | h
  ·exact pm.mem_iff.mpr (List.mem_flatMap.mpr ⟨p,hp,h⟩)
  ·exact List.mem_flatMap.mpr ⟨p,hp,h⟩
 obtain⟨a,ha,b,hb,la,lb⟩:=Qj pm hl
 have e:=cl a ha b hb l la lb
 have np:p.name=a.name∨p.name=b.name:=(List.mem_append.mp hlp).elim (fun h=>.inr (same ni hp hb h lb)) fun h=>.inl (same no hp ha h la)
 have nq:q.name=a.name∨q.name=b.name:=(List.mem_append.mp hlq).elim (fun h=>.inr (same ni hq hb h lb)) fun h=>.inl (same no hq ha h la)
 show jd jk q.name=true
 change jd jk p.name=true at hJ
 rcases np with np | np <;> rcases nq with nq | nq <;> rw [np] at hJ <;> rw [nq]
 ·exact hJ
 ·rw [<-e];exact hJ
 ·rw [e];exact hJ
 ·exact hJ
theorem G5 {z:Str} (h:nameB z=true):z.length<=100:=by
 unfold nameB at h
 rw [<-pO]
 split at h
 ·simp_all
 ·rename_i e
  rw [e]
  simp only [Bool.and_eq_true,decide_eq_true_eq] at h
  rw [List.length_cons]
  omega
structure qF (ls:List aG) (ps:List PD):Prop where
 lok:∀l∈ls,1<=l.room/\l.room<=199/\(l.first.length:Int)<=l.room/\∀v∈l.first,0<=v/\v <1000000000
 pok:∀p∈ps,qb p
 lnm:∀l∈ls,nameB l.name=true
 pnm:∀p∈ps,nameB p.name=true
 pnd:(ps.map (·.name)).Nodup
 whole:G3 (ls.map (·.name)) ps
 l1:1<=ls.length
 l24:ls.length<=24
 p1:1<=ps.length
 p16:ps.length<=16
theorem Jk {c:Int} {n:Nat} (hn:n<=26) {x:Str} (h:x∈(List.range n).map (dw c)):∃k,k <n/\x=dw c k:=by
 obtain⟨k,hk,rfl⟩:=List.mem_map.mp h
 exact⟨k,List.mem_range.mp hk,rfl⟩
theorem Sq.fit {c3 c4:Int} {ls:List aG} {ps:List PD} (h:Sq c3 c4 ls ps):qF ls ps:=by
 have a:=h.l17
 have b:=h.p16
 refine⟨fun l hl=>?_,h.pok,fun l hl=>?_,fun p hp=>?_,?_,h.whole,h.l1,by omega,h.p1,h.p16⟩
 ·obtain⟨x1,x2,x3,x4⟩:=h.lok l hl
  exact⟨x1,by omega,x3,x4⟩
 ·obtain⟨k,hk,e⟩:=Jk (c:=c3) (n:=ls.length) (by omega) (by rw [<-h.ln];exact List.mem_map.mpr ⟨l,hl,rfl⟩)
  rw [e]
  exact NT _ (by omega)
 ·obtain⟨k,hk,e⟩:=Jk (c:=c4) (n:=ps.length) (by omega) (h.pn.mem_iff.mpr (List.mem_map.mpr ⟨p,hp,rfl⟩))
  rw [e]
  exact NT _ (by omega)
 ·exact h.pn.nodup_iff.mp (Bq _ (by omega))
theorem Sq.lane20 {c3 c4:Int} {ls:List aG} {ps:List PD} (h:Sq c3 c4 ls ps):dw c3 20∉ls.map (·.name):=fun z=>by
 have a:=h.l17
 rw [h.ln] at z
 obtain⟨k,hk,e⟩:=Jk (by omega) z
 have:=Kv _ (by omega) (by omega) e
 omega
noncomputable def dD (ls:List aG):List (Key×V):=ls.map fun l=>((Sum.inr l.name:Key),V.int l.room)
noncomputable def bQ (FL:List (aG×Addr)):List (Key×V):=FL.map fun q=>((Sum.inr q.1.name:Key),V.ref q.2)
noncomputable def cY (PL:List (PD×Addr)):List (Key×V):=PL.map fun q=>((Sum.inr q.1.name:Key),V.ref q.2)
theorem vZ (ls:List aG):(dD ls).map (·.1)=(ls.map (·.name)).map (fun x=>(Sum.inr x:Key)):=by unfold dD;rw [List.map_map,List.map_map];rfl
theorem ul (FL:List (aG×Addr)):(bQ FL).map (·.1)=((FL.map (·.1)).map (·.name)).map (fun x=>(Sum.inr x:Key)):=by unfold bQ;rw [List.map_map,List.map_map,List.map_map];rfl
theorem Bk (PL:List (PD×Addr)):(cY PL).map (·.1)=((PL.map (·.1)).map (·.name)).map (fun x=>(Sum.inr x:Key)):=by unfold cY;rw [List.map_map,List.map_map,List.map_map];rfl
structure uV (K:PySem.W.Frag) (t:jL) (H:Hp) (n:Addr) (ls:List aG) (ps:List PD) (dx:Addr) (fs:List (Str×V)) (R F Pd G Tk:Addr) (FL:List (aG×Addr)) (PL:List (PD×Addr)):Prop where
 obj:H n=some (.ins t.dR dx fs)
 fl:UV ["lane_names", "part_names", "names_of_kind", "gives", "takes", "need_lane_name", "room_of", "first_of", "part_of", "told", "__init__"] [("rooms",.ref R),("firsts",.ref F),("parts",.ref Pd),("givers",.ref G),("takers",.ref Tk)] fs
 rooms:H R=some (.dK (dD ls))
 firsts:H F=some (.dK (bQ FL))
 parts:H Pd=some (.dK (cY PL))
 givers:H G=some (.dK (dg (·.outs) ps))
 takers:H Tk=some (.dK (dg (·.ins) ps))
 fls:FL.map (·.1)=ls
 pls:PL.map (·.1)=ps
 tups:∀q∈FL,fC K H q.2 (q.1.first.map V.int)
 pats:∀q∈PL,fL K t H q.2 q.1.kind (.str q.1.name) (q.1.nums.map V.int) (q.1.ins.map V.str) (q.1.outs.map V.str)
 fit:qF ls ps
 neRF:R≠F
inductive fO (K:PySem.W.Frag) (t:jL) (H:Hp) (n:Addr) (ls:List aG) (ps:List PD):Prop where
 | mk:∀dx fs R F Pd G Tk FL PL,uV K t H n ls ps dx fs R F Pd G Tk FL PL->fO K t H n ls ps
section
variable {H H':Hp} {n dx R F Pd G Tk:Addr} {ls:List aG} {ps:List PD} {fs:List (Str×V)} {FL:List (aG×Addr)} {PL:List (PD×Addr)}
theorem uV.same (N:uV K t H n ls ps dx fs R F Pd G Tk FL PL) (s:aJ H H'):uV K t H' n ls ps dx fs R F Pd G Tk FL PL:=
 ⟨s _ _ N.obj,N.fl,s _ _ N.rooms,s _ _ N.firsts,s _ _ N.parts,s _ _ N.givers,s _ _ N.takers,N.fls,N.pls,fun q hq=>s.seqT (N.tups q hq),fun q hq=>(N.pats q hq).same s,N.fit,N.neRF⟩
theorem fO.same (N:fO K t H n ls ps) (s:aJ H H'):fO K t H' n ls ps:=by
 obtain⟨dx,fs,R,F,Pd,G,Tk,FL,PL,N⟩:=N
 exact⟨dx,fs,R,F,Pd,G,Tk,FL,PL,N.same s⟩
theorem uV.s (N:uV K t H n ls ps dx fs R F Pd G Tk FL PL):fO K t H n ls ps:=⟨dx,fs,R,F,Pd,G,Tk,FL,PL,N⟩
theorem uV.room (N:uV K t H n ls ps dx fs R F Pd G Tk FL PL) {l:aG} (hl:l∈ls):cD (dD ls) (Sum.inr l.name)=some (.int l.room):=
 ju (by rw [vZ];exact ik N.fit.whole.nod) (List.mem_map.mpr ⟨l,hl,rfl⟩)
theorem uV.firstV (N:uV K t H n ls ps dx fs R F Pd G Tk FL PL) {q:aG×Addr} (hq:q∈FL):cD (bQ FL) (Sum.inr q.1.name)=some (.ref q.2):=
 ju (by rw [ul,N.fls];exact ik N.fit.whole.nod) (List.mem_map.mpr ⟨q,hq,rfl⟩)
theorem uV.partV (N:uV K t H n ls ps dx fs R F Pd G Tk FL PL) {q:PD×Addr} (hq:q∈PL):cD (cY PL) (Sum.inr q.1.name)=some (.ref q.2):=
 ju (by rw [Bk,N.pls];exact ik N.fit.pnd) (List.mem_map.mpr ⟨q,hq,rfl⟩)
theorem uV.ono (N:uV K t H n ls ps dx fs R F Pd G Tk FL PL):(ps.flatMap (·.outs)).Nodup:=N.fit.whole.outs.nodup_iff.mpr N.fit.whole.nod
theorem uV.ini (N:uV K t H n ls ps dx fs R F Pd G Tk FL PL):(ps.flatMap (·.ins)).Nodup:=N.fit.whole.ins.nodup_iff.mpr N.fit.whole.nod
end
theorem JT {α:Type} {f:α->Str} {xs:List α} {x:Str}:inV (.str x) (xs.map fun p=>V.str (f p))=decide (x∈xs.map f):=by
 rw [Bool.eq_iff_iff]
 unfold inV
 rw [List.any_eq_true,decide_eq_true_eq]
 constructor
 ·rintro⟨v,hv,e⟩
  obtain⟨p,hp,rfl⟩:=List.mem_map.mp hv
  exact List.mem_map.mpr ⟨p,hp,by simpa [JR] using e⟩
 ·intro h
  obtain⟨p,hp,rfl⟩:=List.mem_map.mp h
  exact⟨.str (f p),List.mem_map.mpr ⟨p,hp,rfl⟩,by simp [JR]⟩
noncomputable def dH (ps:List PD) (x:Str):List V:=(ps.filter fun p=>decide (cT p.kind=x)).map fun p=>V.str p.name
theorem Hh (ps:List PD) (x:Str) (p:PD):dH (ps ++ [p]) x=if cT p.kind=x then dH ps x ++ [V.str p.name] else dH ps x:=by
 unfold dH
 rw [List.filter_append,List.map_append]
 by_cases h:cT p.kind=x
 ·rw [if_pos h];simp [h]
 ·rw [if_neg h];simp [h]
theorem sV (ps:List PD) (x:Str):(dH ps x).length<=ps.length:=by
 unfold dH
 rw [lM]
 exact List.length_filter_le _ _
noncomputable def ZD (p:PD):Bool:=decide (cT p.kind= "choose") || decide (cT p.kind= "split")
noncomputable def oddN (ps:List PD):V:=match ps.find? ZD with
 | some p=>.str p.name
 | none=>.non
inductive Ek (K:PySem.W.Frag) (H:Hp) (v:V) (l:aG):Prop where
 | mk:∀q f,v=.ref q->H q=some (.tup [.str l.name,.int l.room,.ref f])->fC K H f (l.first.map V.int)->Ek K H v l
inductive FP (K:PySem.W.Frag) (H:Hp) (v:V) (p:PD):Prop where
 | mk:∀q a1 a2 a3,v=.ref q->H q=some (.tup [.str (cT p.kind),.str p.name,.ref a1,.ref a2,.ref a3])->fC K H a1 (p.nums.map V.int)->fC K H a2 (p.ins.map V.str)->fC K H a3 (p.outs.map V.str)->FP K H v p
theorem Ek.same {H H':Hp} {v:V} {l:aG} (h:Ek K H v l) (s:aJ H H'):Ek K H' v l:=by
 obtain⟨q,f,e,h1,h2⟩:=h
 exact⟨q,f,e,s _ _ h1,s.seqT h2⟩
theorem FP.same {H H':Hp} {v:V} {p:PD} (h:FP K H v p) (s:aJ H H'):FP K H' v p:=by
 obtain⟨q,a1,a2,a3,e,h1,h2,h3,h4⟩:=h
 exact⟨q,a1,a2,a3,e,s _ _ h1,s.seqT h2,s.seqT h3,s.seqT h4⟩
structure Dj (K:PySem.W.Frag) (H:Hp) (T a b:Addr) (ls:List aG) (ps:List PD):Prop where
 tup:H T=some (.tup [.ref a,.ref b])
 lanes:∃xs,H a=some (.lst xs)/\iy (Ek K H) xs ls
 parts:∃xs,H b=some (.lst xs)/\iy (FP K H) xs ps
theorem Dj.same {H H':Hp} {T a b:Addr} {ls:List aG} {ps:List PD} (h:Dj K H T a b ls ps) (s:aJ H H'):Dj K H' T a b ls ps:=by
 obtain⟨h1,⟨xs,e1,a1⟩,⟨ys,e2,a2⟩⟩:=h
 exact⟨s _ _ h1,⟨xs,s _ _ e1,a1.imp fun _ _ h=>h.same s⟩,⟨ys,s _ _ e2,a2.imp fun _ _ h=>h.same s⟩⟩
theorem z6 {H H':Hp} {d:Addr} {kvs:List (Key×V)} {o:Obj} (e:H d=some (.dK kvs)) (s:aJ (upd H d (.frz o (.dK kvs))) H'):aJ H (upd H' d (.dK kvs)):=fun b u q=>by
 by_cases h:b=d
 ·subst h;rw [ao];rw [e] at q;exact q
 ·rw [aH h];exact s b u (by rw [aH h];exact q)
theorem zE {H H':Hp} {d:Addr} {x:HO} (s:aJ H H'):aJ (upd H d x) (upd H' d x):=fun b u q=>by
 by_cases h:b=d
 ·subst h;rw [ao] at q ⊢;exact q
 ·rw [aH h] at q ⊢;exact s b u q
structure Tr (H:Hp) (f:Addr) (L:List (Addr×HO)) (Hk:Hp):Prop where
 but:m5 f H Hk
 all:∀p∈L,Hk p.1=some p.2
 fre:∀p∈L,p.1=f∨H p.1=none
 nod:(L.map Prod.fst).Nodup
 obj:∃o,(f,o)∈L
theorem Tr.free {H Hk:Hp} {f x:Addr} {L:List (Addr×HO)} (T:Tr H f L Hk) (nx:Hk x=none):H x=none:=by
 cases e:H x with
 | none=>rfl
 | some o=>
  by_cases h:x=f
  ·obtain⟨u,hu⟩:=T.obj
   have:=T.all _ hu
   rw [h] at nx
   rw [nx] at this
   cases this
  ·rw [T.but x o h e] at nx
   cases nx
theorem Tr.new {H Hk:Hp} {f x:Addr} {L:List (Addr×HO)} {o:HO} (T:Tr H f L Hk) (nx:Hk x=none):Tr H f (L ++ [(x,o)]) (upd Hk x o):=by
 have hne:∀p∈L,p.1≠x:=fun p hp z=>by have:=T.all p hp;rw [z,nx] at this;cases this
 have hx:=T.free nx
 refine⟨fun b u n e=>by rw [aH (aD e hx)];exact T.but b u n e,fun p hp=>?_,fun p hp=>?_,?_,?_⟩
 ·rcases List.mem_append.mp hp with h | h
  ·rw [aH (hne p h)];exact T.all p h
  ·rw [List.mem_singleton] at h;subst h;exact ao
 ·rcases List.mem_append.mp hp with h | h
  ·exact T.fre p h
  ·rw [List.mem_singleton] at h;subst h;exact .inr hx
 ·rw [List.map_append,List.nodup_append]
  refine⟨T.nod,by simp,fun a ha b hb=>?_⟩
  obtain⟨p,hp,rfl⟩:=List.mem_map.mp ha
  simp at hb
  subst hb
  exact hne p hp
 ·obtain⟨u,hu⟩:=T.obj
  exact⟨u,List.mem_append.mpr (.inl hu)⟩
theorem Tr.same {H Hk Hk':Hp} {f:Addr} {L:List (Addr×HO)} (T:Tr H f L Hk) (s:aJ Hk Hk'):Tr H f L Hk':=
 ⟨fun b u n e=>s _ _ (T.but b u n e),fun p hp=>s _ _ (T.all p hp),T.fre,T.nod,T.obj⟩
theorem Tr.put {H Hk:Hp} {f x:Addr} {o o':HO} {L1 L2:List (Addr×HO)} (T:Tr H f (L1 ++ (x,o):: L2) Hk):Tr H f (L1 ++ (x,o'):: L2) (upd Hk x o'):=by
 have hx:x=f∨H x=none:=T.fre (x,o) (by simp)
 have nd:=T.nod
 rw [List.map_append,List.map_cons,List.nodup_append] at nd
 obtain⟨n1,n2,n3⟩:=nd
 rw [List.nodup_cons] at n2
 refine⟨fun b u n e=>?_,fun p hp=>?_,fun p hp=>?_,?_,?_⟩
 ·have:b≠x:=by
   rcases hx with rfl | hx
   ·exact n
   ·exact aD e hx
  rw [aH this];exact T.but b u n e
 ·rcases List.mem_append.mp hp with h | h
  ·have:p.1≠x:=n3 p.1 (List.mem_map.mpr ⟨p,h,rfl⟩) x (by simp)
   rw [aH this];exact T.all p (by simp [h])
  ·rcases List.mem_cons.mp h with rfl | h
   ·exact ao
   ·have:p.1≠x:=fun z=>n2.1 (by rw [<-z];exact List.mem_map.mpr ⟨p,h,rfl⟩)
    rw [aH this];exact T.all p (by simp [h])
 ·rcases List.mem_append.mp hp with h | h
  ·exact T.fre p (by simp [h])
  ·rcases List.mem_cons.mp h with rfl | h
   ·exact hx
   ·exact T.fre p (by simp [h])
 ·have:=T.nod
  rw [List.map_append,List.map_cons] at this ⊢
  exact this
 ·obtain⟨u,hu⟩:=T.obj
  rcases List.mem_append.mp hu with h | h
  ·exact⟨u,by simp [h]⟩
  ·rcases List.mem_cons.mp h with h | h
   ·cases h;exact⟨o',by simp⟩
   ·exact⟨u,by simp [h]⟩
theorem Tr.start {H:Hp} {f:Addr} {o:HO} (e:H f=some o):Tr H f [(f,o)] H:=⟨m5.refl _,fun p hp=>by rw [List.mem_singleton] at hp;subst hp;exact e,fun p hp=>by rw [List.mem_singleton] at hp;subst hp;exact .inl rfl,by simp,o,by simp⟩
inductive yu (K:PySem.W.Frag) (H:Hp) (v:V) (l:aG):Prop where
 | mk:∀q f,v=.ref q->H q=some (.tup [.str l.name,.int l.room,.ref f])->yC K H f (l.first.map V.int)->yu K H v l
inductive Yy (K:PySem.W.Frag) (H:Hp) (v:V) (p:PD):Prop where
 | mk:∀q a1 a2 a3,v=.ref q->H q=some (.tup [.str (cT p.kind),.str p.name,.ref a1,.ref a2,.ref a3])->yC K H a1 (p.nums.map V.int)->yC K H a2 (p.ins.map V.str)->yC K H a3 (p.outs.map V.str)->Yy K H v p
structure Hand (K:PySem.W.Frag) (H:Hp) (Ll Lp:Addr) (ls:List aG) (ps:List PD):Prop where
 ll:∃xs,bK K H Ll xs/\iy (yu K H) xs ls
 lp:∃xs,bK K H Lp xs/\iy (Yy K H) xs ps
theorem nC {α:Type} {f:α->Str} {xs:List α} (nd:(xs.map f).Nodup) {j:Nat} {x:α} (h:xs[j]?=some x):f x∉(xs.take j).map f:=fun hm=>by
 have hj:=(List.getElem?_eq_some_iff.mp h).1
 have e:xs[j]=x:=(List.getElem?_eq_some_iff.mp h).2
 rw [List.map_take] at hm
 obtain⟨i,hi,ei⟩:=List.mem_iff_getElem.mp hm
 rw [List.length_take,lM] at hi
 rw [List.getElem_take] at ei
 have e2:(xs.map f)[j]'(by rw [lM];exact hj)=f x:=by rw [List.getElem_map,e]
 have:=(List.getElem_inj nd).mp (ei.trans e2.symm)
 omega
theorem Ox {f:PD->List Str} {ps:List PD} (nd:(ps.flatMap f).Nodup) {j:Nat} {p:PD} (h:ps[j]?=some p):(f p).Nodup/\∀z∈f p,z∉(ps.take j).flatMap f:=by
 have hj:=(List.getElem?_eq_some_iff.mp h).1
 have e:ps[j]=p:=(List.getElem?_eq_some_iff.mp h).2
 have e2:ps=ps.take j ++ p:: ps.drop (j+1):=by rw [<-e,<-List.drop_eq_getElem_cons hj,List.take_append_drop]
 rw [e2,List.flatMap_append,List.flatMap_cons,List.nodup_append] at nd
 obtain⟨n1,n2,n3⟩:=nd
 rw [List.nodup_append] at n2
 exact⟨n2.1,fun z hz hm=>n3 z hm z (List.mem_append.mpr (.inl hz)) rfl⟩
inductive M8 (K:PySem.W.Frag) (t:jL) (H H':Hp) (n:Addr) (ls:List aG) (ps:List PD):Prop where
 | mk:∀dx fs R F Pd G Tk FL PL,uV K t H' n ls ps dx fs R F Pd G Tk FL PL->(∀a∈[R,F,Pd,G,Tk],H a=none)->M8 K t H H' n ls ps
theorem M8.s {H H':Hp} {n:Addr} {ls:List aG} {ps:List PD} (N:M8 K t H H' n ls ps):fO K t H' n ls ps:=by
 obtain⟨dx,fs,R,F,Pd,G,Tk,FL,PL,N,_⟩:=N
 exact N.s
theorem M8.cut {H H':Hp} {n:Addr} {ls:List aG} {ps:List PD} {E:List Addr} (N:M8 K t H H' n ls ps) (hE:∀a∈E,(∃o,H a=some o)/\((∃k,H' a=some (.dK k))∨∃x,H' a=some (.lst x))):fO K t (aX E H') n ls ps:=by
 obtain⟨dx,fs,R,F,Pd,G,Tk,FL,PL,N,nw⟩:=N
 have g1:∀{a:Addr} {o:HO},H' a=some o->(∀k,o≠.dK k)->(∀x,o≠.lst x)->aX E H' a=some o:=fun {a o} e h1 h2=>bH e fun z=>by
  rcases(hE a z).2 with ⟨k,e'⟩ | ⟨k,e'⟩ <;> rw [e] at e'
  ·exact h1 _ (Option.some.inj e')
  ·exact h2 _ (Option.some.inj e')
 have g2:∀{a:Addr} {o:HO},H' a=some o->a∈[R,F,Pd,G,Tk]->aX E H' a=some o:=fun {a o} e h=>bH e fun z=>by
  obtain⟨u,e'⟩:=(hE a z).1
  rw [nw a h] at e'
  cases e'
 have g3:∀{a:Addr} {xs:List V},fC K H' a xs->fC K (aX E H') a xs:=fun h=>by
  rcases h with (h | ⟨o,h⟩) | h
  ·exact .inl (.inl (g1 h (by intro _ z;cases z) (by intro _ z;cases z)))
  ·exact .inl (.inr ⟨o,g1 h (by intro _ z;cases z) (by intro _ z;cases z)⟩)
  ·exact .inr h
 refine⟨dx,fs,R,F,Pd,G,Tk,FL,PL,g1 N.obj (by intro _ z;cases z) (by intro _ z;cases z),N.fl,g2 N.rooms (by simp),g2 N.firsts (by simp),g2 N.parts (by simp),g2 N.givers (by simp),g2 N.takers (by simp),N.fls,N.pls,fun q hq=>g3 (N.tups q hq),fun q hq=>?_,N.fit,N.neRF⟩
 obtain⟨dx',tn,ti,to,h1,h2,h3,h4⟩:=N.pats q hq
 exact⟨dx',tn,ti,to,g1 h1 (by intro _ z;cases z) (by intro _ z;cases z),g3 h2,g3 h3,g3 h4⟩
theorem uO (xs:List V) (g:Nat):yp xs (some (g:Int)) none=xs.drop g:=by
 unfold yp
 rw [HT.zM,HT.wI,<-List.length_drop,List.take_length]
 rcases Nat.le_total g xs.length with h | h
 ·rw [Nat.min_eq_left h]
 ·rw [Nat.min_eq_right h,List.drop_eq_nil_of_le h,List.drop_eq_nil_of_le (Nat.le_refl _)]
structure pZ (K:PySem.W.Frag) (t:jL) (H:Hp) (f n E G Kp D Rw:Addr):Prop where
 ex:∃dx fs,H f=some (.ins t.cL dx fs)/\UV ["holds", "held_now", "gone_by", "row_left", "head", "heads", "lacking", "row_ended", "deed", "do"] [("net",.ref n),("ever",.ref E),("gone",.ref G),("kept",.ref Kp),("done",.ref D),("rows",.ref Rw)] fs
theorem pZ.same {H H':Hp} {f n E G Kp D Rw:Addr} (h:pZ K t H f n E G Kp D Rw) (s:aJ H H'):pZ K t H' f n E G Kp D Rw:=by
 obtain⟨dx,fs,h1,h2⟩:=h
 exact⟨dx,fs,s _ _ h1,h2⟩
noncomputable def jh (i:Nat) (xs:List Str) (hs:List V):V:=match (places i hs).find? (xf hs) with
 | some q=>((xs[q]?).map V.str).getD .non
 | none=>.non
theorem zF {H:Hp}:∀{rs:List Addr} {vss:List (List V)} {j:Nat} {r:Addr},jP H rs vss->rs[j]?=some r->∃vs,vss[j]?=some vs/\H r=some (.tup vs)
 | _,_,_,_,.nil,e=>by simp at e
 | _,_,0,_,.cons h _,e=>by simp at e;subst e;exact⟨_,rfl,h⟩
 | _,_,j+1,_,.cons _ t,e=>by
  obtain⟨vs,h1,h2⟩:=zF (j:=j) t (by simpa using e)
  exact⟨vs,by simpa using h1,h2⟩
theorem places_len {i:Nat} {hs:List V} (h:zu i hs):(places i hs).length<=3:=by
 have h3:=Hr i
 have h1:=h.1
 unfold places
 by_cases hi:i=9
 ·rw [if_pos hi]
  split <;> simp
 ·rw [if_neg hi,List.length_range]
  omega
theorem Tr.got {H Hk Hk':Hp} {f x:Addr} {L:List (Addr×HO)} {o:HO} (T:Tr H f L Hk) (s:aJ Hk Hk') (nx:Hk x=none) (ex:Hk' x=some o):Tr H f (L ++ [(x,o)]) Hk':=by
 have T':=T.same s
 have hx:=T.free nx
 refine⟨T'.but,fun p hp=>?_,fun p hp=>?_,?_,?_⟩
 ·rcases List.mem_append.mp hp with h | h
  ·exact T'.all p h
  ·rw [List.mem_singleton] at h;subst h;exact ex
 ·rcases List.mem_append.mp hp with h | h
  ·exact T.fre p h
  ·rw [List.mem_singleton] at h;subst h;exact .inr hx
 ·rw [List.map_append,List.nodup_append]
  refine⟨T.nod,by simp,fun a ha b hb z=>?_⟩
  obtain⟨p,hp,rfl⟩:=List.mem_map.mp ha
  simp at hb
  have:=T.all p hp
  rw [z,hb,nx] at this
  cases this
 ·obtain⟨u,hu⟩:=T.obj
  exact⟨u,List.mem_append.mpr (.inl hu)⟩
theorem GX {α:Type} {a b c d e f g x:α} {M:List α} (h:x∈M):x∈a:: b:: c:: d:: e:: f:: g:: M:=by simp [h]
theorem Tr.perm {H Hk:Hp} {f:Addr} {L L':List (Addr×HO)} (T:Tr H f L Hk) (h:L.Perm L'):Tr H f L' Hk:=
 ⟨T.but,fun p hp=>T.all p (h.mem_iff.mpr hp),fun p hp=>T.fre p (h.mem_iff.mpr hp),(h.map _).nodup_iff.mp T.nod,by obtain⟨o,ho⟩:=T.obj;exact⟨o,h.mem_iff.mp ho⟩⟩
theorem Tr.sub {H Hk:Hp} {f:Addr} {L L':List (Addr×HO)} (T:Tr H f L Hk) (h:L'.Sublist L) (hf:∃o,(f,o)∈L'):Tr H f L' Hk:=
 ⟨T.but,fun p hp=>T.all p (h.subset hp),fun p hp=>T.fre p (h.subset hp),T.nod.sublist (h.map _),hf⟩
noncomputable def lK (EL:List (aG×Addr)):List (Addr×HO):=EL.map fun q=>(q.2,HO.lst (q.1.first.map V.int))
noncomputable def cM (g:Str->Nat) (ls:List aG):List (Key×V):=ls.map fun l=>((Sum.inr l.name:Key),V.int (g l.name:Nat))
noncomputable def cP (k:Str->Int) (ps:List PD):List (Key×V):=ps.map fun p=>((Sum.inr p.name:Key),V.int (k p.name))
theorem yt (g:Str->Nat) (ls:List aG):(cM g ls).map (·.1)=(ls.map (·.name)).map (fun x=>(Sum.inr x:Key)):=by unfold cM;rw [List.map_map,List.map_map];rfl
theorem Dk (k:Str->Int) (ps:List PD):(cP k ps).map (·.1)=(ps.map (·.name)).map (fun x=>(Sum.inr x:Key)):=by unfold cP;rw [List.map_map,List.map_map];rfl
noncomputable def fD (ps:List PD) (x:Str):Int:=((ps.find? fun p=>decide (p.name=x)).map fun p=>if p.kind=5 then p.nums.headD 0 else 0).getD 0
noncomputable def uU (p:PD):Int:=if p.kind=5 then p.nums.headD 0 else 0
theorem find_name {α:Type} {f:α->Str}:∀{ls:List α} (_:(ls.map f).Nodup) {l:α} (_:l∈ls),ls.find? (fun x=>decide (f x=f l))=some l
 | a:: r,nd,l,hl=>by
  rw [List.map_cons,List.nodup_cons] at nd
  rcases List.mem_cons.mp hl with rfl | h
  ·rw [List.find?_cons_of_pos (by simp)]
  ·have:¬f a=f l:=fun z=>nd.1 (by rw [z];exact List.mem_map.mpr ⟨l,h,rfl⟩)
   rw [List.find?_cons_of_neg (by simp [this])]
   exact find_name nd.2 h
theorem qF.inL {ls:List aG} {ps:List PD} (F:qF ls ps) {p:PD} (hp:p∈ps) {x:Str} (hx:x∈p.ins ++ p.outs):∃l∈ls,l.name=x:=by
 rcases List.mem_append.mp hx with h | h
 ·exact List.mem_map.mp (F.whole.ins.mem_iff.mp (List.mem_flatMap.mpr ⟨p,hp,h⟩))
 ·exact List.mem_map.mp (F.whole.outs.mem_iff.mp (List.mem_flatMap.mpr ⟨p,hp,h⟩))
theorem qw {α β:Type} {f:α->β}:∀{l:List α},(l.map f).Nodup->∀{a b:α},a∈l->b∈l->f a=f b->a=b
 | x:: r,nd,a,b,ha,hb,e=>by
  rw [List.map_cons,List.nodup_cons] at nd
  rcases List.mem_cons.mp ha with h1 | h1
  ·rcases List.mem_cons.mp hb with h2 | h2
   ·rw [h1,h2]
   ·exact absurd (List.mem_map.mpr ⟨b,h2,by rw [<-e,h1]⟩) nd.1
  ·rcases List.mem_cons.mp hb with h2 | h2
   ·exact absurd (List.mem_map.mpr ⟨a,h1,by rw [e,h2]⟩) nd.1
   ·exact qw nd.2 h1 h2 e
noncomputable def Vb:V->Int
 | .int n=>n
 | _=>0
structure FS where
 ev:Str->List Int
 g:Str->Nat
 k:Str->Int
 d:Str->Nat
 r:Str->List Int
structure mG where
 (f n E G Kp D Rw:Addr)
 (ea ra:Str->Addr)
noncomputable def gf (ps:List PD):List PD:=ps.filter fun p=>decide (p.kind=0)
noncomputable def S9 (ea:Str->Addr) (ls:List aG):List (Key×V):=ls.map fun l=>((Sum.inr l.name:Key),V.ref (ea l.name))
noncomputable def qI (ra:Str->Addr) (ps:List PD):List (Key×V):=(gf ps).map fun p=>((Sum.inr p.name:Key),V.ref (ra p.name))
noncomputable def mG.cells (A:mG) (ls:List aG) (ps:List PD):List Addr:=A.E:: A.G:: A.Kp:: A.D:: A.Rw:: (ls.map (fun l=>A.ea l.name) ++ (gf ps).map (fun p=>A.ra p.name))
structure dO (K:PySem.W.Frag) (t:jL) (H:Hp) (A:mG) (ls:List aG) (ps:List PD) (S:FS):Prop where
 at':pZ K t H A.f A.n A.E A.G A.Kp A.D A.Rw
 ever:H A.E=some (.dK (S9 A.ea ls))
 lists:∀l∈ls,H (A.ea l.name)=some (.lst ((S.ev l.name).map V.int))
 gone:H A.G=some (.dK (cM S.g ls))
 kept:H A.Kp=some (.dK (cP S.k ps))
 done:H A.D=some (.dK (cP (fun x=>(S.d x:Int)) ps))
 rows:H A.Rw=some (.dK (qI A.ra ps))
 rlst:∀p∈ps,p.kind=0->H (A.ra p.name)=some (.lst ((S.r p.name).map V.int))
 nod:(A.cells ls ps).Nodup
theorem dO.same {H H':Hp} {A:mG} {ls:List aG} {ps:List PD} {S:FS} (h:dO K t H A ls ps S) (s:aJ H H'):dO K t H' A ls ps S:=
 ⟨h.at'.same s,s _ _ h.ever,fun l hl=>s _ _ (h.lists l hl),s _ _ h.gone,s _ _ h.kept,s _ _ h.done,s _ _ h.rows,fun p hp h0=>s _ _ (h.rlst p hp h0),h.nod⟩
structure Jt (b:Nat) (ls:List aG) (ps:List PD) (S:FS):Prop where
 vb:∀l∈ls,∀v∈S.ev l.name,0<=v/\v <1000000000
 rb:∀p∈ps,p.kind=0->∀v∈S.r p.name,0<=v/\v <1000000000
 dl:∀p∈ps,p.kind=0->S.d p.name<=(S.r p.name).length
 len:∀l∈ls,(S.ev l.name).length<=b
 rl:∀p∈ps,p.kind=0->(S.r p.name).length<=300
theorem QW (ea:Str->Addr) (ls:List aG):(S9 ea ls).map (·.1)=(ls.map (·.name)).map (fun x=>(Sum.inr x:Key)):=by unfold S9;rw [List.map_map,List.map_map];rfl
theorem wH {ea:Str->Addr} {ls:List aG} (nd:(ls.map (·.name)).Nodup) {l:aG} (hl:l∈ls):cD (S9 ea ls) (Sum.inr l.name)=some (.ref (ea l.name)):=
 ju (by rw [QW];exact ik nd) (List.mem_map.mpr ⟨l,hl,rfl⟩)
theorem pR {g:Str->Nat} {ls:List aG} (nd:(ls.map (·.name)).Nodup) {l:aG} (hl:l∈ls):cD (cM g ls) (Sum.inr l.name)=some (.int (g l.name:Nat)):=
 ju (by rw [yt];exact ik nd) (List.mem_map.mpr ⟨l,hl,rfl⟩)
theorem pN {k:Str->Int} {ps:List PD} (nd:(ps.map (·.name)).Nodup) {p:PD} (hp:p∈ps):cD (cP k ps) (Sum.inr p.name)=some (.int (k p.name)):=
 ju (by rw [Dk];exact ik nd) (List.mem_map.mpr ⟨p,hp,rfl⟩)
theorem Af (ra:Str->Addr) (ps:List PD):(qI ra ps).map (·.1)=((gf ps).map (·.name)).map (fun x=>(Sum.inr x:Key)):=by unfold qI;rw [List.map_map,List.map_map];rfl
theorem yM {ps:List PD} (nd:(ps.map (·.name)).Nodup):((gf ps).map (·.name)).Nodup:=nd.sublist (List.filter_sublist.map _)
theorem vf {ra:Str->Addr} {ps:List PD} (nd:(ps.map (·.name)).Nodup) {p:PD} (hp:p∈ps) (h0:p.kind=0):cD (qI ra ps) (Sum.inr p.name)=some (.ref (ra p.name)):=
 ju (by rw [Af];exact ik (yM nd)) (List.mem_map.mpr ⟨p,List.mem_filter.mpr ⟨hp,by simp [h0]⟩,rfl⟩)
theorem Nz {ra:Str->Addr} {ps:List PD} (nd:(ps.map (·.name)).Nodup) {p:PD} (hp:p∈ps) (h0:p.kind≠0):cD (qI ra ps) (Sum.inr p.name)=none:=by
 refine ig ?_
 rw [Af]
 intro z
 obtain⟨b,hb,e⟩:=List.mem_map.mp z
 cases e
 obtain⟨p',hp',en⟩:=List.mem_map.mp hb
 have hf:=List.mem_filter.mp hp'
 have a1:=find_name nd hf.1
 have a2:=find_name nd hp
 rw [en] at a1
 rw [a1] at a2
 cases a2
 exact h0 (by simpa using hf.2)
noncomputable def jQ (S:FS) (x:Str):V:=(((S.ev x)[S.g x]?).map V.int).getD .non
noncomputable def bx (S:FS) (p:PD):List V:=p.ins.map (jQ S)
structure iW where
 tk:List Str
 gv:List (Str×Int)
 kv:Int
noncomputable def strAt (xs:List Str) (q:Nat):Str:=(xs[q]?).getD Str.empty
noncomputable def vo (S:FS) (p:PD):List Int:=if p.kind=0 then((S.r p.name)[S.d p.name]?).toList else(places p.kind (bx S p)).map fun q=>Vb (((bx S p)[q]?).getD .non)
noncomputable def yD (S:FS) (p:PD):Bool:=decide (p.kind=0) && decide (S.d p.name=(S.r p.name).length)
noncomputable def fK (S:FS) (p:PD):Option iW:=if jh p.kind p.ins (bx S p)≠.non then none else if yD S p=true then none else
 some ⟨(places p.kind (bx S p)).map (strAt p.ins),(cU p.kind p.nums (vo S p) (S.k p.name)).map fun pv=>(strAt p.outs pv.1.toNat,pv.2),gB p.kind (vo S p) (S.k p.name)⟩
inductive oX (M:List Addr) (H:Hp) (U:Addr) (dd:iW):Prop where
 | mk:∀La Lg rs,H U=some (.tup [.ref La,.ref Lg,.int dd.kv])->H La=some (.lst (dd.tk.map V.str))->H Lg=some (.lst (rs.map V.ref))->(jP H rs (dd.gv.map fun q=>[.str q.1,.int q.2]))->La∉M->Lg∉M->oX M H U dd
theorem oX.same {M:List Addr} {H H':Hp} {U:Addr} {dd:iW} (h:oX M H U dd) (s:aJ H H'):oX M H' U dd:=by
 obtain⟨La,Lg,rs,a,b,c,d,e,f⟩:=h
 exact⟨La,Lg,rs,s _ _ a,s _ _ b,s _ _ c,jP.same s d,e,f⟩
theorem uM (S:FS) (p:PD) (h:qb p):zu p.kind (bx S p):=by
 refine⟨by unfold bx;rw [lM];exact h.2.2.1,fun v hv=>?_⟩
 obtain⟨x,_,rfl⟩:=List.mem_map.mp hv
 unfold jQ
 cases (S.ev x)[S.g x]? with
 | none=>exact .inl rfl
 | some n=>exact .inr ⟨n,rfl⟩
theorem dO.cell {H:Hp} {A:mG} {ls:List aG} {ps:List PD} {S:FS} (h:dO K t H A ls ps S) {a:Addr} (ha:H a=none):a∉A.cells ls ps:=by
 intro z
 have no:∀{b:Addr} {u:HO},H b=some u->a=b->False:=fun e q=>by rw [<-q,ha] at e;cases e
 unfold mG.cells at z
 simp only [List.mem_cons,List.mem_append,List.mem_map] at z
 rcases z with z | z | z | z | z | ⟨l,hl,z⟩ | ⟨p,hp,z⟩
 ·exact no h.ever z
 ·exact no h.gone z
 ·exact no h.kept z
 ·exact no h.done z
 ·exact no h.rows z
 ·exact no (h.lists l hl) z.symm
 ·have hf:=List.mem_filter.mp hp
  exact no (h.rlst p hf.1 (by simpa using hf.2)) z.symm
noncomputable def mj (t:jL) (H:Hp) (r n f:Addr) (k:Nat):Prop:=∃dx fs,(H r=some (.ins t.oY dx fs)/\fs.length<=k+3)/\UV ["step", "need_doors", "next_deed", "full_lane", "can_work", "works", "lane_now", "turn", "had", "rows_left", "part_now", "net_now"] [("net",.ref n),("flow",.ref f),("turns",.int (k:Nat))] fs
theorem mj.same {H H':Hp} {r n f:Addr} {k:Nat} (h:mj t H r n f k) (s:aJ H H'):mj t H' r n f k:=by
 obtain⟨dx,fs,h1,h2⟩:=h
 exact⟨dx,fs,⟨s _ _ h1.1,h1.2⟩,h2⟩
structure Gd (n:Nat) (d:PyData):Prop where
 eq:PyData.eqv d d=true
 lay:PyData.canLay0 d=true
 dep:PyData.depth d<=n
theorem Gd.all {n:Nat}:∀{ds:List PyData},(∀d∈ds,Gd n d)->PyData.eqvAll ds ds=true/\PyData.canLayAll0 ds=true/\PyData.depthAll ds<=n
 | [],_=>⟨by simp [PyData.eqvAll],by simp [PyData.canLayAll0],by simp [PyData.depthAll]⟩
 | d:: r,h=>by
  obtain⟨h1,h2,h3⟩:=Gd.all (ds:=r) fun x hx=>h x (List.mem_cons_of_mem _ hx)
  have g:=h d List.mem_cons_self
  have g3:=g.dep
  refine⟨by simp [PyData.eqvAll,g.eq,h1],by simp [PyData.canLayAll0,g.lay,h2],?_⟩
  simp only [PyData.depthAll]
  omega
theorem Gd.list {n:Nat} {ds:List PyData} (h:∀d∈ds,Gd n d):Gd (n+1) (.list ds):=by
 obtain⟨h1,h2,h3⟩:=Gd.all h
 exact⟨by simp [PyData.eqv,h1],by simp [PyData.canLay0,h2],by simp only [PyData.depth];omega⟩
theorem Gd.tuple {n:Nat} {ds:List PyData} (h:∀d∈ds,Gd n d):Gd (n+1) (.tuple ds):=by
 obtain⟨h1,h2,h3⟩:=Gd.all h
 exact⟨by simp [PyData.eqv,h1],by simp [PyData.canLay0,h2],by simp only [PyData.depth];omega⟩
theorem Gd.int (n:Nat) (i:Int):Gd n (.int i):=⟨by simp [PyData.eqv],by simp [PyData.canLay0],by simp [PyData.depth]⟩
theorem Gd.str (n:Nat) {x:Str} (h:PyData.strOk x=true):Gd n (.str x):=⟨by simp [PyData.eqv],by simp [PyData.canLay0,h],by simp [PyData.depth]⟩
theorem Gd.ints (n:Nat) (ws:List Int):∀d∈ws.map PyData.int,Gd n d:=fun d hd=>by
 obtain⟨i,_,rfl⟩:=List.mem_map.mp hd
 exact .int n i
theorem Gd.strs (n:Nat) {xs:List Str} (h:∀x∈xs,PyData.strOk x=true):∀d∈xs.map PyData.str,Gd n d:=fun d hd=>by
 obtain⟨x,hx,rfl⟩:=List.mem_map.mp hd
 exact .str n (h x hx)
theorem Gd.shaped {n:Nat} {d:PyData} (h:Gd n d) (hn:n<=64):SeqAt.shaped d=true:=by
 have:=h.dep
 unfold SeqAt.shaped
 rw [h.lay,decide_eq_true (show d.depth<=64 by omega)]
 rfl
theorem yI {z:Str} (h:nameB z=true):PyData.strOk z=true:=by
 have e:∀c∈z.cps.toList,c <0x110000:=fun c hc=>by
  unfold nameB at h
  split at h
  ·cases h
  ·rename_i c0 r e
   rw [e] at hc
   simp only [Bool.and_eq_true,List.all_eq_true,Bool.or_eq_true] at h
   have:=h.2.2 c hc
   unfold low MP at this
   simp only [Bool.and_eq_true,decide_eq_true_eq] at this
   omega
 unfold PyData.strOk
 rw [Array.all_eq_true']
 intro c hc
 exact decide_eq_true (e c (by simpa using hc))
theorem RZ:∀i,i <11->PyData.strOk (cT i)=true:=by decide +kernel
theorem CG {H:Hp}:∀ws:List Int,Ph K H (ws.map V.int) (ws.map PyData.int)
 | []=>.nil
 | i:: r=>.cons (.int i) (CG r)
theorem CT {H:Hp}:∀xs:List Str,Ph K H (xs.map V.str) (xs.map PyData.str)
 | []=>.nil
 | x:: r=>.cons (.str x) (CT r)
theorem qF.inN {ls:List aG} {ps:List PD} (h:qF ls ps) {p:PD} (hp:p∈ps):(∀x∈p.ins,PyData.strOk x=true)/\∀x∈p.outs,PyData.strOk x=true:=by
 have nm:∀x∈ls.map (·.name),PyData.strOk x=true:=fun x hx=>by
  obtain⟨l,hl,rfl⟩:=List.mem_map.mp hx
  exact yI (h.lnm l hl)
 exact⟨fun x hx=>nm x (h.whole.ins.mem_iff.mp (List.mem_flatMap.mpr ⟨p,hp,hx⟩)),fun x hx=>nm x (h.whole.outs.mem_iff.mp (List.mem_flatMap.mpr ⟨p,hp,hx⟩))⟩
theorem Mx {α:Type} {H:Hp} {R:V->α->Prop} {f:α->PyData} (h:∀v a,R v a->Dt K H v (f a)):∀{xs:List V} {ys:List α},iy R xs ys->Ph K H xs (ys.map f)
 | _,_,.nil=>.nil
 | _,_,.cons r t=>.cons (h _ _ r) (Mx h t)
theorem wM {H:Hp} {p:Addr} {ws:List Int} (h:bK K H p (ws.map V.int)):Dt K H (.ref p) (.list (ws.map PyData.int)):=.list h (CG ws)
theorem CQ {H:Hp} {p:Addr} {xs:List Str} (h:bK K H p (xs.map V.str)):Dt K H (.ref p) (.list (xs.map PyData.str)):=.list h (CT xs)
theorem SX (xs:List V) (a b:Nat):yp xs (some (a:Int)) (some (b:Int))=(xs.drop (min a xs.length)).take (min b xs.length - min a xs.length):=by
 unfold yp
 rw [HT.wI,HT.wI]
theorem Zk {H H1:Hp} {a:Addr} {o:Obj} {kvs:List (Key×V)} (e:H a=some (.dK kvs)) (s:aJ (upd H a (.frz o (.dK kvs))) H1):aJ H (upd H1 a (.dK kvs)):=fun b u eb=>by
 by_cases hb:b=a
 ·rw [hb,ao,<-eb,hb,e]
 ·rw [aH hb]
  exact s b u (by rw [aH hb];exact eb)
theorem dgS {H:Hp} {a:Addr} {kvs:List (Key×V)} {x:Str} {v:V} (e:H a=some (.dK kvs)) (h:cD kvs (Sum.inr x)=some v):eE H a (.str x) (some v):=by
 rw [<-h]
 exact eE.k (k:=Sum.inr x) e
theorem bY {E:List Addr} {H H':Hp} (s:aJ H H'):aJ (aX E H) (aX E H'):=fun b o e=>by
 have hb:b∉E:=fun z=>by unfold aX at e;rw [if_pos z] at e;cases e
 exact bH (s _ _ (bu _ _ e)) hb
theorem J8 (xs:List V) (g:Nat):yp xs none (some (g:Int))=xs.take g:=by
 unfold yp
 rw [HT.zM,HT.wI,List.drop_zero,Nat.sub_zero]
 rcases Nat.le_total g xs.length with h | h
 ·rw [Nat.min_eq_left h]
 ·rw [Nat.min_eq_right h,List.take_of_length_le h,List.take_of_length_le (Nat.le_refl _)]
theorem e9:(10:Int) ^ (9:Int).toNat=1000000000:=by decide
noncomputable def Vp (l:aG):PyData:=.tuple [.str l.name,.int l.room,.list (l.first.map PyData.int)]
noncomputable def XS (p:PD):PyData:=.tuple [.str (cT p.kind),.str p.name,.list (p.nums.map PyData.int),.list (p.ins.map PyData.str),.list (p.outs.map PyData.str)]
noncomputable def Mw (ls:List aG) (ps:List PD):PyData:=.tuple [.list (ls.map Vp),.list (ps.map XS)]
theorem qF.lists {ls:List aG} {ps:List PD} (h:qF ls ps):Gd 5 (Mw ls ps):=by
 unfold Mw
 refine .tuple fun d hd=>?_
 simp only [List.mem_cons,List.not_mem_nil,or_false] at hd
 rcases hd with rfl | rfl
 ·refine .list fun d hd=>?_
  obtain⟨l,hl,rfl⟩:=List.mem_map.mp hd
  unfold Vp
  refine .tuple fun d hd=>?_
  simp only [List.mem_cons,List.not_mem_nil,or_false] at hd
  rcases hd with rfl | rfl | rfl
  ·exact .str _ (yI (h.lnm l hl))
  ·exact .int _ _
  ·exact .list (.ints _ _)
 ·refine .list fun d hd=>?_
  obtain⟨p,hp,rfl⟩:=List.mem_map.mp hd
  unfold XS
  refine .tuple fun d hd=>?_
  simp only [List.mem_cons,List.not_mem_nil,or_false] at hd
  rcases hd with rfl | rfl | rfl | rfl | rfl
  ·exact .str _ (RZ _ (h.pok p hp).1)
  ·exact .str _ (yI (h.pnm p hp))
  ·exact .list (.ints _ _)
  ·exact .list (.strs _ (h.inN hp).1)
  ·exact .list (.strs _ (h.inN hp).2)
structure BP (H:Hp) (T a b:Addr) (ls:List aG) (ps:List PD):Prop where
 tup:H T=some (.tup [.ref a,.ref b])
 net:BV H a b ls ps
theorem BP.same {H H':Hp} {T a b:Addr} {ls:List aG} {ps:List PD} (h:BP H T a b ls ps) (s:aJ H H'):BP H' T a b ls ps:=⟨s _ _ h.tup,h.net.same s⟩
theorem BP.dt {H:Hp} {T a b:Addr} {ls:List aG} {ps:List PD} (h:BP H T a b ls ps):Dt K H (.ref T) (Mw ls ps):=by
 obtain⟨h1,⟨xs,e1,a1⟩,⟨ys,e2,a2⟩⟩:=h
 refine .tuple (fC.of h1) (.cons (.list (bK.of e1) (Mx (fun v l h=>?_) a1)) (.cons (.list (bK.of e2) (Mx (fun v p h=>?_) a2)) .nil))
 ·obtain⟨q,f,rfl,h2,h3⟩:=h
  exact .tuple (fC.of h2) (.cons (.str _) (.cons (.int _) (.cons (.list (bK.of h3) (CG _)) .nil)))
 ·obtain⟨q,b1,b2,b3,rfl,h2,h3,h4,h5⟩:=h
  exact .tuple (fC.of h2) (.cons (.str _) (.cons (.str _) (.cons (.list (bK.of h3) (CG _)) (.cons (.list (bK.of h4) (CT _)) (.cons (.list (bK.of h5) (CT _)) .nil)))))
inductive Cg (K:PySem.W.Frag) (vs:List V) (H:Hp) (Q:VK) (E:XK):Prop where
 | mk:∀x Tx b,vs=[x]->YQ K H x Tx->Tx∈qR->decide (Tx= "int")=b->Q (.bl b) H->Cg K vs H Q E
theorem Bt (T:Txt w K mg t):FO P w K mg base 1 t.Ds ["thing"] (Cg K):=by
 have sc:=T.ux.sc ["thing"]
 refine T.ux.F.ok sc ln (fun _ _ _ _ H vs Q E hr h=>?_)
 obtain⟨x,Tx,b,rfl,ty,hm,rfl,k⟩:=h
 refine⟨_,(aA (aN (yq (bG zQ (by rfl) T.pq mD (aa (pv 0) (aa (CJ (by rfl) T.XQ Wz) ak aj) aj)) (yd (Wa (bG zQ (by rfl) T.pq mD (aa (pv 0) (aa (CJ (by rfl) T.WM Ug) ak aj) aj))))))),?_⟩
 have hm':Tx= "int" ∨Tx= "bool" ∨(KN Tx "int" =false/\Tx≠ "int"):=by
  simp only [qR,List.mem_cons,List.not_mem_nil,or_false] at hm
  rcases hm with rfl | rfl | rfl | rfl | rfl | rfl | rfl
  ·exact .inr (.inr (by decide))
  ·exact .inr (.inl rfl)
  ·exact .inl rfl
  ·exact .inr (.inr (by decide))
  ·exact .inr (.inr (by decide))
  ·exact .inr (.inr (by decide))
  ·exact .inr (.inr (by decide))
 rcases hm' with rfl | rfl | ⟨h1,h2⟩
 ·exact⟨_,rfl,x, "int", "int",true,rfl,ty,by decide,by decide,true,rfl,kJ ⟨_,rfl,x, "int", "bool",false,rfl,ty,by decide,by decide,_,rfl,k⟩⟩
 ·exact⟨_,rfl,x, "bool", "int",true,rfl,ty,by decide,by decide,true,rfl,kJ ⟨_,rfl,x, "bool", "bool",true,rfl,ty,by decide,by decide,_,rfl,k⟩⟩
 ·rw [decide_eq_false h2] at k
  exact⟨_,rfl,x,Tx, "int",false,rfl,ty,by decide,h1,false,rfl,fu k⟩
inductive Bs (K:PySem.W.Frag) (vs:List V) (H:Hp) (Q:VK) (E:XK):Prop where
 | mk:∀x,vs=[x]->(((∃i:Int,x=.int i/\Q (.bl (decide (0<=i) && decide (i <1000000000))) H)∨∃Tx,YQ K H x Tx/\Tx∈qR/\Tx≠ "int" /\Q (.bl false) H))->Bs K vs H Q E
theorem uZ (T:Txt w K mg t):FO P w K mg base 2 t.Ed ["thing"] (Bs K):=by
 have sc:=T.pX.sc ["thing"]
 refine T.pX.F.ok sc ln (fun _ _ _ _ H vs Q E hr h=>?_)
 obtain⟨x,rfl,h⟩:=h
 refine⟨_,(aA (aN (yq (fj (Bt T) T.ux hr (aa (pv 0) ak aj)) (yd (QL wY yG au (pv 0) (jV (by rfl) T.Kg)))))),?_⟩
 rcases h with ⟨i,rfl,k⟩ | ⟨Tx,ty,hm,hne,k⟩
 ·refine⟨_,rfl,.int i, "int",true,rfl,rfl,by decide,by decide,true,rfl,kJ ⟨_,rfl,_,_,rfl,rfl,_,rfl,kO (fun h=>?_) (fun h=>?_)⟩⟩
  ·have h':0<=i:=of_decide_eq_true h
   rw [decide_eq_true h',Bool.true_and] at k
   exact⟨_,_,rfl,rfl,k⟩
  ·have h':¬0<=i:=fun z=>h (decide_eq_true z)
   rw [decide_eq_false h',Bool.false_and] at k
   exact k
 ·exact⟨_,rfl,x,Tx,false,rfl,ty,hm,decide_eq_false hne,false,rfl,fu k⟩
inductive sr (K:PySem.W.Frag) (t:jL) (vs:List V) (H:Hp) (Q:VK) (E:XK):Prop where
 | mk:∀(i:Nat) (p dx a1 a2 a3:Addr) (nm:V) (ns is os:List V),vs=[.ref p,nm,.ref a1,.ref a2,.ref a3]->H p=some (.ins (cls t i) dx [])->yC K H a1 ns->yC K H a2 is->yC K H a3 os->(∀H',m5 p H H'->fL K t H' p i nm ns is os->Q .non H')->sr K t vs H Q E
noncomputable abbrev oH:List Str:=["self", "name", "numbers", "ins", "outs"]
theorem cu (T:Txt w K mg t):FO P w K mg base 1 t.cj oH (sr K t):=by
 have sc:gm oH oH (bc (inClass (top 27) 0)):=J4
 refine T.bh.F.ok sc ln (fun _ _ _ _ H vs Q E hr h=>?_)
 obtain⟨i,p,dx,a1,a2,a3,nm,ns,is,os,rfl,hp,q1,q2,q3,k⟩:=h
 refine⟨_,(az (jq (pv 0) (pv 1) rfl)
  (az (jq (pv 0) (cW wL (by rfl) T.Cz zj (aa (pv 2) ak aj)) rfl)
  (az (jq (pv 0) (cW wL (by rfl) T.Cz zj (aa (pv 3) ak aj)) rfl)
  (aA (jq (pv 0) (cW wL (by rfl) T.Cz zj (aa (pv 4) ak aj)) rfl))))),?_⟩
 refine⟨_,rfl,_,rfl,p,cls t i,dx,[],rfl,hp,eN T i,tY T i,by show 0 <1000;decide,?_⟩
 have b1:m5 p H (upd H p (.ins (cls t i) dx (aK "name" nm []))):=m5.write
 have e1:(upd H p (.ins (cls t i) dx (aK "name" nm []))) p=some (.ins (cls t i) dx (aK "name" nm [])):=ao
 generalize upd H p (.ins (cls t i) dx (aK "name" nm []))=H1 at b1 e1 ⊢
 have r2:=b1.seqA hp q2
 have r3:=b1.seqA hp q3
 refine⟨_,rfl,a1,ns,rfl,b1.seqA hp q1,fun H2 u2 s2 t2=>⟨_,rfl,p,cls t i,dx,_,rfl,s2 _ _ e1,eN T i,lY T i,Nat.lt_of_le_of_lt (jj (Nat.zero_le 0)) (by decide),?_⟩⟩
 have e2:=s2 _ _ e1
 have b2:m5 p H2 (upd H2 p (.ins (cls t i) dx (aK "numbers" (.ref u2) (aK "name" nm [])))):=m5.write
 have e3:(upd H2 p (.ins (cls t i) dx (aK "numbers" (.ref u2) (aK "name" nm [])))) p=some (.ins (cls t i) dx (aK "numbers" (.ref u2) (aK "name" nm []))):=ao
 generalize upd H2 p (.ins (cls t i) dx (aK "numbers" (.ref u2) (aK "name" nm [])))=H3 at b2 e3 ⊢
 have r2':=b2.seqA e2 (s2.seqA r2)
 have r3':=b2.seqA e2 (s2.seqA r3)
 have t2':=b2.seqT e2 t2
 refine⟨_,rfl,a2,is,rfl,r2',fun H4 u4 s4 t4=>⟨_,rfl,p,cls t i,dx,_,rfl,s4 _ _ e3,eN T i,tH T i,Nat.lt_of_le_of_lt (jj (jj (Nat.zero_le 0))) (by decide),?_⟩⟩
 have e4:=s4 _ _ e3
 have b4:m5 p H4 (upd H4 p (.ins (cls t i) dx (aK "ins" (.ref u4) (aK "numbers" (.ref u2) (aK "name" nm []))))):=m5.write
 have e5:(upd H4 p (.ins (cls t i) dx (aK "ins" (.ref u4) (aK "numbers" (.ref u2) (aK "name" nm []))))) p=some (.ins (cls t i) dx (aK "ins" (.ref u4) (aK "numbers" (.ref u2) (aK "name" nm [])))):=ao
 generalize upd H4 p (.ins (cls t i) dx (aK "ins" (.ref u4) (aK "numbers" (.ref u2) (aK "name" nm []))))=H5 at b4 e5 ⊢
 have r3'':=b4.seqA e4 (s4.seqA r3')
 have t2'':=b4.seqT e4 (s4.seqT t2')
 have t4':=b4.seqT e4 t4
 refine⟨_,rfl,a3,os,rfl,r3'',fun H6 u6 s6 t6=>⟨_,rfl,p,cls t i,dx,_,rfl,s6 _ _ e5,eN T i,wO T i,Nat.lt_of_le_of_lt (jj (jj (jj (Nat.zero_le 0)))) (by decide),?_⟩⟩
 have e6:=s6 _ _ e5
 refine k _ (b1.trans ((m5.of_same s2).trans (b2.trans ((m5.of_same s4).trans (b4.trans ((m5.of_same s6).trans m5.write)))))) ⟨dx,u2,u4,u6,ao,?_,?_,?_⟩
 ·exact m5.write.seqT e6 (s6.seqT t2'')
 ·exact m5.write.seqT e6 (s6.seqT t4')
 ·exact m5.write.seqT e6 t6
theorem Jx (T:Txt w K mg t):FO P w K mg base 1 t.vm ["self"] (iM 0):=by
 have sc:=T.qX.sc ["self"]
 refine T.qX.F.ok sc ln (fun _ _ _ _ H vs Q E hr h=>?_)
 obtain⟨x,rfl,k⟩:=h
 refine⟨_,(aA (aN bW)),?_⟩
 exact k
theorem JD (T:Txt w K mg t):FO P w K mg base 1 t.vY ["self"] (iM 1):=by
 have sc:=T.qY.sc ["self"]
 refine T.qY.F.ok sc ln (fun _ _ _ _ H vs Q E hr h=>?_)
 obtain⟨x,rfl,k⟩:=h
 refine⟨_,(aA (aN bW)),?_⟩
 exact k
theorem Io (T:Txt w K mg t):FO P w K mg base 1 t.vJ ["self"] (iM 2):=by
 have sc:=T.qT.sc ["self"]
 refine T.qT.F.ok sc ln (fun _ _ _ _ H vs Q E hr h=>?_)
 obtain⟨x,rfl,k⟩:=h
 refine⟨_,(aA (aN bW)),?_⟩
 exact k
theorem Jl (T:Txt w K mg t):FO P w K mg base 1 t.vC ["self"] (iM 3):=by
 have sc:=T.qK.sc ["self"]
 refine T.qK.F.ok sc ln (fun _ _ _ _ H vs Q E hr h=>?_)
 obtain⟨x,rfl,k⟩:=h
 refine⟨_,(aA (aN bW)),?_⟩
 exact k
theorem HJ (T:Txt w K mg t):FO P w K mg base 1 t.uT ["self"] (iM 4):=by
 have sc:=T.qP.sc ["self"]
 refine T.qP.F.ok sc ln (fun _ _ _ _ H vs Q E hr h=>?_)
 obtain⟨x,rfl,k⟩:=h
 refine⟨_,(aA (aN bW)),?_⟩
 exact k
theorem JP (T:Txt w K mg t):FO P w K mg base 1 t.uR ["self"] (iM 5):=by
 have sc:=T.rn.sc ["self"]
 refine T.rn.F.ok sc ln (fun _ _ _ _ H vs Q E hr h=>?_)
 obtain⟨x,rfl,k⟩:=h
 refine⟨_,(aA (aN bW)),?_⟩
 exact k
theorem Kw (T:Txt w K mg t):FO P w K mg base 1 t.xU ["self"] (iM 6):=by
 have sc:=T.ue.sc ["self"]
 refine T.ue.F.ok sc ln (fun _ _ _ _ H vs Q E hr h=>?_)
 obtain⟨x,rfl,k⟩:=h
 refine⟨_,(aA (aN bW)),?_⟩
 exact k
theorem HW (T:Txt w K mg t):FO P w K mg base 1 t.wk ["self"] (iM 7):=by
 have sc:=T.rB.sc ["self"]
 refine T.rB.F.ok sc ln (fun _ _ _ _ H vs Q E hr h=>?_)
 obtain⟨x,rfl,k⟩:=h
 refine⟨_,(aA (aN bW)),?_⟩
 exact k
theorem Gf (T:Txt w K mg t):FO P w K mg base 1 t.uh ["self"] (iM 8):=by
 have sc:=T.pJ.sc ["self"]
 refine T.pJ.F.ok sc ln (fun _ _ _ _ H vs Q E hr h=>?_)
 obtain⟨x,rfl,k⟩:=h
 refine⟨_,(aA (aN bW)),?_⟩
 exact k
theorem Eb (T:Txt w K mg t):FO P w K mg base 1 t.rY ["self"] (iM 9):=by
 have sc:=T.mH.sc ["self"]
 refine T.mH.F.ok sc ln (fun _ _ _ _ H vs Q E hr h=>?_)
 obtain⟨x,rfl,k⟩:=h
 refine⟨_,(aA (aN bW)),?_⟩
 exact k
theorem Gi (T:Txt w K mg t):FO P w K mg base 1 t.ur ["self"] (iM 10):=by
 have sc:=T.pB.sc ["self"]
 refine T.pB.F.ok sc ln (fun _ _ _ _ H vs Q E hr h=>?_)
 obtain⟨x,rfl,k⟩:=h
 refine⟨_,(aA (aN bW)),?_⟩
 exact k
inductive DW (vs:List V) (H:Hp) (Q:VK) (E:XK):Prop where
 | mk:∀z:Str,vs=[.str z]->Q (.bl (rowOf ROWS z).isSome) H->DW vs H Q E
theorem Ff (T:Txt w K mg t):FO P w K mg base 1 t.GD ["word"] (DW):=by
 have sc:=T.wD.sc ["word"]
 refine T.wD.F.ok sc ln (fun _ _ _ _ H vs Q E hr h=>?_)
 obtain⟨z,rfl,k⟩:=h
 refine⟨_,(aA (aN (JF (W0 (pv 0) (Ir (v:=.ref _) (by rfl) T.G9 rfl)) (by with_unfolding_all rfl)))),?_⟩
 exact⟨_,rfl,t.yQ,ROWS,z,rfl,T.Km,rfl,k⟩
inductive Bf (K:PySem.W.Frag) (vs:List V) (H:Hp) (Q:VK) (E:XK):Prop where
 | mk:∀(i:Nat) (nm:V) (a1 a2 a3:Addr) (ns is os:List V),vs=[.str (cT i),nm,.ref a1,.ref a2,.ref a3]->yC K H a1 ns->yC K H a2 is->yC K H a3 os->ns.length=cN i->is.length=cI i->os.length=cO i->((∀v∈ns,Val v))->(∀H',aJ H H'->Q .non H')->Bf K vs H Q E
noncomputable abbrev Eg:List Str:=["kind", "name", "numbers", "ins", "outs", "counts"]
theorem Lk (T:Txt w K mg t):FO P w K mg base 3 t.Ey ["kind", "name", "numbers", "ins", "outs"] (Bf K):=by
 have sc:=T.yg.sc Eg
 refine T.yg.F.ok sc ln (fun _ _ _ _ H vs Q E hr h=>?_)
 obtain⟨i,nm,a1,a2,a3,ns,is,os,rfl,h1,h2,h3,l1,l2,l3,hv,k⟩:=h
 refine⟨_,(az (cC (lV (lg (fj (Ff T) T.wD hr (aa (pv 0) ak aj))))
   (aA eY)
   bL)
  (az (sN sc 5 (Ux (Ir (v:=.ref _) (by rfl) T.G9 rfl) (pv 0) (fun _ _=>rfl)))
  (az (cC (PW.pt (wB (bF Ny (bG cz (by rfl) T.gh dY (aa (pv 2) ak aj)) (bf dN (pv 5) au (fun _ _=>rfl)) (bR _)) (qm (lV (lg (bG (yO rfl) (by rfl) T.Oa Il (aa (gZ [] Eg (bc (top 40)) rfl (VJ (b8 (pv 2)) (HY (pv 2))) (fun _ _ _ _ _=>f9) (fun _ _ _ _ _=>(fj (uZ T) T.pX hr (aa (pv 0) ak aj)))) ak dX)))))))
   (aA eY)
   bL)
  (aA (cC (PW.pt (wB (bF Ny (bG cz (by rfl) T.gh dY (aa (pv 3) ak aj)) (bf dN (pv 5) au (fun _ _=>rfl)) (bR _)) (qm (bF Ny (bG cz (by rfl) T.gh dY (aa (pv 4) ak aj)) (bf dN (pv 5) au (fun _ _=>rfl)) (bR _)))))
   (aA eY)
   bL))))),?_⟩
 have hl:sizeLine=16777216:=sizeLine_eq
 have hN:=YG i
 have hI:=Hr i
 have hO:=RJ i
 refine⟨_,rfl,cT i,rfl,true,by rw [row_of];rfl,fu ?_⟩
 refine⟨_,rfl,t.yQ,ROWS,cT i,_,rfl,T.Km,rfl,row_of i,fun ad had=>?_⟩
 refine⟨_,rfl,.ref a1,ns.length,rfl,h1.len,_,rfl,ad,_,0,_,rfl,rfl,had,aM (j:=0) rfl,rfl,_,rfl,?_⟩
 rw [show(!decide (V.int ((ns.length:Nat):Int)=V.int ((cN i:Nat):Int)))=false by rw [l1];simp]
 refine fu ?_
 refine Rp (a:=a1) (xs:=ns) ?_ h1 (fun j ys=>ys=(List.replicate j true).map V.bl) (by omega) rfl (fun j ys e=>by rw [e];simp) (fun j x ys hx e=>?_) (fun ys e D hD=>?_)
 ·exact fun R r=>⟨_,rfl,r⟩
 ·subst e
  obtain⟨n,rfl,n0,n1⟩:=hv x (List.mem_of_getElem? hx)
  refine yes ⟨_,rfl,.int n,rfl,.inl ⟨n,rfl,rfl,?_⟩⟩
  rw [decide_eq_true n0,decide_eq_true n1,List.replicate_succ']
  simp
 ·subst e
  refine⟨D,_,rfl,bK.of ao,_,rfl,?_⟩
  rw [show((List.replicate ns.length true).all id)=true by simp]
  refine fu ?_
  have s1:aJ H (upd H D (.lst ((List.replicate ns.length true).map V.bl))):=aB hD
  refine⟨_,rfl,.ref a2,is.length,rfl,(s1.seqA h2).len,_,rfl,ad,_,1,_,rfl,rfl,s1.seqT had,aM (j:=1) rfl,rfl,_,rfl,?_⟩
  rw [show(!decide (V.int ((is.length:Nat):Int)=V.int ((cI i:Nat):Int)))=false by rw [l2];simp]
  refine fu ?_
  refine⟨_,rfl,.ref a3,os.length,rfl,(s1.seqA h3).len,_,rfl,ad,_,2,_,rfl,rfl,s1.seqT had,aM (j:=2) rfl,rfl,_,rfl,?_⟩
  rw [show(!decide (V.int ((os.length:Nat):Int)=V.int ((cO i:Nat):Int)))=false by rw [l3];simp]
  exact fu (k _ s1)
inductive Dz (K:PySem.W.Frag) (t:jL) (vs:List V) (H:Hp) (Q:VK) (E:XK):Prop where
 | mk:∀(i:Nat) (nm:V) (a1 a2 a3:Addr) (ns is os:List V),vs=[.str (cT i),nm,.ref a1,.ref a2,.ref a3]->i<=10->yC K H a1 ns->yC K H a2 is->yC K H a3 os->(∀H' p,aJ H H'->H p=none->fL K t H' p i nm ns is os->Q (.ref p) H')->Dz K t vs H Q E
noncomputable abbrev Az:List Str:=["kind", "name", "numbers", "ins", "outs"]
theorem Fo (T:Txt w K mg t):FO P w K mg base 3 t.Gm Az (Dz K t):=by
 have sc:gm Az Az (bc (top 41)):=J4
 refine T.Aq.F.ok sc ln (fun _ _ _ _ H vs Q E hr h=>?_)
 obtain⟨i,nm,a1,a2,a3,ns,is,os,rfl,hi,h1,h2,h3,k⟩:=h
 refine⟨_,(az (cC (bF iw (pv 0) bW (bR _))
   (aA (aN (gj (T.iT.M T.bh) (cu T) (hr.mono (by decide)) (by rfl) T.iT.m T.bh.b .nil fQ (aa (pv 1) (aa (pv 2) (aa (pv 3) (aa (pv 4) ak aj) aj) aj) aj))))
   bL)
  (az (cC (bF iw (pv 0) bW (bR _))
   (aA (aN (gj (T.jc.M T.bh) (cu T) (hr.mono (by decide)) (by rfl) T.jc.m T.bh.b .nil fQ (aa (pv 1) (aa (pv 2) (aa (pv 3) (aa (pv 4) ak aj) aj) aj) aj))))
   bL)
  (az (cC (bF iw (pv 0) bW (bR _))
   (aA (aN (gj (T.iH.M T.bh) (cu T) (hr.mono (by decide)) (by rfl) T.iH.m T.bh.b .nil fQ (aa (pv 1) (aa (pv 2) (aa (pv 3) (aa (pv 4) ak aj) aj) aj) aj))))
   bL)
  (az (cC (bF iw (pv 0) bW (bR _))
   (aA (aN (gj (T.je.M T.bh) (cu T) (hr.mono (by decide)) (by rfl) T.je.m T.bh.b .nil fQ (aa (pv 1) (aa (pv 2) (aa (pv 3) (aa (pv 4) ak aj) aj) aj) aj))))
   bL)
  (az (cC (bF iw (pv 0) bW (bR _))
   (aA (aN (gj (T.iQ.M T.bh) (cu T) (hr.mono (by decide)) (by rfl) T.iQ.m T.bh.b .nil fQ (aa (pv 1) (aa (pv 2) (aa (pv 3) (aa (pv 4) ak aj) aj) aj) aj))))
   bL)
  (az (cC (bF iw (pv 0) bW (bR _))
   (aA (aN (gj (T.gH.M T.bh) (cu T) (hr.mono (by decide)) (by rfl) T.gH.m T.bh.b .nil fQ (aa (pv 1) (aa (pv 2) (aa (pv 3) (aa (pv 4) ak aj) aj) aj) aj))))
   bL)
  (az (cC (bF iw (pv 0) bW (bR _))
   (aA (aN (gj (T.lC.M T.bh) (cu T) (hr.mono (by decide)) (by rfl) T.lC.m T.bh.b .nil fQ (aa (pv 1) (aa (pv 2) (aa (pv 3) (aa (pv 4) ak aj) aj) aj) aj))))
   bL)
  (az (cC (bF iw (pv 0) bW (bR _))
   (aA (aN (gj (T.iR.M T.bh) (cu T) (hr.mono (by decide)) (by rfl) T.iR.m T.bh.b .nil fQ (aa (pv 1) (aa (pv 2) (aa (pv 3) (aa (pv 4) ak aj) aj) aj) aj))))
   bL)
  (az (cC (bF iw (pv 0) bW (bR _))
   (aA (aN (gj (T.fM.M T.bh) (cu T) (hr.mono (by decide)) (by rfl) T.fM.m T.bh.b .nil fQ (aa (pv 1) (aa (pv 2) (aa (pv 3) (aa (pv 4) ak aj) aj) aj) aj))))
   bL)
  (az (cC (bF iw (pv 0) bW (bR _))
   (aA (aN (gj (T.d9.M T.bh) (cu T) (hr.mono (by decide)) (by rfl) T.d9.m T.bh.b .nil fQ (aa (pv 1) (aa (pv 2) (aa (pv 3) (aa (pv 4) ak aj) aj) aj) aj))))
   bL)
  (aA (aN (gj (T.fP.M T.bh) (cu T) (hr.mono (by decide)) (by rfl) T.fP.m T.bh.b .nil fQ (aa (pv 1) (aa (pv 2) (aa (pv 3) (aa (pv 4) ak aj) aj) aj) aj)))))))))))))),?_⟩
 match i,hi with
 | 0,_=>
  refine⟨_,rfl,rfl,_,rfl,yf rfl ?_⟩
  refine⟨_,rfl,_,rfl,_,rfl,_,rfl,fun x dx nx ndx nex=>?_⟩
  have s0:aJ H (upd (upd H dx (.own x)) x (.ins t.Nf dx [])):=fun b o e=>by rw [aH (aD e nx),aH (aD e ndx)];exact e
  exact⟨0,x,dx,a1,a2,a3,nm,ns,is,os,rfl,ao,s0.seqA h1,s0.seqA h2,s0.seqA h3,fun H' b P=>⟨rfl,k H' x (fun c o e=>b c o (aD e nx) (s0 c o e)) nx P⟩⟩
 | 1,_=>
  refine⟨_,rfl,rfl,_,rfl,eO (by decide +kernel) ?_⟩
  refine⟨_,rfl,rfl,_,rfl,yf rfl ?_⟩
  refine⟨_,rfl,_,rfl,_,rfl,_,rfl,fun x dx nx ndx nex=>?_⟩
  have s0:aJ H (upd (upd H dx (.own x)) x (.ins t.Mq dx [])):=fun b o e=>by rw [aH (aD e nx),aH (aD e ndx)];exact e
  exact⟨1,x,dx,a1,a2,a3,nm,ns,is,os,rfl,ao,s0.seqA h1,s0.seqA h2,s0.seqA h3,fun H' b P=>⟨rfl,k H' x (fun c o e=>b c o (aD e nx) (s0 c o e)) nx P⟩⟩
 | 2,_=>
  refine⟨_,rfl,rfl,_,rfl,eO (by decide +kernel) ?_⟩
  refine⟨_,rfl,rfl,_,rfl,eO (by decide +kernel) ?_⟩
  refine⟨_,rfl,rfl,_,rfl,yf rfl ?_⟩
  refine⟨_,rfl,_,rfl,_,rfl,_,rfl,fun x dx nx ndx nex=>?_⟩
  have s0:aJ H (upd (upd H dx (.own x)) x (.ins t.Nk dx [])):=fun b o e=>by rw [aH (aD e nx),aH (aD e ndx)];exact e
  exact⟨2,x,dx,a1,a2,a3,nm,ns,is,os,rfl,ao,s0.seqA h1,s0.seqA h2,s0.seqA h3,fun H' b P=>⟨rfl,k H' x (fun c o e=>b c o (aD e nx) (s0 c o e)) nx P⟩⟩
 | 3,_=>
  refine⟨_,rfl,rfl,_,rfl,eO (by decide +kernel) ?_⟩
  refine⟨_,rfl,rfl,_,rfl,eO (by decide +kernel) ?_⟩
  refine⟨_,rfl,rfl,_,rfl,eO (by decide +kernel) ?_⟩
  refine⟨_,rfl,rfl,_,rfl,yf rfl ?_⟩
  refine⟨_,rfl,_,rfl,_,rfl,_,rfl,fun x dx nx ndx nex=>?_⟩
  have s0:aJ H (upd (upd H dx (.own x)) x (.ins t.Np dx [])):=fun b o e=>by rw [aH (aD e nx),aH (aD e ndx)];exact e
  exact⟨3,x,dx,a1,a2,a3,nm,ns,is,os,rfl,ao,s0.seqA h1,s0.seqA h2,s0.seqA h3,fun H' b P=>⟨rfl,k H' x (fun c o e=>b c o (aD e nx) (s0 c o e)) nx P⟩⟩
 | 4,_=>
  refine⟨_,rfl,rfl,_,rfl,eO (by decide +kernel) ?_⟩
  refine⟨_,rfl,rfl,_,rfl,eO (by decide +kernel) ?_⟩
  refine⟨_,rfl,rfl,_,rfl,eO (by decide +kernel) ?_⟩
  refine⟨_,rfl,rfl,_,rfl,eO (by decide +kernel) ?_⟩
  refine⟨_,rfl,rfl,_,rfl,yf rfl ?_⟩
  refine⟨_,rfl,_,rfl,_,rfl,_,rfl,fun x dx nx ndx nex=>?_⟩
  have s0:aJ H (upd (upd H dx (.own x)) x (.ins t.LR dx [])):=fun b o e=>by rw [aH (aD e nx),aH (aD e ndx)];exact e
  exact⟨4,x,dx,a1,a2,a3,nm,ns,is,os,rfl,ao,s0.seqA h1,s0.seqA h2,s0.seqA h3,fun H' b P=>⟨rfl,k H' x (fun c o e=>b c o (aD e nx) (s0 c o e)) nx P⟩⟩
 | 5,_=>
  refine⟨_,rfl,rfl,_,rfl,eO (by decide +kernel) ?_⟩
  refine⟨_,rfl,rfl,_,rfl,eO (by decide +kernel) ?_⟩
  refine⟨_,rfl,rfl,_,rfl,eO (by decide +kernel) ?_⟩
  refine⟨_,rfl,rfl,_,rfl,eO (by decide +kernel) ?_⟩
  refine⟨_,rfl,rfl,_,rfl,eO (by decide +kernel) ?_⟩
  refine⟨_,rfl,rfl,_,rfl,yf rfl ?_⟩
  refine⟨_,rfl,_,rfl,_,rfl,_,rfl,fun x dx nx ndx nex=>?_⟩
  have s0:aJ H (upd (upd H dx (.own x)) x (.ins t.Jh dx [])):=fun b o e=>by rw [aH (aD e nx),aH (aD e ndx)];exact e
  exact⟨5,x,dx,a1,a2,a3,nm,ns,is,os,rfl,ao,s0.seqA h1,s0.seqA h2,s0.seqA h3,fun H' b P=>⟨rfl,k H' x (fun c o e=>b c o (aD e nx) (s0 c o e)) nx P⟩⟩
 | 6,_=>
  refine⟨_,rfl,rfl,_,rfl,eO (by decide +kernel) ?_⟩
  refine⟨_,rfl,rfl,_,rfl,eO (by decide +kernel) ?_⟩
  refine⟨_,rfl,rfl,_,rfl,eO (by decide +kernel) ?_⟩
  refine⟨_,rfl,rfl,_,rfl,eO (by decide +kernel) ?_⟩
  refine⟨_,rfl,rfl,_,rfl,eO (by decide +kernel) ?_⟩
  refine⟨_,rfl,rfl,_,rfl,eO (by decide +kernel) ?_⟩
  refine⟨_,rfl,rfl,_,rfl,yf rfl ?_⟩
  refine⟨_,rfl,_,rfl,_,rfl,_,rfl,fun x dx nx ndx nex=>?_⟩
  have s0:aJ H (upd (upd H dx (.own x)) x (.ins t.Ra dx [])):=fun b o e=>by rw [aH (aD e nx),aH (aD e ndx)];exact e
  exact⟨6,x,dx,a1,a2,a3,nm,ns,is,os,rfl,ao,s0.seqA h1,s0.seqA h2,s0.seqA h3,fun H' b P=>⟨rfl,k H' x (fun c o e=>b c o (aD e nx) (s0 c o e)) nx P⟩⟩
 | 7,_=>
  refine⟨_,rfl,rfl,_,rfl,eO (by decide +kernel) ?_⟩
  refine⟨_,rfl,rfl,_,rfl,eO (by decide +kernel) ?_⟩
  refine⟨_,rfl,rfl,_,rfl,eO (by decide +kernel) ?_⟩
  refine⟨_,rfl,rfl,_,rfl,eO (by decide +kernel) ?_⟩
  refine⟨_,rfl,rfl,_,rfl,eO (by decide +kernel) ?_⟩
  refine⟨_,rfl,rfl,_,rfl,eO (by decide +kernel) ?_⟩
  refine⟨_,rfl,rfl,_,rfl,eO (by decide +kernel) ?_⟩
  refine⟨_,rfl,rfl,_,rfl,yf rfl ?_⟩
  refine⟨_,rfl,_,rfl,_,rfl,_,rfl,fun x dx nx ndx nex=>?_⟩
  have s0:aJ H (upd (upd H dx (.own x)) x (.ins t.Mz dx [])):=fun b o e=>by rw [aH (aD e nx),aH (aD e ndx)];exact e
  exact⟨7,x,dx,a1,a2,a3,nm,ns,is,os,rfl,ao,s0.seqA h1,s0.seqA h2,s0.seqA h3,fun H' b P=>⟨rfl,k H' x (fun c o e=>b c o (aD e nx) (s0 c o e)) nx P⟩⟩
 | 8,_=>
  refine⟨_,rfl,rfl,_,rfl,eO (by decide +kernel) ?_⟩
  refine⟨_,rfl,rfl,_,rfl,eO (by decide +kernel) ?_⟩
  refine⟨_,rfl,rfl,_,rfl,eO (by decide +kernel) ?_⟩
  refine⟨_,rfl,rfl,_,rfl,eO (by decide +kernel) ?_⟩
  refine⟨_,rfl,rfl,_,rfl,eO (by decide +kernel) ?_⟩
  refine⟨_,rfl,rfl,_,rfl,eO (by decide +kernel) ?_⟩
  refine⟨_,rfl,rfl,_,rfl,eO (by decide +kernel) ?_⟩
  refine⟨_,rfl,rfl,_,rfl,eO (by decide +kernel) ?_⟩
  refine⟨_,rfl,rfl,_,rfl,yf rfl ?_⟩
  refine⟨_,rfl,_,rfl,_,rfl,_,rfl,fun x dx nx ndx nex=>?_⟩
  have s0:aJ H (upd (upd H dx (.own x)) x (.ins t.Jz dx [])):=fun b o e=>by rw [aH (aD e nx),aH (aD e ndx)];exact e
  exact⟨8,x,dx,a1,a2,a3,nm,ns,is,os,rfl,ao,s0.seqA h1,s0.seqA h2,s0.seqA h3,fun H' b P=>⟨rfl,k H' x (fun c o e=>b c o (aD e nx) (s0 c o e)) nx P⟩⟩
 | 9,_=>
  refine⟨_,rfl,rfl,_,rfl,eO (by decide +kernel) ?_⟩
  refine⟨_,rfl,rfl,_,rfl,eO (by decide +kernel) ?_⟩
  refine⟨_,rfl,rfl,_,rfl,eO (by decide +kernel) ?_⟩
  refine⟨_,rfl,rfl,_,rfl,eO (by decide +kernel) ?_⟩
  refine⟨_,rfl,rfl,_,rfl,eO (by decide +kernel) ?_⟩
  refine⟨_,rfl,rfl,_,rfl,eO (by decide +kernel) ?_⟩
  refine⟨_,rfl,rfl,_,rfl,eO (by decide +kernel) ?_⟩
  refine⟨_,rfl,rfl,_,rfl,eO (by decide +kernel) ?_⟩
  refine⟨_,rfl,rfl,_,rfl,eO (by decide +kernel) ?_⟩
  refine⟨_,rfl,rfl,_,rfl,yf rfl ?_⟩
  refine⟨_,rfl,_,rfl,_,rfl,_,rfl,fun x dx nx ndx nex=>?_⟩
  have s0:aJ H (upd (upd H dx (.own x)) x (.ins t.Fp dx [])):=fun b o e=>by rw [aH (aD e nx),aH (aD e ndx)];exact e
  exact⟨9,x,dx,a1,a2,a3,nm,ns,is,os,rfl,ao,s0.seqA h1,s0.seqA h2,s0.seqA h3,fun H' b P=>⟨rfl,k H' x (fun c o e=>b c o (aD e nx) (s0 c o e)) nx P⟩⟩
 | 10,_=>
  refine⟨_,rfl,rfl,_,rfl,eO (by decide +kernel) ?_⟩
  refine⟨_,rfl,rfl,_,rfl,eO (by decide +kernel) ?_⟩
  refine⟨_,rfl,rfl,_,rfl,eO (by decide +kernel) ?_⟩
  refine⟨_,rfl,rfl,_,rfl,eO (by decide +kernel) ?_⟩
  refine⟨_,rfl,rfl,_,rfl,eO (by decide +kernel) ?_⟩
  refine⟨_,rfl,rfl,_,rfl,eO (by decide +kernel) ?_⟩
  refine⟨_,rfl,rfl,_,rfl,eO (by decide +kernel) ?_⟩
  refine⟨_,rfl,rfl,_,rfl,eO (by decide +kernel) ?_⟩
  refine⟨_,rfl,rfl,_,rfl,eO (by decide +kernel) ?_⟩
  refine⟨_,rfl,rfl,_,rfl,eO (by decide +kernel) ?_⟩
  refine⟨_,rfl,_,rfl,_,rfl,_,rfl,fun x dx nx ndx nex=>?_⟩
  have s0:aJ H (upd (upd H dx (.own x)) x (.ins t.Ie dx [])):=fun b o e=>by rw [aH (aD e nx),aH (aD e ndx)];exact e
  exact⟨10,x,dx,a1,a2,a3,nm,ns,is,os,rfl,ao,s0.seqA h1,s0.seqA h2,s0.seqA h3,fun H' b P=>⟨rfl,k H' x (fun c o e=>b c o (aD e nx) (s0 c o e)) nx P⟩⟩
 | (n+11),h=>exact absurd h (by omega)
inductive zm (K:PySem.W.Frag) (t:jL) (vs:List V) (H:Hp) (Q:VK) (E:XK):Prop where
 | mk:∀(i:Nat) (nm:V) (a1 a2 a3:Addr) (ns is os:List V),vs=[.str (cT i),nm,.ref a1,.ref a2,.ref a3]->i<=10->yC K H a1 ns->yC K H a2 is->yC K H a3 os->ns.length=cN i->is.length=cI i->os.length=cO i->((∀v∈ns,Val v))->(∀H' p,aJ H H'->H p=none->fL K t H' p i nm ns is os->Q (.ref p) H')->zm K t vs H Q E
noncomputable abbrev uL:List Str:=["kind", "name", "numbers", "ins", "outs"]
theorem Jq (T:Txt w K mg t):FO P w K mg base 4 t.BZ uL (zm K t):=by
 have sc:gm uL uL (bc (top 42)):=J4
 refine T.Br.F.ok sc ln (fun _ _ _ _ H vs Q E hr h=>?_)
 obtain⟨i,nm,a1,a2,a3,ns,is,os,rfl,hi,h1,h2,h3,l1,l2,l3,hv,k⟩:=h
 refine⟨_,(az (bN (fj (Lk T) T.yg hr (aa (pv 0) (aa (pv 1) (aa (pv 2) (aa (pv 3) (aa (pv 4) ak aj) aj) aj) aj) aj)))
  (aA (aN (fj (Fo T) T.Aq hr (aa (pv 0) (aa (pv 1) (aa (pv 2) (aa (pv 3) (aa (pv 4) ak aj) aj) aj) aj) aj))))),?_⟩
 refine⟨_,rfl,_,rfl,_,rfl,_,rfl,_,rfl,i,nm,a1,a2,a3,ns,is,os,rfl,h1,h2,h3,l1,l2,l3,hv,fun H1 s1=>?_⟩
 exact⟨_,rfl,_,rfl,_,rfl,_,rfl,_,rfl,i,nm,a1,a2,a3,ns,is,os,rfl,hi,s1.seqA h1,s1.seqA h2,s1.seqA h3,fun H2 p s2 np P=>k H2 p (s1.trans s2) (s1.free np) P⟩
inductive Ob (vs:List V) (H:Hp) (Q:VK) (E:XK):Prop where
 | mk:∀a:Int,vs=[.int a]->Q (.int (a % 1000000000)) H->Ob vs H Q E
theorem Jv (T:Txt w K mg t):FO P w K mg base 1 t.Sv ["number"] (Ob):=by
 have sc:=T.Ef.sc ["number"]
 refine T.Ef.F.ok sc ln (fun _ _ _ _ H vs Q E hr h=>?_)
 obtain⟨a,rfl,k⟩:=h
 refine⟨_,(aA (aN (bA cH (pv 0) (jV (by rfl) T.Kg)))),?_⟩
 exact⟨_,rfl,_,_,rfl,rfl,by show(0:Int) <1000000000;decide,k⟩
inductive wj (K:PySem.W.Frag) (t:jL) (vs:List V) (H:Hp) (Q:VK) (E:XK):Prop where
 | mk:∀i,i≠9->pM K t i vs H Q E->wj K t vs H Q E
theorem dC (T:Txt w K mg t):FO P w K mg base 1 t.cZ ["self", "heads"] (wj K t):=by
 have sc:=T.bI.sc ["self", "heads"]
 refine T.bI.F.ok sc ln (fun _ _ _ _ H vs Q E hr h=>?_)
 obtain⟨i,hi,p,a,nm,ns,is,os,hs,rfl,hP,hI,hS,hH,k⟩:=h
 refine⟨_,(aA (aN (cW (Gg rfl) (by rfl) T.j7 iK (aa (cW Ky (by rfl) T.pG QF (aa (bG cz (by rfl) T.gh dY (aa (aQ (pv 0) rfl) ak aV)) ak aO)) ak aO)))),?_⟩
 obtain⟨dx,tn,ti,to,hp,h2,h3,h4⟩:=id hP.ex
 have h3':=Hr i
 refine⟨_,rfl,p,cls t i,dx,_,.ref ti,rfl,hp,eN T i,tH T i,mZ _ _ _ _,.ref ti,is.length,rfl,.inr ⟨is,h3,rfl⟩,_,rfl,fun r hr=>⟨r,is.length,rfl,ao,by omega,fun l hl=>?_⟩⟩
 have e:(places i hs).map nV=Te is.length:=by
  unfold places Te
  rw [if_neg hi,hH.1,hI]
  rfl
 refine k _ l ((aB hr).trans (aB hl)) ((aB hr).free hl) ?_
 rw [e]
 exact ao
theorem Ab (T:Txt w K mg t):FO P w K mg base 1 t.ou ["self", "heads"] (pM K t 9):=by
 have sc:=T.jW.sc ["self", "heads"]
 refine T.jW.F.ok sc ln (fun _ _ _ _ H vs Q E hr h=>?_)
 obtain⟨p,a,nm,ns,is,os,hs,rfl,hP,hI,hS,hH,k⟩:=h
 refine⟨_,(az (cC (j4 (El (bf bw (pv 1) au (fun _ _=>rfl))))
   (aA (aN (bM (aa au ak aq))))
   bL)
  (aA (aN (bM (aa au (aa (bA eQ au (bA cH (bf bw (pv 1) au (fun _ _=>rfl)) au)) ak cg) aq))))),?_⟩
 have hl:sizeLine=16777216:=sizeLine_eq
 have hlen:hs.length=3:=hH.1
 match hs,hlen,hH with
 | h0:: r,hlen,hH=>
  have ea:J0 (h0:: r) 0=some h0:=aM (xs:=h0:: r) (j:=0) rfl
  rcases hH.2 h0 List.mem_cons_self with e | ⟨n,e⟩
  ·subst e
   refine⟨_,rfl,a,_,0,_,rfl,rfl,hS,ea,_,rfl,yf rfl ?_⟩
   exact⟨jt,fun L hL=>k _ L (aB hL) hL ao⟩
  ·subst e
   refine⟨_,rfl,a,_,0,_,rfl,rfl,hS,ea,_,rfl,eO (by intro z;cases z) ?_⟩
   refine⟨_,rfl,a,_,0,_,rfl,rfl,hS,ea,_,_,rfl,rfl,by show(0:Int) <2;decide,_,_,rfl,rfl,jt,fun L hL=>k _ L (aB hL) hL ?_⟩
   have h0:=Int.emod_nonneg n (show(2:Int)≠0 by decide)
   have e1:(1:Int)+n % 2=((1+(n % 2).toNat:Nat):Int):=by omega
   rw [ao]
   show some (HO.lst [.int 0,.int (1+n % 2)])=some (HO.lst [.int ((0:Nat):Int),.int ((1+(n % 2).toNat:Nat):Int)])
   rw [e1]
   rfl
theorem Hv (T:Txt w K mg t) (i:Nat):MethAt P w K mg base Ao 1 (cls t i) "taking" (pM K t i):=match i with
 | 0=>⟨_,_,_,T.iT.c,(T.bI.me T.iT.me.2.2.1),T.bI.b,(dC T).imp fun _ _ _ _ h=>⟨_,by omega,h⟩⟩
 | 1=>⟨_,_,_,T.jc.c,(T.bI.me T.jc.me.2.2.1),T.bI.b,(dC T).imp fun _ _ _ _ h=>⟨_,by omega,h⟩⟩
 | 2=>⟨_,_,_,T.iH.c,(T.bI.me T.iH.me.2.2.1),T.bI.b,(dC T).imp fun _ _ _ _ h=>⟨_,by omega,h⟩⟩
 | 3=>⟨_,_,_,T.je.c,(T.bI.me T.je.me.2.2.1),T.bI.b,(dC T).imp fun _ _ _ _ h=>⟨_,by omega,h⟩⟩
 | 4=>⟨_,_,_,T.iQ.c,(T.bI.me T.iQ.me.2.2.1),T.bI.b,(dC T).imp fun _ _ _ _ h=>⟨_,by omega,h⟩⟩
 | 5=>⟨_,_,_,T.gH.c,(T.bI.me T.gH.me.2.2.1),T.bI.b,(dC T).imp fun _ _ _ _ h=>⟨_,by omega,h⟩⟩
 | 6=>⟨_,_,_,T.lC.c,(T.bI.me T.lC.me.2.2.1),T.bI.b,(dC T).imp fun _ _ _ _ h=>⟨_,by omega,h⟩⟩
 | 7=>⟨_,_,_,T.iR.c,(T.bI.me T.iR.me.2.2.1),T.bI.b,(dC T).imp fun _ _ _ _ h=>⟨_,by omega,h⟩⟩
 | 8=>⟨_,_,_,T.fM.c,(T.bI.me T.fM.me.2.2.1),T.bI.b,(dC T).imp fun _ _ _ _ h=>⟨_,by omega,h⟩⟩
 | 9=>⟨_,_,_,T.d9.c,(T.jW.me T.d9.me.2.2.1),T.jW.b,Ab T⟩
 | n+10=>⟨_,_,_,T.fP.c,(T.bI.me T.fP.me.2.2.1),T.bI.b,(dC T).imp fun _ _ _ _ h=>⟨_,by omega,h⟩⟩
inductive xP (K:PySem.W.Frag) (t:jL) (vs:List V) (H:Hp) (Q:VK) (E:XK):Prop where
 | mk:∀i,zN K t i vs H Q E->xP K t vs H Q E
theorem dB (T:Txt w K mg t):FO P w K mg base 2 t.dh ["self", "heads"] (xP K t):=by
 have sc:=T.bJ.sc ["self", "heads", "place"]
 refine T.bJ.F.ok sc ln (fun _ _ _ _ H vs Q E hr h=>?_)
 obtain⟨i,p,a,nm,ns,is,os,hs,rfl,hP,hI,hS,hH,k⟩:=h
 refine⟨_,(az (d7 PassesOwn.never rfl (b8 (vI (CX:=Ao) (k:=1) (E:=E0) (pv 0) (hr.mono (by decide)) fQ (aa (pv 1) ak aj))) (gN sc 2)
   (aA (cC (j4 (El (bf bw (pv 1) (pv 2) (fun _ _=>rfl))))
    (aA (aN (pv 2)))
    bL)))
  (aA (aN Ba))),?_⟩
 obtain⟨dx,tn,ti,to,hp,h2,h3,h4⟩:=id hP.ex
 refine⟨_,rfl,p,cls t i,dx,_,pM K t i,rfl,hp,mK _ _ _ _ (by decide +kernel) (by decide +kernel) (by decide +kernel) (by decide +kernel),Hv T i,_,rfl,p,a,nm,ns,is,os,hs,rfl,hP,hI,hS,hH,fun H1 L s1 nL eL=>⟨L,rfl,⟨_,bK.of eL⟩,?_⟩⟩
 refine d8 (K:=K) (a:=L) (xs:=(places i hs).map nV) (fun j σ H2=>H2=H1/\∃v,σ=[some (.ref p),some (.ref a),v]/\∀q∈(places i hs).take j,xf hs q=false)
  ⟨rfl,none,rfl,by simp⟩ (fun j σ H2 _ ⟨e,_⟩=>by rw [e];exact bK.of eL) ?_ ?_
 ·rintro j x σ H2 hx ⟨rfl,v,rfl,hno⟩
  rw [List.getElem?_map] at hx
  obtain⟨q,hq,rfl⟩:=Option.map_eq_some_iff.mp hx
  have hlt:=lO hH q (List.mem_of_getElem? hq)
  obtain⟨hv,ev⟩:∃hv,hs[q]?=some hv:=⟨hs[q],List.getElem?_eq_getElem hlt⟩
  refine⟨_,rfl,_,rfl,a,hs,_,hv,rfl,rfl,s1.seq hS,aM ev,_,rfl,kO (fun hn=>?_) (fun hn=>?_)⟩
  ·have hn':hv=.non:=of_decide_eq_true hn
   refine⟨_,rfl,?_⟩
   have:=k H2 s1
   unfold Nu at this
   rw [Oj hq hno (by unfold xf;rw [ev,hn'];simp)] at this
   exact this
  ·have hn':¬hv=.non:=fun z=>hn (decide_eq_true z)
   refine⟨rfl,_,rfl,fun y hy=>?_⟩
   rw [List.take_add_one,hq] at hy
   rcases List.mem_append.mp hy with hy | hy
   ·exact hno y hy
   ·have e:y=q:=by simpa using hy
    subst e
    unfold xf
    rw [ev]
    simpa using hn'
 ·rintro σ H2 ⟨rfl,v,rfl,hno⟩
  have:=k H2 s1
  unfold Nu at this
  rw [lM,List.take_of_length_le (Nat.le_refl _)] at hno
  rw [Uw hno] at this
  exact this
inductive wW (K:PySem.W.Frag) (t:jL) (vs:List V) (H:Hp) (Q:VK) (E:XK):Prop where
 | mk:∀i,i≠5->vh K t i vs H Q E->wW K t vs H Q E
theorem dW (T:Txt w K mg t):FO P w K mg base 1 t.dF ["self"] (wW K t):=by
 have sc:=T.bO.sc ["self"]
 refine T.bO.F.ok sc ln (fun _ _ _ _ H vs Q E hr h=>?_)
 obtain⟨i,hi,p,nm,ns,is,os,rfl,hP,hn,k⟩:=h
 refine⟨_,(aA (aN au)),?_⟩
 unfold Im at k
 rw [if_neg hi] at k
 exact k
theorem FT (T:Txt w K mg t):FO P w K mg base 1 t.uo ["self"] (vh K t 5):=by
 have sc:=T.o8.sc ["self"]
 refine T.o8.F.ok sc ln (fun _ _ _ _ H vs Q E hr h=>?_)
 obtain⟨p,nm,ns,is,os,rfl,hP,hn,k⟩:=h
 refine⟨_,(aA (aN (bf LK (aQ (pv 0) rfl) au (fun _ _=>rfl)))),?_⟩
 obtain⟨dx,tn,ti,to,hp,h2,h3,h4⟩:=id hP.ex
 match ns,hn with
 | v:: r,hn=>
  exact⟨_,rfl,p,cls t 5,dx,_,.ref tn,rfl,hp,eN T 5,lY T 5,lF _ _ _ _,.inr (.inl ⟨tn,_,0,v,rfl,rfl,h2,aM (xs:=v:: r) (j:=0) rfl,k⟩)⟩
theorem Ji (T:Txt w K mg t) (i:Nat):MethAt P w K mg base Ao 1 (cls t i) "kind" (iM i):=match i with
 | 0=>⟨_,_,_,T.iT.c,(T.qX.me T.iT.me.2.1),T.qX.b,Jx T⟩
 | 1=>⟨_,_,_,T.jc.c,(T.qY.me T.jc.me.2.1),T.qY.b,JD T⟩
 | 2=>⟨_,_,_,T.iH.c,(T.qT.me T.iH.me.2.1),T.qT.b,Io T⟩
 | 3=>⟨_,_,_,T.je.c,(T.qK.me T.je.me.2.1),T.qK.b,Jl T⟩
 | 4=>⟨_,_,_,T.iQ.c,(T.qP.me T.iQ.me.2.1),T.qP.b,HJ T⟩
 | 5=>⟨_,_,_,T.gH.c,(T.rn.me T.gH.me.2.1),T.rn.b,JP T⟩
 | 6=>⟨_,_,_,T.lC.c,(T.ue.me T.lC.me.2.1),T.ue.b,Kw T⟩
 | 7=>⟨_,_,_,T.iR.c,(T.rB.me T.iR.me.2.1),T.rB.b,HW T⟩
 | 8=>⟨_,_,_,T.fM.c,(T.pJ.me T.fM.me.2.1),T.pJ.b,Gf T⟩
 | 9=>⟨_,_,_,T.d9.c,(T.mH.me T.d9.me.2.1),T.mH.b,Eb T⟩
 | n+10=>⟨_,_,_,T.fP.c,(T.pB.me T.fP.me.2.1),T.pB.b,Gi T⟩
inductive oZ (K:PySem.W.Frag) (t:jL) (vs:List V) (H:Hp) (Q:VK) (E:XK):Prop where
 | mk:∀i,i≠5->jw K t i vs H Q E->oZ K t vs H Q E
theorem bZ (T:Txt w K mg t):FO P w K mg base 4 t.bT ["self", "kept"] (oZ K t):=by
 have sc:=T.aY.sc ["self", "kept"]
 refine T.aY.F.ok sc ln (fun _ _ _ _ H vs Q E hr h=>?_)
 obtain⟨i,hi,p,kv,nm,ns,is,os,rfl,hi10,hP,k⟩:=h
 refine⟨_,(aA (aN (fj (Fo T) T.Aq hr (aa (wG (CX:=Ao) (k:=1) (E:=E0) (pv 0) (hr.mono (by decide)) fQ) (aa (aQ (pv 0) rfl) (aa (aQ (pv 0) rfl) (aa (aQ (pv 0) rfl) (aa (aQ (pv 0) rfl) ak aV) aV) aV) aV) aO)))),?_⟩
 obtain⟨dx,tn,ti,to,hp,h2,h3,h4⟩:=id hP.ex
 unfold Jy at k
 rw [if_neg hi] at k
 refine⟨_,rfl,p,cls t i,dx,_,iM i,rfl,hp,(mK _ _ _ _ (by decide +kernel) (by decide +kernel) (by decide +kernel) (by decide +kernel)),Ji T i,_,rfl,?_⟩
 refine⟨_,rfl,p,cls t i,dx,_,nm,rfl,hp,eN T i,tY T i,pU _ _ _ _,?_⟩
 refine⟨_,rfl,p,cls t i,dx,_,.ref tn,rfl,hp,eN T i,lY T i,lF _ _ _ _,?_⟩
 refine⟨_,rfl,p,cls t i,dx,_,.ref ti,rfl,hp,eN T i,tH T i,mZ _ _ _ _,?_⟩
 refine⟨_,rfl,p,cls t i,dx,_,.ref to,rfl,hp,eN T i,wO T i,sJ _ _ _ _,?_⟩
 exact⟨i,nm,tn,ti,to,ns,is,os,rfl,hi10,.inr h2,.inr h3,.inr h4,fun H' q s n P=>k H' q s n P⟩
theorem wU (T:Txt w K mg t):FO P w K mg base 3 t.j5 ["self", "kept"] (jw K t 5):=by
 have sc:=T.iV.sc ["self", "kept"]
 refine T.iV.F.ok sc ln (fun _ _ _ _ H vs Q E hr h=>?_)
 obtain⟨p,kv,nm,ns,is,os,rfl,hi10,hP,k⟩:=h
 refine⟨_,(aA (aN (gj (T.gH.M T.bh) (cu T) (hr.mono (by decide)) (by rfl) T.gH.m T.bh.b .nil fQ (aa (aQ (pv 0) rfl) (aa (cB (aa (pv 1) ak aj)) (aa (aQ (pv 0) rfl) (aa (aQ (pv 0) rfl) ak aV) aV) cQ) aV)))),?_⟩
 have hl:sizeLine=16777216:=sizeLine_eq
 obtain⟨dx,tn,ti,to,hp,h2,h3,h4⟩:=id hP.ex
 refine⟨_,rfl,p,cls t 5,dx,_,nm,rfl,hp,eN T 5,tY T 5,pU _ _ _ _,?_⟩
 refine⟨_,rfl,jt,fun u nu=>?_⟩
 have s1:=aB (o:=.tup [kv]) nu
 have e1:(upd H u (.tup [kv])) u=some (.tup [kv]):=ao
 generalize upd H u (.tup [kv])=H1 at s1 e1 ⊢
 have hp1:=s1 _ _ hp
 refine⟨_,rfl,p,cls t 5,dx,_,.ref ti,rfl,hp1,eN T 5,tH T 5,mZ _ _ _ _,?_⟩
 refine⟨_,rfl,p,cls t 5,dx,_,.ref to,rfl,hp1,eN T 5,wO T 5,sJ _ _ _ _,fun x dy nx ndx nex=>?_⟩
 have s0:aJ H1 (upd (upd H1 dy (.own x)) x (.ins t.Jh dy [])):=fun b o e=>by rw [aH (aD e nx),aH (aD e ndx)];exact e
 exact⟨5,x,dy,u,ti,to,nm,[kv],is,os,rfl,ao,s0.seqA (.inr (fC.of e1)),s0.seqA (.inr (s1.seqT h3)),s0.seqA (.inr (s1.seqT h4)),fun H' b P=>⟨rfl,k H' x (s1.trans fun c o e=>b c o (aD e nx) (s0 c o e)) (s1.free nx) P⟩⟩
theorem Do (T:Txt w K mg t):FO P w K mg base 1 t.rF ["self", "values", "kept"] (fH K t 2):=by
 have sc:=T.mO.sc ["self", "values", "kept"]
 refine T.mO.F.ok sc ln (fun _ _ _ _ H vs Q E hr h=>?_)
 obtain⟨p,a,nm,ns,is,os,ws,kp,rfl,hP,ln,hS,lw,hB,k⟩:=h
 refine⟨_,(aA (aN (cB (aa (bM (aa (cB (aa au (aa (bf bw (pv 1) au (fun _ _=>rfl)) ak aF) aq)) ak cQ)) (aa (pv 2) ak aj) bj)))),?_⟩
 obtain⟨dx,tn,ti,to,hp,h2,h3,h4⟩:=id hP.ex
 match ws,lw with
 | [v],_=>
  have fin:∀H' L rs,aJ H H'->H L=none->H' L=some (.lst (rs.map V.ref))->jP H' rs (JS (cU 2 ns [v] kp))->∀U,H' U=none->Q (.ref U) (upd H' U (.tup [.ref L,.int (gB 2 [v] kp)])):=Dv k
  exact⟨_,rfl,a,_,0,_,rfl,rfl,hS,rfl,fc,fun t0 n0=>⟨one_le,fun L nL=>⟨_,rfl,fc,fun U nU=>yw (Q:=fun x H'=>∀U,H' U=none->Q (.ref U) (upd H' U (.tup [x,.int (gB 2 [v] kp)]))) rfl rfl fin n0 nL U nU⟩⟩⟩
theorem Df (T:Txt w K mg t):FO P w K mg base 1 t.rO ["self", "values", "kept"] (fH K t 3):=by
 have sc:=T.mz.sc ["self", "values", "kept"]
 refine T.mz.F.ok sc ln (fun _ _ _ _ H vs Q E hr h=>?_)
 obtain⟨p,a,nm,ns,is,os,ws,kp,rfl,hP,ln,hS,lw,hB,k⟩:=h
 refine⟨_,(aA (aN (cB (aa (bM (aa (cB (aa au (aa (bf bw (pv 1) au (fun _ _=>rfl)) ak aF) aq)) (aa (cB (aa au (aa (bf bw (pv 1) au (fun _ _=>rfl)) ak aF) aq)) ak cQ) cQ)) (aa (pv 2) ak aj) bj)))),?_⟩
 obtain⟨dx,tn,ti,to,hp,h2,h3,h4⟩:=id hP.ex
 match ws,lw with
 | [v],_=>
  have fin:∀H' L rs,aJ H H'->H L=none->H' L=some (.lst (rs.map V.ref))->jP H' rs (JS (cU 3 ns [v] kp))->∀U,H' U=none->Q (.ref U) (upd H' U (.tup [.ref L,.int (gB 3 [v] kp)])):=Dv k
  exact⟨_,rfl,a,_,0,_,rfl,rfl,hS,rfl,fc,fun t0 n0=>⟨_,rfl,a,_,0,_,rfl,rfl,((aB n0).seq hS),rfl,fc,fun t1 n1=>⟨fc,fun L nL=>⟨_,rfl,fc,fun U nU=>Vl (Q:=fun x H'=>∀U,H' U=none->Q (.ref U) (upd H' U (.tup [x,.int (gB 3 [v] kp)]))) rfl rfl rfl rfl fin n0 n1 nL U nU⟩⟩⟩⟩
theorem Fi (T:Txt w K mg t):FO P w K mg base 2 t.rG ["self", "values", "kept"] (fH K t 4):=by
 have sc:=T.mq.sc ["self", "values", "kept"]
 refine T.mq.F.ok sc ln (fun _ _ _ _ H vs Q E hr h=>?_)
 obtain⟨p,a,nm,ns,is,os,ws,kp,rfl,hP,ln,hS,lw,hB,k⟩:=h
 refine⟨_,(aA (aN (cB (aa (bM (aa (cB (aa au (aa (fj (Jv T) T.Ef hr (aa (bA eQ (bA mV (bf LK (aQ (pv 0) rfl) au (fun _ _=>rfl)) (bf bw (pv 1) au (fun _ _=>rfl))) (bf LK (aQ (pv 0) rfl) au (fun _ _=>rfl))) ak cg)) ak aO) aq)) ak cQ)) (aa (pv 2) ak aj) bj)))),?_⟩
 obtain⟨dx,tn,ti,to,hp,h2,h3,h4⟩:=id hP.ex
 match ws,lw,ns,ln with
 | [v],_,[m,m1],_=>
  have fin:∀H' L rs,aJ H H'->H L=none->H' L=some (.lst (rs.map V.ref))->jP H' rs (JS (cU 4 [m,m1] [v] kp))->∀U,H' U=none->Q (.ref U) (upd H' U (.tup [.ref L,.int (gB 4 [v] kp)])):=Dv k
  exact⟨_,rfl,p,cls t 4,dx,_,.ref tn,rfl,hp,eN T 4,lY T 4,lF _ _ _ _,.inr (.inl ⟨tn,_,0,_,rfl,rfl,h2,rfl,_,rfl,a,_,0,_,rfl,rfl,hS,rfl,_,_,rfl,rfl,Y0 hB (by simp),_,rfl,p,cls t 4,dx,_,.ref tn,rfl,hp,eN T 4,lY T 4,lF _ _ _ _,.inr (.inl ⟨tn,_,1,_,rfl,rfl,h2,rfl,_,_,rfl,rfl,_,rfl,fc,fun t0 n0=>⟨one_le,fun L nL=>⟨_,rfl,fc,fun U nU=>yw (Q:=fun x H'=>∀U,H' U=none->Q (.ref U) (upd H' U (.tup [x,.int (gB 4 [v] kp)]))) rfl rfl fin n0 nL U nU⟩⟩⟩)⟩)⟩
theorem Dn (T:Txt w K mg t):FO P w K mg base 2 t.rW ["self", "values", "kept"] (fH K t 5):=by
 have sc:=T.mW.sc ["self", "values", "kept", "together"]
 refine T.mW.F.ok sc ln (fun _ _ _ _ H vs Q E hr h=>?_)
 obtain⟨p,a,nm,ns,is,os,ws,kp,rfl,hP,ln,hS,lw,hB,k⟩:=h
 refine⟨_,(az (sN sc 3 (fj (Jv T) T.Ef hr (aa (bA eQ (pv 2) (bf bw (pv 1) au (fun _ _=>rfl))) ak cg)))
  (aA (aN (cB (aa (bM (aa (cB (aa au (aa (pv 3) ak aj) aq)) ak cQ)) (aa (pv 3) ak aj) bj))))),?_⟩
 obtain⟨dx,tn,ti,to,hp,h2,h3,h4⟩:=id hP.ex
 match ws,lw with
 | [v],_=>
  have fin:∀H' L rs,aJ H H'->H L=none->H' L=some (.lst (rs.map V.ref))->jP H' rs (JS (cU 5 ns [v] kp))->∀U,H' U=none->Q (.ref U) (upd H' U (.tup [.ref L,.int (gB 5 [v] kp)])):=Dv k
  exact⟨_,rfl,_,rfl,a,_,0,_,rfl,rfl,hS,rfl,_,_,rfl,rfl,_,rfl,_,rfl,fc,fun t0 n0=>⟨one_le,fun L nL=>⟨_,rfl,fc,fun U nU=>yw (Q:=fun x H'=>∀U,H' U=none->Q (.ref U) (upd H' U (.tup [x,.int (gB 5 [v] kp)]))) rfl rfl fin n0 nL U nU⟩⟩⟩
theorem Gk (T:Txt w K mg t):FO P w K mg base 2 t.tW ["self", "values", "kept"] (fH K t 6):=by
 have sc:=T.pK.sc ["self", "values", "kept"]
 refine T.pK.F.ok sc ln (fun _ _ _ _ H vs Q E hr h=>?_)
 obtain⟨p,a,nm,ns,is,os,ws,kp,rfl,hP,ln,hS,lw,hB,k⟩:=h
 refine⟨_,(aA (aN (cB (aa (bM (aa (cB (aa au (aa (fj (Jv T) T.Ef hr (aa (bA eQ (bf bw (pv 1) au (fun _ _=>rfl)) (bf bw (pv 1) au (fun _ _=>rfl))) ak cg)) ak aO) aq)) ak cQ)) (aa (pv 2) ak aj) bj)))),?_⟩
 obtain⟨dx,tn,ti,to,hp,h2,h3,h4⟩:=id hP.ex
 match ws,lw with
 | [v,v1],_=>
  have fin:∀H' L rs,aJ H H'->H L=none->H' L=some (.lst (rs.map V.ref))->jP H' rs (JS (cU 6 ns [v,v1] kp))->∀U,H' U=none->Q (.ref U) (upd H' U (.tup [.ref L,.int (gB 6 [v,v1] kp)])):=Dv k
  exact⟨_,rfl,a,_,0,_,rfl,rfl,hS,rfl,_,rfl,a,_,1,_,rfl,rfl,hS,rfl,_,_,rfl,rfl,_,rfl,fc,fun t0 n0=>⟨one_le,fun L nL=>⟨_,rfl,fc,fun U nU=>yw (Q:=fun x H'=>∀U,H' U=none->Q (.ref U) (upd H' U (.tup [x,.int (gB 6 [v,v1] kp)]))) rfl rfl fin n0 nL U nU⟩⟩⟩
theorem Fz (T:Txt w K mg t):FO P w K mg base 1 t.rJ ["self", "values", "kept"] (fH K t 7):=by
 have sc:=T.mF.sc ["self", "values", "kept"]
 refine T.mF.F.ok sc ln (fun _ _ _ _ H vs Q E hr h=>?_)
 obtain⟨p,a,nm,ns,is,os,ws,kp,rfl,hP,ln,hS,lw,hB,k⟩:=h
 refine⟨_,(aA (aN (cB (aa (bM (aa (cB (aa au (aa (vp (bF yG (bf bw (pv 1) au (fun _ _=>rfl)) (bf bw (pv 1) au (fun _ _=>rfl)) (bR _)) au au) ak Mh) aq)) ak cQ)) (aa (pv 2) ak aj) bj)))),?_⟩
 obtain⟨dx,tn,ti,to,hp,h2,h3,h4⟩:=id hP.ex
 match ws,lw with
 | [v,v1],_=>
  have fin:∀H' L rs,aJ H H'->H L=none->H' L=some (.lst (rs.map V.ref))->jP H' rs (JS (cU 7 ns [v,v1] kp))->∀U,H' U=none->Q (.ref U) (upd H' U (.tup [.ref L,.int (gB 7 [v,v1] kp)])):=Dv k
  refine⟨_,rfl,a,_,0,_,rfl,rfl,hS,rfl,_,rfl,a,_,1,_,rfl,rfl,hS,rfl,_,_,rfl,rfl,_,rfl,kO (fun h=>?_) (fun h=>?_)⟩
  ·have h':v <v1:=of_decide_eq_true h
   exact⟨fc,fun t0 n0=>⟨one_le,fun L nL=>⟨_,rfl,fc,fun U nU=>yw (Q:=fun x H'=>∀U,H' U=none->Q (.ref U) (upd H' U (.tup [x,.int (gB 7 [v,v1] kp)]))) rfl (by show(1:Int)=if v <v1 then 1 else 0;rw [if_pos h']) fin n0 nL U nU⟩⟩⟩
  ·have h':¬v <v1:=fun z=>h (decide_eq_true z)
   exact⟨fc,fun t0 n0=>⟨one_le,fun L nL=>⟨_,rfl,fc,fun U nU=>yw (Q:=fun x H'=>∀U,H' U=none->Q (.ref U) (upd H' U (.tup [x,.int (gB 7 [v,v1] kp)]))) rfl (by show(0:Int)=if v <v1 then 1 else 0;rw [if_neg h']) fin n0 nL U nU⟩⟩⟩
theorem Cm (T:Txt w K mg t):FO P w K mg base 1 t.qg ["self", "values", "kept"] (fH K t 8):=by
 have sc:=T.lB.sc ["self", "values", "kept"]
 refine T.lB.F.ok sc ln (fun _ _ _ _ H vs Q E hr h=>?_)
 obtain⟨p,a,nm,ns,is,os,ws,kp,rfl,hP,ln,hS,lw,hB,k⟩:=h
 refine⟨_,(aA (aN (cB (aa (bM (aa (cB (aa au (aa (bG (Pr rfl) (by rfl) T.YC WY (aa (pv 1) ak aj)) ak aO) aq)) (aa (cB (aa au (aa (bG (Qk rfl) (by rfl) T.Qy Ms (aa (pv 1) ak aj)) ak aO) aq)) ak cQ) cQ)) (aa (pv 2) ak aj) bj)))),?_⟩
 obtain⟨dx,tn,ti,to,hp,h2,h3,h4⟩:=id hP.ex
 match ws,lw with
 | [v,v1],_=>
  have fin:∀H' L rs,aJ H H'->H L=none->H' L=some (.lst (rs.map V.ref))->jP H' rs (JS (cU 8 ns [v,v1] kp))->∀U,H' U=none->Q (.ref U) (upd H' U (.tup [.ref L,.int (gB 8 [v,v1] kp)])):=Dv k
  exact⟨_,rfl,a,v,v1,rfl,hS,fc,fun t0 n0=>⟨_,rfl,a,v,v1,rfl,(aB n0).seq hS,fc,fun t1 n1=>⟨fc,fun L nL=>⟨_,rfl,fc,fun U nU=>Vl (Q:=fun x H'=>∀U,H' U=none->Q (.ref U) (upd H' U (.tup [x,.int (gB 8 [v,v1] kp)]))) rfl rfl rfl rfl fin n0 n1 nL U nU⟩⟩⟩⟩
theorem Al (T:Txt w K mg t):FO P w K mg base 1 t.oR ["self", "values", "kept"] (fH K t 9):=by
 have sc:=T.jX.sc ["self", "values", "kept"]
 refine T.jX.F.ok sc ln (fun _ _ _ _ H vs Q E hr h=>?_)
 obtain⟨p,a,nm,ns,is,os,ws,kp,rfl,hP,ln,hS,lw,hB,k⟩:=h
 refine⟨_,(aA (aN (cB (aa (bM (aa (cB (aa au (aa (bf bw (pv 1) au (fun _ _=>rfl)) ak aF) aq)) ak cQ)) (aa (pv 2) ak aj) bj)))),?_⟩
 obtain⟨dx,tn,ti,to,hp,h2,h3,h4⟩:=id hP.ex
 match ws,lw with
 | [v,v1],_=>
  have fin:∀H' L rs,aJ H H'->H L=none->H' L=some (.lst (rs.map V.ref))->jP H' rs (JS (cU 9 ns [v,v1] kp))->∀U,H' U=none->Q (.ref U) (upd H' U (.tup [.ref L,.int (gB 9 [v,v1] kp)])):=Dv k
  exact⟨_,rfl,a,_,1,_,rfl,rfl,hS,rfl,fc,fun t0 n0=>⟨one_le,fun L nL=>⟨_,rfl,fc,fun U nU=>yw (Q:=fun x H'=>∀U,H' U=none->Q (.ref U) (upd H' U (.tup [x,.int (gB 9 [v,v1] kp)]))) rfl rfl fin n0 nL U nU⟩⟩⟩
theorem Cp (T:Txt w K mg t):FO P w K mg base 1 t.ql ["self", "values", "kept"] (fH K t 10):=by
 have sc:=T.lD.sc ["self", "values", "kept"]
 refine T.lD.F.ok sc ln (fun _ _ _ _ H vs Q E hr h=>?_)
 obtain⟨p,a,nm,ns,is,os,ws,kp,rfl,hP,ln,hS,lw,hB,k⟩:=h
 refine⟨_,(aA (aN (cB (aa (bM (aa (cB (aa (bA cH (bf bw (pv 1) au (fun _ _=>rfl)) au) (aa (bf bw (pv 1) au (fun _ _=>rfl)) ak aF) cg)) ak cQ)) (aa (pv 2) ak aj) bj)))),?_⟩
 obtain⟨dx,tn,ti,to,hp,h2,h3,h4⟩:=id hP.ex
 match ws,lw with
 | [v,v1],_=>
  have fin:∀H' L rs,aJ H H'->H L=none->H' L=some (.lst (rs.map V.ref))->jP H' rs (JS (cU 10 ns [v,v1] kp))->∀U,H' U=none->Q (.ref U) (upd H' U (.tup [.ref L,.int (gB 10 [v,v1] kp)])):=Dv k
  exact⟨_,rfl,a,_,0,_,rfl,rfl,hS,rfl,_,_,rfl,rfl,by show(0:Int) <2;decide,_,rfl,a,_,1,_,rfl,rfl,hS,rfl,fc,fun t0 n0=>⟨one_le,fun L nL=>⟨_,rfl,fc,fun U nU=>yw (Q:=fun x H'=>∀U,H' U=none->Q (.ref U) (upd H' U (.tup [x,.int (gB 10 [v,v1] kp)]))) rfl rfl fin n0 nL U nU⟩⟩⟩
theorem Dh (T:Txt w K mg t):FO P w K mg base 1 t.rD ["self", "values", "kept"] (fH K t 0):=by
 have sc:=T.mJ.sc ["self", "values", "kept"]
 refine T.mJ.F.ok sc ln (fun _ _ _ _ H vs Q E hr h=>?_)
 obtain⟨p,a,nm,ns,is,os,ws,kp,rfl,hP,ln,hS,lw,hB,k⟩:=h
 refine⟨_,(aA (aN (cB (aa (bM (aa (cB (aa au (aa (bf bw (pv 1) au (fun _ _=>rfl)) ak aF) aq)) ak cQ)) (aa (pv 2) ak aj) bj)))),?_⟩
 obtain⟨dx,tn,ti,to,hp,h2,h3,h4⟩:=id hP.ex
 match ws,lw with
 | [v],_=>
  have fin:∀H' L rs,aJ H H'->H L=none->H' L=some (.lst (rs.map V.ref))->jP H' rs (JS (cU 0 ns [v] kp))->∀U,H' U=none->Q (.ref U) (upd H' U (.tup [.ref L,.int (gB 0 [v] kp)])):=Dv k
  exact⟨_,rfl,a,_,0,_,rfl,rfl,hS,rfl,fc,fun t0 n0=>⟨one_le,fun L nL=>⟨_,rfl,fc,fun U nU=>yw (Q:=fun x H'=>∀U,H' U=none->Q (.ref U) (upd H' U (.tup [x,.int (gB 0 [v] kp)]))) rfl rfl fin n0 nL U nU⟩⟩⟩
theorem Eo (T:Txt w K mg t):FO P w K mg base 1 t.rZ ["self", "values", "kept"] (fH K t 1):=by
 have sc:=T.mL.sc ["self", "values", "kept"]
 refine T.mL.F.ok sc ln (fun _ _ _ _ H vs Q E hr h=>?_)
 obtain⟨p,a,nm,ns,is,os,ws,kp,rfl,hP,ln,hS,lw,hB,k⟩:=h
 refine⟨_,(aA (aN (cB (aa (bM ak) (aa (pv 2) ak aj) bj)))),?_⟩
 obtain⟨dx,tn,ti,to,hp,h2,h3,h4⟩:=id hP.ex
 match ws,lw with
 | [v],_=>
  have fin:∀H' L rs,aJ H H'->H L=none->H' L=some (.lst (rs.map V.ref))->jP H' rs (JS (cU 1 ns [v] kp))->∀U,H' U=none->Q (.ref U) (upd H' U (.tup [.ref L,.int (gB 1 [v] kp)])):=Dv k
  exact⟨by show 0<=sizeLine;decide,fun L nL=>⟨_,rfl,fc,fun U nU=>fin _ L [] (aB nL) nL ao .nil U nU⟩⟩
inductive BR (vs:List V) (H:Hp) (Q:VK) (E:XK):Prop where
 | mk:∀a b:Int,vs=[.int a,.int b]->Q (.int (cJ a b)) H->BR vs H Q E
theorem bz (T:Txt w K mg t):FO P w K mg base 1 t.DY ["_law_cell_here", "_law_k"] (BR):=by
 have sc:=T.bC.sc ["_law_cell_here", "_law_k", "_law_number"]
 refine T.bC.F.ok sc ln (fun _ _ _ _ H vs Q E hr h=>?_)
 obtain⟨a,b,rfl,k⟩:=h
 refine⟨_,(az (sN sc 2 (bA cH (bA eQ (bA eQ (bA mV (bA cH (pv 0) au) au) (bA mV au (pv 1))) au) au))
  (az (sN sc 2 (bA cH (bA mV (pv 2) (pv 2)) au))
  (aA (aN (bA cH (bA mV (bA eQ (pv 2) (bA mV au (pv 1))) (pv 2)) au))))),?_⟩
 refine⟨_,rfl,_,_,rfl,rfl,by show(0:Int) <2147483647;decide,_,_,rfl,rfl,HN,_,rfl,_,_,rfl,rfl,j8,_,_,rfl,rfl,_,_,rfl,rfl,_,_,rfl,rfl,by show(0:Int) <2147483647;decide,?_⟩
 unfold cJ at k
 have y0:0<=(a % 2147483647 * 48271+7919 * b+11) % 2147483647:=Int.emod_nonneg _ (by decide)
 have y1:(a % 2147483647 * 48271+7919 * b+11) % 2147483647 <2147483647:=Int.emod_lt_of_pos _ (by decide)
 refine⟨_,rfl,_,rfl,_,_,rfl,rfl,.of_right (intBits_le_64 (Int.lt_of_lt_of_le (show -(2 ^ 64) <(0:Int) by decide) y0) (Int.lt_trans y1 (by decide))),_,_,rfl,rfl,by show(0:Int) <2147483629;decide,?_⟩
 have z0:0<=((a % 2147483647 * 48271+7919 * b+11) % 2147483647) * ((a % 2147483647 * 48271+7919 * b+11) % 2147483647) % 2147483629:=Int.emod_nonneg _ (by decide)
 have z1:((a % 2147483647 * 48271+7919 * b+11) % 2147483647) * ((a % 2147483647 * 48271+7919 * b+11) % 2147483647) % 2147483629 <2147483629:=Int.emod_lt_of_pos _ (by decide)
 exact⟨_,rfl,_,rfl,_,_,rfl,rfl,j8,_,_,rfl,rfl,_,rfl,_,_,rfl,rfl,.of_right (intBits_le_64 (Int.lt_of_lt_of_le (show -(2 ^ 64) <(0:Int) by decide) z0) (Int.lt_trans z1 (by decide))),_,_,rfl,rfl,by show(0:Int) <2147483587;decide,k⟩
inductive zK (K:PySem.W.Frag) (vs:List V) (H:Hp) (Q:VK) (E:XK):Prop where
 | mk:∀(a:Addr) (ns:List Int) (j:Nat),vs=[.ref a,.int (j:Nat)]->bK K H a (ns.map V.int)->Q (.int (jU ns j)) H->zK K vs H Q E
theorem iU (T:Txt w K mg t):FO P w K mg base 1 t.Bm ["_law_script", "_law_k"] (zK K):=by
 have sc:=T.gA.sc ["_law_script", "_law_k"]
 refine T.gA.F.ok sc ln (fun _ _ _ _ H vs Q E hr h=>?_)
 obtain⟨a,ns,j,rfl,hS,k⟩:=h
 refine⟨_,(az (cC (bF yG (pv 1) (bG cz (by rfl) T.gh dY (aa (pv 0) ak aj)) (bR _))
   (aA (aN (bf bw (pv 0) (pv 1) (fun _ _=>rfl))))
   bL)
  (aA (aN (bA eQ (bA mV au (pv 1)) au)))),?_⟩
 unfold jU at k
 refine⟨_,rfl,_,rfl,.ref a,ns.length,rfl,.inl ⟨_,hS,by simp⟩,_,_,rfl,rfl,_,rfl,kO (fun h=>?_) (fun h=>?_)⟩
 ·have h':j <ns.length:=by have:=of_decide_eq_true h;omega
  rw [List.getElem?_eq_getElem h'] at k
  exact⟨_,rfl,_,rfl,a,_,j,_,rfl,rfl,hS,aM (by rw [List.getElem?_map,List.getElem?_eq_getElem h'];rfl),k⟩
 ·have h':¬j <ns.length:=fun z=>h (decide_eq_true (by omega))
  rw [List.getElem?_eq_none (by omega)] at k
  exact⟨_,rfl,_,_,rfl,rfl,j8,_,_,rfl,rfl,k⟩
inductive xH (vs:List V) (H:Hp) (Q:VK) (E:XK):Prop where
 | mk:∀a b:Int,vs=[.int a,.int b]->Q (.int (rP a b)) H->xH vs H Q E
theorem jT (T:Txt w K mg t):FO P w K mg base 2 t.zV ["_law_cell_here", "_law_k"] (xH):=by
 have sc:=T.iI.sc ["_law_cell_here", "_law_k", "_law_number", "_law_way"]
 refine T.iI.F.ok sc ln (fun _ _ _ _ H vs Q E hr h=>?_)
 obtain⟨a,b,rfl,k⟩:=h
 refine⟨_,(az (sN sc 2 (fj (bz T) T.bC hr (aa (pv 0) (aa (pv 1) ak aj) aj)))
  (az (sN sc 3 (bA cH (bA K9 (pv 2) au) au))
  (az (cC (bF iw (pv 3) au (bR _))
   (aA (aN (bA cH (pv 2) au)))
   bL)
  (az (cC (bF iw (pv 3) au (bR _))
   (aA (aN (bA cH (pv 2) (bA Jf au au))))
   bL)
  (aA (aN (bA Es (bA Es (bA Jf au au) au) (bA cH (pv 2) au)))))))),?_⟩
 refine⟨_,rfl,_,rfl,a,b,rfl,?_⟩
 unfold rP at k
 have n0:=BW a b
 generalize cJ a b=n at n0 k ⊢
 refine⟨_,rfl,_,_,rfl,rfl,Vq (by decide) (by decide),_,_,rfl,rfl,by show(0:Int) <3;decide,?_⟩
 refine⟨_,rfl,rfl,_,rfl,kO (fun h=>?_) (fun h=>?_)⟩
 ·have h':n / 7 % 3=0:=by simpa using of_decide_eq_true h
  rw [if_pos h'] at k
  exact⟨_,rfl,_,_,rfl,rfl,by show(0:Int) <5;decide,k⟩
 have h':¬n / 7 % 3=0:=fun z=>h (decide_eq_true (by show V.int (n / 7 % 3)=V.int 0;rw [z]))
 rw [if_neg h'] at k
 refine⟨_,rfl,rfl,_,rfl,kO (fun h2=>?_) (fun h2=>?_)⟩
 ·have h2':n / 7 % 3=1:=by simpa using of_decide_eq_true h2
  rw [if_pos h2'] at k
  exact⟨_,rfl,_,_,rfl,rfl,⟨by decide,by decide,by decide⟩,_,_,rfl,rfl,by show(0:Int) <10 ^ 9;decide,k⟩
 have h2':¬n / 7 % 3=1:=fun z=>h2 (decide_eq_true (by show V.int (n / 7 % 3)=V.int 1;rw [z]))
 rw [if_neg h2'] at k
 exact⟨_,_,rfl,rfl,⟨by decide,by decide,by decide⟩,_,_,rfl,rfl,_,rfl,_,_,rfl,rfl,by show(0:Int) <3;decide,_,_,rfl,rfl,k⟩
theorem Ot {x y:Str} (h:x.cps.toList=y.cps.toList):x=y:=PyProof.Rows.ext_toList h
theorem O5 {n:Int} (h0:0<=n) (h1:n <2000):n.natAbs.log2 <1920:=by
 by_cases z:n.natAbs=0
 ·rw [z]
  decide
 ·have:n.natAbs.log2 <11:=(Nat.log2_lt z).mpr (by omega)
  omega
theorem join_ones (cs:List Nat):(Txt.join Str.empty (cs.map fun c=>(⟨#[c]⟩:Str))).cps.toList=cs:=by
 unfold Txt.join
 rw [StrLaws.glued_eq_join,Ez]
 induction cs with
 | nil=>rfl
 | cons c r ih=>simpa using ih
theorem Wt {x:Str} {n:Nat} (h:n<=x.length):(Txt.slice x none (some (n:Int))).cps.toList=x.cps.toList.take n:=by
 have e:=beq_iff_eq.mp (PyProof.Rows.slice_closes_toL (x:=x) (j:=(n:Int)) (by omega) (by omega))
 rw [e]
 simp
theorem QV {x:Str} {n:Nat} (h:n<=x.length):(Txt.slice x (some (n:Int)) none).cps.toList=x.cps.toList.drop n:=by
 have e:=PyProof.Rows.slice_from_eq (x:=x) (i:=(n:Int)) (b:=(x.length:Int)) (by omega) (by omega) rfl
 rw [e]
 show List.take ((x.length:Int) - n).toNat (List.drop ((n:Int)).toNat x.cps.toList)=_
 rw [Int.toNat_natCast,List.take_of_length_le (by rw [List.length_drop,pO];omega)]
inductive yF (vs:List V) (H:Hp) (Q:VK) (E:XK):Prop where
 | mk:∀(a:Int) (b:Nat),vs=[.int a,.int (b:Nat)]->b<=25->(∀H':Hp,aJ H H'->Q (.str (dw a b)) H')->yF vs H Q E
noncomputable abbrev By:List Str:=["_law_cell_here", "_law_k", "_law_letters", "_law_many", "_law_base", "_law_at"]
theorem pI (T:Txt w K mg t):FO P w K mg base 2 t.BJ ["_law_cell_here", "_law_k"] (yF):=by
 have sc:=T.km.sc By
 refine T.km.F.ok sc ln (fun _ _ _ _ H vs Q E hr h=>?_)
 obtain⟨a,b,rfl,b1,k⟩:=h
 refine⟨_,(az (sN sc 2 bW)
  (az (cC (bF iw (bA cH (fj (bz T) T.bC hr (aa (pv 0) (aa au ak aq) aj)) au) au (bR _))
   (aA (aN (bA yr (bf Dp (pv 2) (bA cH (fj (bz T) T.bC hr (aa (pv 0) (aa au ak aq) aj)) au) (fun _ _=>rfl)) (cW Ia (by rfl) T.Vm QT (aa (bA eQ (bA cH (fj (bz T) T.bC hr (aa (pv 0) (aa au ak aq) aj)) au) (bA mV au (pv 1))) ak cg)))))
   bL)
  (az (sN sc 3 (bA cH (fj (bz T) T.bC hr (aa (pv 0) (aa au ak aq) aj)) au))
  (az (sN sc 4 (Er PySem.F.plainAttrs_str PySem.F.slot_str_join PySem.F.type_str_join TY bW (aa (gZ [0,2] By (bc (top 67)) rfl (j9 rfl T.pG (aa (pv 3) ak aj)) (fun _ _ _ _ _=>f9) (fun _ _ _ _ _=>(bf Dp (pv 2) (bA cH (fj (bz T) T.bC hr (aa (pv 1) (aa (bA eQ au (pv 0)) ak cg) aj)) au) (fun _ _=>rfl)))) ak dX)))
  (az (sN sc 5 (bA cH (fj (bz T) T.bC hr (aa (pv 0) (aa au ak aq) aj)) (bA eQ (pv 3) au)))
  (aA (aN (bA yr (bA yr (ji Sh (pv 4) kZ (jK (pv 5))) (bf Dp (pv 2) (bA cH (bA eQ (fj (bz T) T.bC hr (aa (pv 0) (aa au ak aq) aj)) (pv 1)) au) (fun _ _=>rfl))) (ji Sh (pv 4) (jK (pv 5)) kZ))))))))),?_⟩
 have hl:sizeLine=16777216:=sizeLine_eq
 have hF:(dw a b).cps.toList=Bh a b:=Fb a b
 unfold Bh at hF
 refine⟨_,rfl,_,_,rfl,⟨_,_,rfl,rfl,by show(0:Int) <3;decide,rfl,_,rfl,kO (fun hw=>?_) (fun hw=>?_)⟩⟩
 ·have hw':cJ a 52 % 3=0:=by simpa using of_decide_eq_true hw
  rw [if_pos hw'] at hF
  refine⟨_,rfl,_,rfl,_,_,rfl,?_⟩
  refine⟨_,_,rfl,rfl,by show(0:Int) <26;decide,LT,_,_,rfl,rfl,by rw [Mv];omega,RT _,?_⟩
  refine⟨_,rfl,_,_,rfl,⟨_,_,rfl,rfl,by show(0:Int) <1000;decide,_,rfl,_,_,rfl,rfl,j8,_,_,rfl,rfl,?_⟩⟩
  have q0:=Int.emod_nonneg (cJ a 54) (show(1000:Int)≠0 by decide)
  have q1:=Int.emod_lt_of_pos (cJ a 54) (show(0:Int) <1000 by decide)
  obtain⟨m,hm⟩:∃m:Nat,cJ a 54 % 1000+37 * (b:Int)=(m:Int):=⟨(cJ a 54 % 1000+37 * (b:Int)).toNat,by omega⟩
  obtain⟨_,g2,_⟩:=wC (n:=m) (by omega)
  have g3:(toString (m:Int):Str).length<=4:=by rw [<-pO];exact g2
  have e:(⟨#[KH (cJ a 53)]⟩:Str) ++ (toString (m:Int):Str)=dw a b:=Ot (by
   rw [hF,Str.cps_append,hm,Int.toNat_natCast]
   simp only [Array.toList_append]
   rfl)
  have k':=k H (aJ.refl _)
  rw [<-e] at k'
  dsimp only
  rw [hm]
  exact⟨_,rfl,O5 (by omega) (by omega),_,_,rfl,rfl,by show 1+_<=sizeLine;omega,k'⟩
 have hw':¬cJ a 52 % 3=0:=fun z=>hw (decide_eq_true (by show V.int (cJ a 52 % 3)=V.int 0;rw [z]))
 rw [if_neg hw'] at hF
 refine⟨_,rfl,_,_,rfl,⟨_,_,rfl,rfl,by show(0:Int) <7;decide,?_⟩⟩
 have z0:=Int.emod_nonneg (cJ a 50) (show(7:Int)≠0 by decide)
 have z1:=Int.emod_lt_of_pos (cJ a 50) (show(0:Int) <7 by decide)
 refine⟨rfl,_,rfl,cJ a 50 % 7,rfl,by omega,by omega,?_⟩
 refine lN (fun i ys H'=>H'=H/\ys=((List.range i).map fun j=>KH (cJ a (60+(j:Nat)))).map fun c=>V.str ⟨#[c]⟩) (by omega) ⟨rfl,rfl⟩ (fun i ys H' ⟨_,e⟩=>by rw [e,lM,lM,List.length_range];omega) ?_ ?_
 ·rintro i ys H' hi ⟨rfl,rfl⟩
  refine yes ?_
  refine⟨_,rfl,_,rfl,_,rfl,_,_,rfl,rfl,_,_,rfl,?_⟩
  refine⟨_,_,rfl,rfl,by show(0:Int) <26;decide,LT,_,_,rfl,rfl,by rw [Mv];omega,RT _,rfl,?_⟩
  rw [List.range_succ,List.map_append,List.map_append]
  simp
 rintro ys H' ⟨rfl,rfl⟩ D hD
 have eb:((List.range (cJ a 50 % 7).toNat).map fun j=>KH (cJ a (60+(j:Nat))))=iG a:=rfl
 rw [eb]
 have s1:aJ H' (upd H' D (.lst ((iG a).map fun c=>V.str ⟨#[c]⟩))):=aB hD
 have bl:=(DP a).1
 have es:((iG a).map fun c=>V.str ⟨#[c]⟩)=((iG a).map fun c=>(⟨#[c]⟩:Str)).map V.str:=by rw [List.map_map];rfl
 refine⟨Str.empty,D,(iG a).map fun c=>(⟨#[c]⟩:Str),rfl,rfl,bK.of (by rw [<-es];exact ao),?_,?_⟩
 ·have:=RV (n:=1) ((iG a).map fun c=>(⟨#[c]⟩:Str)) fun w h=>by
   obtain⟨c,_,rfl⟩:=List.mem_map.mp h
   exact Nat.le_refl 1
  have he:Str.empty.length=0:=rfl
  rw [he]
  rw [lM] at this
  omega
 have ej:=join_ones (iG a)
 generalize upd H' D (.lst ((iG a).map fun c=>V.str ⟨#[c]⟩))=H1 at s1 ⊢
 generalize Txt.join Str.empty ((iG a).map fun c=>(⟨#[c]⟩:Str))=x0 at ej ⊢
 have hx0:x0.length=(iG a).length:=by rw [<-pO,ej]
 refine⟨_,rfl,_,_,rfl,⟨_,rfl,_,_,rfl,rfl,_,_,rfl,rfl,by show(0:Int) <cJ a 50 % 7+1;omega,?_⟩⟩
 have hsp:=Og a
 obtain⟨n,hn,hn2⟩:∃n:Nat,cJ a 51 % (cJ a 50 % 7+1)=(n:Int)/\n=qL a:=⟨qL a,(Int.toNat_of_nonneg (Int.emod_nonneg _ (by omega))).symm,rfl⟩
 rw [<-hn2] at hsp hF
 dsimp only
 rw [hn]
 have s0:=Txt.slice_le x0 none (some (n:Int))
 have s2:=Txt.slice_le x0 (some (n:Int)) none
 refine⟨_,rfl,_,rfl,_,rfl,x0,rfl,by omega,_,rfl,_,rfl,_,_,rfl,⟨_,rfl,_,_,rfl,rfl,?_⟩⟩
 have h1:(⟨#[KH (cJ a 55+(b:Int))]⟩:Str).length=1:=rfl
 refine⟨_,_,rfl,rfl,by show(0:Int) <26;decide,LT,_,_,rfl,rfl,by rw [Mv];omega,RT _,_,_,rfl,rfl,by rw [h1];omega,?_⟩
 refine⟨_,rfl,_,rfl,_,rfl,x0,rfl,by omega,_,_,rfl,rfl,by rw [Str.length_append,h1];omega,?_⟩
 have e:Txt.slice x0 none (some (n:Int)) ++ (⟨#[KH (cJ a 55+(b:Int))]⟩:Str) ++ Txt.slice x0 (some (n:Int)) none=dw a b:=Ot (by
  rw [hF,Str.cps_append,Str.cps_append]
  simp only [Array.toList_append]
  rw [Wt (by omega),QV (by omega),ej]
  simp)
 rw [e]
 exact k H1 s1
theorem Yo (m:Int):∃c:Nat,J0 [V.int 0,.int 0,.int 0,.int 1,.int 2] (m % 5)=some (.int (c:Nat))/\c<=2:=by
 have key:∀j,j <5->J0 [V.int 0,.int 0,.int 0,.int 1,.int 2] ((j:Nat):Int)=some (.int (([0,0,0,1,2]:List Nat).getD j 0:Nat))/\([0,0,0,1,2]:List Nat).getD j 0<=2:=by decide +kernel
 obtain⟨j,e,hj⟩:=MK m (n:=5) (k:=5) (by decide) rfl
 rw [e]
 exact⟨_,key j hj⟩
theorem Xq (m:Int):∃c:Nat,J0 [V.int 0,.int 0,.int 1,.int 1,.int 2,.int 7] (m % 6)=some (.int (c:Nat))/\c<=7:=by
 have key:∀j,j <6->J0 [V.int 0,.int 0,.int 1,.int 1,.int 2,.int 7] ((j:Nat):Int)=some (.int (([0,0,1,1,2,7]:List Nat).getD j 0:Nat))/\([0,0,1,1,2,7]:List Nat).getD j 0<=7:=by decide +kernel
 obtain⟨j,e,hj⟩:=MK m (n:=6) (k:=6) (by decide) rfl
 rw [e]
 exact⟨_,key j hj⟩
inductive yN (vs:List V) (H:Hp) (Q:VK) (E:XK):Prop where
 | mk:∀(d:Dw) (ls:List aG) (ps:List PD) (os:List Str) (c:Int) (b:Bool),vs=[.ref d.S,.int c,.bl b]->pF d H ls ps os->ls.length<=24->(∀(l:aG) (H':Hp),l.name=dw d.c3 ls.length->aJ (aX d.E H) (aX d.E H')->pF d H' (ls ++ [l]) ps os->Q (.str l.name) H')->yN vs H Q E
noncomputable abbrev Cj:List Str:=["_law_state", "_law_cell_here", "_law_back", "_law_many", "_law_first", "_law_room", "_law_name"]
theorem lG (T:Txt w K mg t):FO P w K mg base 3 t.Bd ["_law_state", "_law_cell_here", "_law_back"] (yN):=by
 have sc:=T.jy.sc Cj
 refine T.jy.F.ok sc ln (fun _ _ _ _ H vs Q E hr h=>?_)
 obtain⟨d,ls,ps,os,c,b,rfl,D,hn,k⟩:=h
 refine⟨_,(az (sN sc 3 (bf bw (bM (aa au (aa au (aa au (aa au (aa au ak aq) aq) aq) aq) aq)) (bA cH (fj (bz T) T.bC hr (aa (pv 1) (aa au ak aq) aj)) au) (fun _ _=>rfl)))
  (az (iY (cC (lg (pv 2))
   (aA (sN sc 3 (bA cH (fj (bz T) T.bC hr (aa (pv 1) (aa au ak aq) aj)) au)))
   bL))
  (az (jg (i:=4) [1] Cj (bc (top 68)) rfl sc.nd rfl (j9 rfl T.pG (aa (pv 3) ak aj)) (fun _ _ _ _ _=>f9) (fun _ _ _ _ _=>(fj (jT T) T.iI hr (aa (pv 1) (aa (bA eQ au (pv 0)) ak cg) aj))))
  (az (sN sc 5 (bA eQ (bG (Hs rfl) (by rfl) T.Qy Ms (aa au (aa (pv 3) ak aj) aq)) (bf bw (bM (aa au (aa au (aa au (aa au (aa au (aa au ak aq) aq) aq) aq) aq) aq)) (bA cH (fj (bz T) T.bC hr (aa (pv 1) (aa au ak aq) aj)) au) (fun _ _=>rfl))))
  (az (sN sc 6 (fj (pI T) T.km hr (aa (bf bw (pv 0) au (fun _ _=>rfl)) (aa (bG cz (by rfl) T.gh dY (aa (bf bw (pv 0) au (fun _ _=>rfl)) ak aF)) ak aO) aF)))
  (az (bN (IK (bf bw (pv 0) au (fun _ _=>rfl)) (aa (cB (aa (pv 6) (aa (pv 5) (aa (pv 4) ak aj) aj) aj)) ak cQ)))
  (aA (aN (pv 6))))))))),?_⟩
 have hl:sizeLine=16777216:=sizeLine_eq
 refine⟨jt,fun l0 n0=>?_⟩
 have s0:=aB (o:=.lst [.int 0,.int 0,.int 0,.int 1,.int 2]) n0
 obtain⟨c0,e0,h0⟩:=Yo (cJ c 1)
 refine⟨_,rfl,_,_,rfl,_,_,rfl,rfl,by show(0:Int) <5;decide,l0,_,_,_,rfl,rfl,bK.of ao,e0,?_⟩
 generalize upd H l0 (.lst [.int 0,.int 0,.int 0,.int 1,.int 2])=H0 at s0 ⊢
 refine⟨fun σ H1=>∃m:Nat,m<=3/\H1=H0/\σ=[some (.ref d.S),some (.int c),some (.bl b),some (.int (m:Nat)),none,none,none],?_,?_⟩
 ·cases b
  ·exact⟨_,rfl,false,rfl,fu ⟨c0,by omega,rfl,rfl⟩⟩
  ·refine⟨_,rfl,true,rfl,kJ ⟨_,rfl,_,_,rfl,_,_,rfl,rfl,by show(0:Int) <4;decide,?_⟩⟩
   have h1:=Int.emod_nonneg (cJ c 1) (show(4:Int)≠0 by decide)
   have h2:=Int.emod_lt_of_pos (cJ c 1) (show(0:Int) <4 by decide)
   refine⟨(cJ c 1 % 4).toNat,by omega,rfl,?_⟩
   rw [Int.toNat_of_nonneg h1]
   rfl
 rintro σ H1 ⟨m,hm,rfl,rfl⟩
 refine⟨_,rfl,(m:Int),rfl,by omega,by omega,?_⟩
 rw [Int.toNat_natCast]
 refine lN (fun i ys H'=>H'=H1/\∃ws:List Int,ys=ws.map V.int/\ws.length=i/\∀v∈ws,0<=v/\v <1000000000) (by omega) ⟨rfl,[],rfl,rfl,by simp⟩ (fun i ys H' ⟨_,ws,e,e2,_⟩=>by rw [e,lM];omega) ?_ ?_
 ·rintro i ys H' hi ⟨rfl,ws,rfl,hw,hB⟩
  refine yes ⟨_,rfl,_,rfl,_,_,rfl,rfl,c,10+(0+(i:Int)),rfl,rfl,ws ++ [rP c (10+(0+(i:Int)))],by simp,by simp [hw],fun v hv=>?_⟩
  rcases List.mem_append.mp hv with hv | hv
  ·exact hB v hv
  ·rw [List.mem_singleton] at hv
   subst hv
   exact sX _ _
 rintro ys H' ⟨rfl,ws,rfl,hw,hB⟩ F nF
 have t1:=aB (o:=.lst (ws.map V.int)) nF
 have sF:=s0.trans t1
 have eF:upd H' F (.lst (ws.map V.int)) F=some (.lst (ws.map V.int)):=ao
 have oF:F∉d.E:=D.out (s0.free nF)
 generalize upd H' F (.lst (ws.map V.int))=H2 at t1 sF eF ⊢
 refine⟨_,rfl,_,_,rfl,jt,fun l1 n1=>?_⟩
 have t2:=aB (o:=.lst [.int 0,.int 0,.int 1,.int 1,.int 2,.int 7]) n1
 obtain⟨c1,e1,h1⟩:=Xq (cJ c 2)
 refine⟨_,rfl,_,_,rfl,_,_,rfl,rfl,by show(0:Int) <6;decide,l1,_,_,_,rfl,rfl,bK.of ao,e1,_,_,rfl,rfl,?_⟩
 have s2:=sF.trans t2
 have eF2:=t2 _ _ eF
 generalize upd H2 l1 (.lst [.int 0,.int 0,.int 1,.int 1,.int 2,.int 7])=H3 at t2 s2 eF2 ⊢
 have D3:=D.keep s2
 obtain⟨xs,eL,aL⟩:=D3.lanes
 have xl:=aL.length
 refine⟨_,rfl,d.S,_,3,_,rfl,rfl,D3.seqS,aM (j:=3) rfl,?_⟩
 refine⟨_,rfl,d.S,_,0,_,rfl,rfl,D3.seqS,aM (j:=0) rfl,.ref d.L,ls.length,rfl,.inl ⟨_,bK.of eL,xl.symm⟩,?_⟩
 refine⟨d.c3,ls.length,rfl,by omega,fun H4 s4=>?_⟩
 have D4:=D3.keep s4
 have eL4:=s4 _ _ eL
 have eF4:=s4 _ _ eF2
 have s04:=s2.trans s4
 refine⟨_,rfl,d.S,_,0,_,rfl,rfl,D4.seqS,aM (j:=0) rfl,?_⟩
 refine⟨.inl ⟨rfl,_,bK.of eL4⟩,_,rfl,_,rfl,_,rfl,jt,fun q nq=>?_⟩
 have t5:=aB (o:=.tup [.str (dw d.c3 ls.length),.int ((if (m:Int) >1 then(m:Int) else 1)+(c1:Int)),.ref F]) nq
 have s5:=s04.trans t5
 have D5:=D4.keep t5
 have oq:q∉d.E:=D4.out nq
 have eq:upd H4 q (.tup [.str (dw d.c3 ls.length),.int ((if (m:Int) >1 then(m:Int) else 1)+(c1:Int)),.ref F]) q=some (.tup [.str (dw d.c3 ls.length),.int ((if (m:Int) >1 then(m:Int) else 1)+(c1:Int)),.ref F]):=ao
 have eL5:=t5 _ _ eL4
 have eF5:=t5 _ _ eF4
 refine⟨d.L,xs,_,rfl,rfl,eL5,by omega,_,rfl,?_⟩
 refine k ⟨dw d.c3 ls.length,(if (m:Int) >1 then(m:Int) else 1)+(c1:Int),ws⟩ _ rfl ?_ (D5.lane ⟨q,F,rfl,bH eq oq,bH eF5 oF⟩ ⟨by dsimp only;split <;> omega,by dsimp only;split <;> omega,by dsimp only;split <;> omega,hB⟩ rfl eL5)
 rw [eU (by simp)]
 exact D.cut s5
theorem pop_at:∀{os:List Str} {j:Nat} (h:j <os.length),os.Perm (os[j]:: os.eraseIdx j)
 | [],_,h=>absurd h (by simp)
 | a:: l,0,_=>.refl _
 | a:: l,j+1,h=>by
  have h':j <l.length:=by simpa using h
  show(a:: l).Perm (l[j]:: a:: l.eraseIdx j)
  exact((pop_at (os:=l) (j:=j) (by simpa using h)).cons a).trans (.swap _ _ _)
theorem G7 {α β:Type} {f:α->β}:∀(l:List α) (j:Nat),(l.map f).eraseIdx j=(l.eraseIdx j).map f
 | [],_=>rfl
 | a:: l,0=>rfl
 | a:: l,j+1=>by
  show f a:: (l.map f).eraseIdx j=f a:: (l.eraseIdx j).map f
  rw [G7 l j]
theorem Mg {j n:Nat} (h:j <n):seqIndex? (j:Int) n=some j:=by
 unfold seqIndex?
 have z:¬(j:Int) <0:=by omega
 simp [h,z]
inductive zA (vs:List V) (H:Hp) (Q:VK) (E:XK):Prop where
 | mk:∀(d:Dw) (ls:List aG) (ps:List PD) (os:List Str) (n:Int),vs=[.ref d.S,.int n]->pF d H ls ps os->os≠[]->os.length<=100->(∀(x:Str) (os':List Str) (H':Hp),os.Perm (x:: os')->aJ (aX d.E H) (aX d.E H')->pF d H' ls ps os'->Q (.str x) H')->zA vs H Q E
theorem tV (T:Txt w K mg t):FO P w K mg base 1 t.Bp ["_law_state", "_law_number"] (zA):=by
 have sc:=T.nY.sc ["_law_state", "_law_number"]
 refine T.nY.F.ok sc ln (fun _ _ _ _ H vs Q E hr h=>?_)
 obtain⟨d,ls,ps,os,n,rfl,D,hne,hs,k⟩:=h
 refine⟨_,(aA (aN (Er PySem.F.plainAttrs_list PySem.F.slot_list_pop PySem.F.type_list_pop Di (bf bw (pv 0) au (fun _ _=>rfl)) (aa (bA cH (pv 1) (bG cz (by rfl) T.gh dY (aa (bf bw (pv 0) au (fun _ _=>rfl)) ak aF))) ak cg)))),?_⟩
 have hpos:0 <os.length:=List.length_pos_iff.mpr hne
 refine⟨_,rfl,d.S,_,2,_,rfl,rfl,D.seqS,aM (j:=2) rfl,.inl ⟨rfl,_,bK.of D.opens⟩,?_⟩
 refine⟨_,rfl,_,rfl,d.S,_,2,_,rfl,rfl,D.seqS,aM (j:=2) rfl,.ref d.O,os.length,rfl,.inl ⟨_,bK.of D.opens,by simp⟩,n,(os.length:Int),rfl,rfl,by omega,?_⟩
 have h0:=Int.emod_nonneg n (show(os.length:Int)≠0 by omega)
 have h1:=Int.emod_lt_of_pos n (show(0:Int) <(os.length:Int) by omega)
 obtain⟨j,hj⟩:∃j:Nat,n % (os.length:Int)=(j:Int):=⟨(n % (os.length:Int)).toNat,by omega⟩
 have hj':j <os.length:=by omega
 refine⟨d.O,_,(j:Int),j,.str os[j],rfl,by show [V.int (n % (os.length:Int))]=_;rw [hj],D.opens,by omega,by omega,by rw [lM];exact Mg hj',by rw [List.getElem?_map,List.getElem?_eq_getElem hj'];rfl,?_⟩
 rw [G7]
 exact k os[j] (os.eraseIdx j) _ (pop_at hj') (by rw [eU (by simp)];exact aJ.refl _) D.open
inductive zR (vs:List V) (H:Hp) (Q:VK) (E:XK):Prop where
 | mk:∀(d:Dw) (ls:List aG) (ps:List PD) (os:List Str) (c:Int) (i:Nat) (a1 a2:Addr) (nums:List Int) (ins:List Str) (many:Nat),vs=[.ref d.S,.int c,.str (cT i),.ref a1,.ref a2,.int (many:Nat)]->pF d H ls ps os->aX d.E H a1=some (.lst (nums.map V.int))->aX d.E H a2=some (.lst (ins.map V.str))->i <11->nums.length=cN i->((∀v∈nums,0<=v/\v <1000000000))->ins.length=cI i->many=cO i->ls.length<=22->ps.length<=25->os.length<=100->(∀(newl:List aG) (H':Hp),newl.length=many->aJ (aX d.E H) (aX d.E H')->pF d H' (ls ++ newl) (ps ++ [⟨i,dw d.c4 ps.length,nums,ins,newl.map (·.name)⟩]) (os ++ newl.map (·.name))->Q .non H')->zR vs H Q E
noncomputable abbrev Bj:List Str:=["_law_state", "_law_cell_here", "_law_kind", "_law_numbers", "_law_ins", "_law_many", "_law_outs"]
theorem dm (T:Txt w K mg t):FO P w K mg base 4 t.Ce ["_law_state", "_law_cell_here", "_law_kind", "_law_numbers", "_law_ins", "_law_many"] (zR):=by
 have sc:=T.cX.sc Bj
 refine T.cX.F.ok sc ln (fun _ _ _ _ H vs Q E hr h=>?_)
 obtain⟨d,ls,ps,os,c,i,a1,a2,nums,ins,many,rfl,D,e1,e2,hi,hN,hB,hI,hO,hls,hps,hos,k⟩:=h
 refine⟨_,(az (jg (i:=6) [0,1] Bj (bc (top 69)) rfl sc.nd rfl (j9 rfl T.pG (aa (pv 5) ak aj)) (fun _ _ _ _ _=>f9) (fun _ _ _ _ _=>(fj (lG T) T.jy hr (aa (pv 1) (aa (fj (bz T) T.bC hr (aa (pv 2) (aa (bA eQ au (pv 0)) ak cg) aj)) (aa lH ak aq) aO) aj))))
  (az (bN (IK (bf bw (pv 0) au (fun _ _=>rfl)) (aa (cB (aa (pv 2) (aa (fj (pI T) T.km hr (aa (bf bw (pv 0) au (fun _ _=>rfl)) (aa (bG cz (by rfl) T.gh dY (aa (bf bw (pv 0) au (fun _ _=>rfl)) ak aF)) ak aO) aF)) (aa (pv 3) (aa (pv 4) (aa (pv 6) ak aj) aj) aj) aO) aj)) ak cQ)))
  (aA (bN (Er PySem.F.plainAttrs_list PySem.F.slot_list_extend PySem.F.type_list_extend Hj (bf bw (pv 0) au (fun _ _=>rfl)) (aa (pv 6) ak aj)))))),?_⟩
 have hl:sizeLine=16777216:=sizeLine_eq
 have hm2:many<=2:=by rw [hO];exact RJ i
 refine⟨_,rfl,(many:Int),rfl,by omega,by omega,?_⟩
 rw [Int.toNat_natCast]
 refine lN (fun i ys H'=>∃newl:List aG,newl.length=i/\ys=newl.map (fun l=>V.str l.name)/\aJ (aX d.E H) (aX d.E H')/\pF d H' (ls ++ newl) ps os) (by omega) ⟨[],rfl,rfl,aJ.refl _,by rw [List.append_nil];exact D⟩ (fun i ys H' ⟨newl,e,e2,_⟩=>by rw [e2,lM];omega) ?_ ?_
 ·rintro j ys H' hj ⟨newl,hn,rfl,s,D'⟩
  refine yes ⟨_,rfl,_,rfl,_,rfl,_,_,rfl,rfl,c,20+(0+(j:Int)),rfl,?_⟩
  refine⟨d,ls ++ newl,ps,os,_,false,rfl,D',by rw [lP];omega,fun l H1 _ s1 D1=>?_⟩
  exact⟨newl ++ [l],by simp [hn],by simp,s.trans s1,by rw [<-List.append_assoc];exact D1⟩
 rintro ys H1 ⟨newl,hn,rfl,s1,D1⟩ F nF
 have t1:=aB (o:=.lst (newl.map fun l=>V.str l.name)) nF
 have eF:upd H1 F (.lst (newl.map fun l=>V.str l.name)) F=some (.lst ((newl.map (·.name)).map V.str)):=by rw [List.map_map];exact ao
 have oF:=D1.out nF
 have D2:=D1.keep t1
 have s2:=s1.trans (D1.cut t1)
 generalize upd H1 F (.lst (newl.map fun l=>V.str l.name))=H2 at t1 eF D2 s2 ⊢
 obtain⟨xs,eP,aP⟩:=D2.parts
 have xl:=aP.length
 refine⟨_,rfl,d.S,_,1,_,rfl,rfl,D2.seqS,aM (j:=1) rfl,.inl ⟨rfl,_,bK.of eP⟩,?_⟩
 refine⟨_,rfl,_,rfl,d.S,_,4,_,rfl,rfl,D2.seqS,aM (j:=4) rfl,?_⟩
 refine⟨_,rfl,d.S,_,1,_,rfl,rfl,D2.seqS,aM (j:=1) rfl,.ref d.P,ps.length,rfl,.inl ⟨_,bK.of eP,xl.symm⟩,?_⟩
 refine⟨d.c4,ps.length,rfl,by omega,fun H3 s3=>?_⟩
 have D3:=D2.keep s3
 have t3:=s2.trans (D2.cut s3)
 have eP3:=s3 _ _ eP
 have eF3:=s3 _ _ eF
 refine⟨_,rfl,_,rfl,_,rfl,jt,fun q nq=>?_⟩
 have s4:=aB (o:=.tup [.str (cT i),.str (dw d.c4 ps.length),.ref a1,.ref a2,.ref F]) nq
 have D4:=D3.keep s4
 have t4:=t3.trans (D3.cut s4)
 have eP4:=s4 _ _ eP3
 have eF4:=s4 _ _ eF3
 have oq:=D3.out nq
 have eq:upd H3 q (.tup [.str (cT i),.str (dw d.c4 ps.length),.ref a1,.ref a2,.ref F]) q=some (.tup [.str (cT i),.str (dw d.c4 ps.length),.ref a1,.ref a2,.ref F]):=ao
 refine⟨d.P,xs,_,rfl,rfl,eP4,by omega,?_⟩
 generalize upd H3 q (.tup [.str (cT i),.str (dw d.c4 ps.length),.ref a1,.ref a2,.ref F])=H4 at s4 D4 t4 eP4 eF4 eq ⊢
 have D5:=D4.part (p:=⟨i,dw d.c4 ps.length,nums,ins,newl.map (·.name)⟩) ⟨q,a1,a2,F,rfl,bH eq oq,t4 _ _ e1,t4 _ _ e2,bH eF4 oF⟩ ⟨hi,hN,hI,by show(newl.map _).length=_;rw [lM,hn];exact hO,hB⟩ rfl eP4
 have hcu:aX d.E (upd H4 d.P (.lst (xs ++ [.ref q])))=aX d.E H4:=eU (by simp)
 have eF5:upd H4 d.P (.lst (xs ++ [.ref q])) F=some (.lst ((newl.map (·.name)).map V.str)):=by rw [aH (fun z=>oF (by rw [z];simp))];exact eF4
 generalize upd H4 d.P (.lst (xs ++ [.ref q]))=H5 at D5 hcu eF5 ⊢
 refine⟨_,rfl,d.S,_,2,_,rfl,rfl,D5.seqS,aM (j:=2) rfl,.inl ⟨rfl,_,bK.of D5.opens⟩,?_⟩
 refine⟨_,rfl,d.O,F,_,_,rfl,rfl,D5.opens,eF5,by rw [lM,lM,lM];omega,?_⟩
 rw [<-List.map_append]
 exact k newl _ hn (by rw [eU (by simp),hcu];exact t4) D5.open
theorem VP (m:Int):∃i:Nat,J0 [V.str "add",V.str "less"] (m % 2)=some (.str (cT i))/\(i=6∨i=7):=by
 have h0:=Int.emod_nonneg m (show(2:Int)≠0 by decide)
 have h1:=Int.emod_lt_of_pos m (show(0:Int) <2 by decide)
 have:m % 2=0∨m % 2=1:=by omega
 rcases this with e | e <;> rw [e]
 ·exact⟨6,rfl,.inl rfl⟩
 ·exact⟨7,rfl,.inr rfl⟩
theorem Lw {one other:Str} {os os1:List Str} (h:os.Perm (other:: os1)):(one:: os).Perm ([one,other] ++ os1):=h.cons one
theorem Yj {one other third:Str} {os os1 os2:List Str} (h:os.Perm (other:: os1)) (h2:os1.Perm (third:: os2)):(one:: os).Perm ([one,other,third] ++ os2):=(h.trans (h2.cons other)).cons one
inductive Bl (vs:List V) (H:Hp) (Q:VK) (E:XK):Prop where
 | mk:∀(d:Dw) (ls:List aG) (ps:List PD) (os:List Str) (c:Int) (one:Str) (back:List Str) (odd:Bool),vs=[.ref d.S,.int c,.str one,.bl odd]->pF d H ls ps os->Drawn.WF (u5 ls ps (one:: os) back)->os≠[]->os.length<=3->ls.length<=20->ps.length<=22->(∀ls' ps' os' H',Zu d H H' ls ps back ls' ps' os'->Q .non H')->Bl vs H Q E
theorem Ly (T:Txt w K mg t):FO P w K mg base 5 t.Dd ["_law_state", "_law_cell_here", "_law_one", "_law_odd"] (Bl):=by
 have sc:=T.xW.sc ["_law_state", "_law_cell_here", "_law_one", "_law_odd", "_law_other", "_law_way", "_law_third"]
 refine T.xW.F.ok sc ln (fun _ _ _ _ H vs Q E hr h=>?_)
 obtain⟨d,ls,ps,os,c,one,back,odd,rfl,D,w,hne,ho,hls,hps,k⟩:=h
 refine⟨_,(az (sN sc 4 (fj (tV T) T.nY hr (aa (pv 0) (aa (fj (bz T) T.bC hr (aa (pv 1) (aa au ak aq) aj)) ak aO) aj)))
  (az (sN sc 5 (bA cH (fj (bz T) T.bC hr (aa (pv 1) (aa au ak aq) aj)) au))
  (aA (iY (cC (PW.pt (DN (lg (pv 3)) (DN (bF yG (pv 5) au (bR _)) (Cw (bF Ka (bG cz (by rfl) T.gh dY (aa (bf bw (pv 0) au (fun _ _=>rfl)) ak aF)) au (bR _))))))
   (az (sN sc 6 (fj (tV T) T.nY hr (aa (pv 0) (aa (fj (bz T) T.bC hr (aa (pv 1) (aa au ak aq) aj)) ak aO) aj)))
   (aA (bN (fj (dm T) T.cX hr (aa (pv 0) (aa (pv 1) (aa bW (aa (bM ak) (aa (bM (aa (pv 2) (aa (pv 4) (aa (pv 6) ak aj) aj) aj)) (aa au ak aq) bj) bj) aq) aj) aj)))))
   (aA (iY (cC (PW.pt (DN (lg (pv 3)) (Cw (bF yG (pv 5) au (bR _)))))
    (aA (bN (fj (dm T) T.cX hr (aa (pv 0) (aa (pv 1) (aa bW (aa (bM ak) (aa (bM (aa (pv 2) (aa (pv 4) ak aj) aj)) (aa au ak aq) bj) bj) aq) aj) aj))))
    (aA (iY (cC (bF iw (bA cH (pv 5) au) au (bR _))
     (aA (bN (fj (dm T) T.cX hr (aa (pv 0) (aa (pv 1) (aa bW (aa (bM ak) (aa (bM (aa (pv 2) (aa (pv 4) ak aj) aj)) (aa au ak aq) bj) bj) aq) aj) aj))))
     (aA (bN (fj (dm T) T.cX hr (aa (pv 0) (aa (pv 1) (aa (bf bw (bM (aa bW (aa bW ak aq) aq)) (bA cH (pv 5) au) (fun _ _=>rfl)) (aa (bM ak) (aa (bM (aa (pv 2) (aa (pv 4) ak aj) aj)) (aa au ak aq) bj) bj) aF) aj) aj))))))))))))))),?_⟩
 have hl:sizeLine=16777216:=sizeLine_eq
 refine⟨_,rfl,_,rfl,_,_,rfl,d,ls,ps,os,_,rfl,D,hne,by omega,fun other os1 H1 p1 s1 D1=>?_⟩
 have l1:=p1.length_eq
 rw [List.length_cons] at l1
 refine⟨_,rfl,_,_,rfl,_,_,rfl,rfl,by show(0:Int) <6;decide,?_⟩
 refine⟨fun _ H'=>Q .non H',?_,fun _ _ h=>h⟩
 have fin:∀{i:Nat} {nm:Str} {newl:List aG} {ins os2:List Str} {H':Hp},aJ (aX d.E H) (aX d.E H')->pF d H' (ls ++ newl) (ps ++ [⟨i,nm,[],ins,newl.map (·.name)⟩]) (os2 ++ newl.map (·.name))->(one:: os).Perm (ins ++ os2)->newl.length≠0->newl.length<=2->os2.length+newl.length<=4->Q .non H':=fun s DD hp h1 h2 h4=>
  k _ _ _ _ ⟨s,DD,sU w rfl DD hp h1 (by rw [lP];omega),by rw [lP,lM];omega,by rw [lP,lM];omega,by rw [lP];omega,by rw [lP,List.length_singleton];omega⟩
 cases odd
 ·refine⟨_,rfl,false,rfl,fu (fu ?_)⟩
  refine⟨fun _ H'=>Q .non H',?_,fun _ _ h=>h⟩
  refine⟨_,rfl,false,rfl,fu (fu ?_)⟩
  refine⟨fun _ H'=>Q .non H',?_,fun _ _ h=>h⟩
  refine⟨_,rfl,_,_,rfl,rfl,by show(0:Int) <3;decide,rfl,_,rfl,kO (fun _=>?_) (fun _=>?_)⟩
  ·refine⟨_,rfl,_,rfl,jt,fun a1 n1=>⟨_,rfl,_,rfl,jt,fun a2 n2=>?_⟩⟩
   obtain⟨D9,z1,z2,z3⟩:=D1.two n1 n2 (y:=.lst [.str one,.str other])
   refine⟨d,_,_,os1,_,8,a1,a2,[],[one,other],2,rfl,D9,z1,z2,by omega,rfl,by simp,rfl,rfl,by omega,by omega,by omega,fun newl H8 hn s8 D8=>?_⟩
   exact fin (s1.trans (z3.trans s8)) D8 (Lw p1) (by omega) (by omega) (by omega)
  ·refine⟨_,rfl,_,rfl,jt,fun a0 n0=>?_⟩
   have s0:=aB (o:=.lst [.str "add",.str "less"]) n0
   have D0:=D1.keep s0
   have c0:=D1.cut s0
   refine⟨_,rfl,_,_,rfl,rfl,by show(0:Int) <2;decide,?_⟩
   obtain⟨i,ei,hi⟩:=VP (cJ c 6 % 6)
   refine⟨a0,_,_,_,rfl,rfl,bK.of ao,ei,?_⟩
   generalize upd H1 a0 (.lst [.str "add",.str "less"])=H0 at s0 D0 c0 ⊢
   have hN:([]:List Int).length=cN i:=by rcases hi with rfl | rfl <;> rfl
   have hI:[one,other].length=cI i:=by rcases hi with rfl | rfl <;> rfl
   have hO:1=cO i:=by rcases hi with rfl | rfl <;> rfl
   refine⟨jt,fun a1 n1=>⟨_,rfl,_,rfl,jt,fun a2 n2=>?_⟩⟩
   obtain⟨D9,z1,z2,z3⟩:=D0.two n1 n2 (y:=.lst [.str one,.str other])
   refine⟨d,_,_,os1,_,i,a1,a2,[],[one,other],1,rfl,D9,z1,z2,by omega,hN,by simp,hI,hO,by omega,by omega,by omega,fun newl H8 hn s8 D8=>?_⟩
   exact fin (s1.trans (c0.trans (z3.trans s8))) D8 (Lw p1) (by omega) (by omega) (by omega)
 ·refine⟨_,rfl,true,rfl,kJ ⟨_,rfl,_,_,rfl,rfl,_,rfl,Du ?_ (fun h2 b=>?_) (fun b=>b)⟩⟩
  ·refine⟨fun _ H'=>Q .non H',?_,fun _ _ h=>h⟩
   refine⟨_,rfl,true,rfl,kJ ?_⟩
   refine⟨_,rfl,_,_,rfl,rfl,_,rfl,kO (fun h5=>?_) (fun h5=>?_)⟩
   ·refine⟨_,rfl,_,rfl,jt,fun a1 n1=>⟨_,rfl,_,rfl,jt,fun a2 n2=>?_⟩⟩
    obtain⟨D9,z1,z2,z3⟩:=D1.two n1 n2 (y:=.lst [.str one,.str other])
    refine⟨d,_,_,os1,_,10,a1,a2,[],[one,other],2,rfl,D9,z1,z2,by omega,rfl,by simp,rfl,rfl,by omega,by omega,by omega,fun newl H8 hn s8 D8=>?_⟩
    exact fin (s1.trans (z3.trans s8)) D8 (Lw p1) (by omega) (by omega) (by omega)
   ·refine⟨fun _ H'=>Q .non H',?_,fun _ _ h=>h⟩
    refine⟨_,rfl,_,_,rfl,rfl,by show(0:Int) <3;decide,rfl,_,rfl,kO (fun _=>?_) (fun _=>?_)⟩
    ·refine⟨_,rfl,_,rfl,jt,fun a1 n1=>⟨_,rfl,_,rfl,jt,fun a2 n2=>?_⟩⟩
     obtain⟨D9,z1,z2,z3⟩:=D1.two n1 n2 (y:=.lst [.str one,.str other])
     refine⟨d,_,_,os1,_,8,a1,a2,[],[one,other],2,rfl,D9,z1,z2,by omega,rfl,by simp,rfl,rfl,by omega,by omega,by omega,fun newl H8 hn s8 D8=>?_⟩
     exact fin (s1.trans (z3.trans s8)) D8 (Lw p1) (by omega) (by omega) (by omega)
    ·refine⟨_,rfl,_,rfl,jt,fun a0 n0=>?_⟩
     have s0:=aB (o:=.lst [.str "add",.str "less"]) n0
     have D0:=D1.keep s0
     have c0:=D1.cut s0
     refine⟨_,rfl,_,_,rfl,rfl,by show(0:Int) <2;decide,?_⟩
     obtain⟨i,ei,hi⟩:=VP (cJ c 6 % 6)
     refine⟨a0,_,_,_,rfl,rfl,bK.of ao,ei,?_⟩
     generalize upd H1 a0 (.lst [.str "add",.str "less"])=H0 at s0 D0 c0 ⊢
     have hN:([]:List Int).length=cN i:=by rcases hi with rfl | rfl <;> rfl
     have hI:[one,other].length=cI i:=by rcases hi with rfl | rfl <;> rfl
     have hO:1=cO i:=by rcases hi with rfl | rfl <;> rfl
     refine⟨jt,fun a1 n1=>⟨_,rfl,_,rfl,jt,fun a2 n2=>?_⟩⟩
     obtain⟨D9,z1,z2,z3⟩:=D0.two n1 n2 (y:=.lst [.str one,.str other])
     refine⟨d,_,_,os1,_,i,a1,a2,[],[one,other],1,rfl,D9,z1,z2,by omega,hN,by simp,hI,hO,by omega,by omega,by omega,fun newl H8 hn s8 D8=>?_⟩
     exact fin (s1.trans (c0.trans (z3.trans s8))) D8 (Lw p1) (by omega) (by omega) (by omega)
  ·refine⟨_,rfl,d.S,_,2,_,rfl,rfl,D1.seqS,aM (j:=2) rfl,.ref d.O,os1.length,rfl,.inl ⟨_,bK.of D1.opens,by simp⟩,_,_,rfl,rfl,_,rfl,kO (fun h3=>?_) (fun _=>b)⟩
   have hne1:os1≠[]:=fun z=>by rw [z] at h3;exact absurd (of_decide_eq_true h3) (by decide)
   refine⟨_,rfl,_,rfl,_,_,rfl,d,ls,ps,os1,_,rfl,D1,hne1,by omega,fun third os2 H2 p2 s2 D2=>?_⟩
   have l2:=p2.length_eq
   rw [List.length_cons] at l2
   refine⟨_,rfl,_,rfl,jt,fun a1 n1=>⟨_,rfl,_,rfl,_,rfl,jt,fun a2 n2=>?_⟩⟩
   obtain⟨D9,z1,z2,z3⟩:=D2.two n1 n2 (y:=.lst [.str one,.str other,.str third])
   refine⟨d,_,_,os2,_,9,a1,a2,[],[one,other,third],1,rfl,D9,z1,z2,by omega,rfl,by simp,rfl,rfl,by omega,by omega,by omega,fun newl H8 hn s8 D8=>?_⟩
   exact fin (s1.trans (s2.trans (z3.trans s8))) D8 (Yj p1 p2) (by omega) (by omega) (by omega)
inductive zp (vs:List V) (H:Hp) (Q:VK) (E:XK):Prop where
 | mk:∀(d:Dw) (ls:List aG) (ps:List PD) (os:List Str) (c:Int) (one:Str) (back:List Str),vs=[.ref d.S,.int c,.str one]->pF d H ls ps os->Drawn.WF (u5 ls ps (one:: os) back)->os.length<=3->ls.length<=20->ps.length<=22->(∀ls' ps' os' H',Zu d H H' ls ps back ls' ps' os'->Q .non H')->zp vs H Q E
theorem Iw (T:Txt w K mg t):FO P w K mg base 4 t.Cd ["_law_state", "_law_cell_here", "_law_one"] (zp):=by
 have sc:=T.vH.sc ["_law_state", "_law_cell_here", "_law_one", "_law_own", "_law_fresh"]
 refine T.vH.F.ok sc ln (fun _ _ _ _ H vs Q E hr h=>?_)
 obtain⟨d,ls,ps,os,c,one,back,rfl,D,w,ho,hls,hps,k⟩:=h
 refine⟨_,(az (sN sc 3 (fj (lG T) T.jy hr (aa (pv 0) (aa (fj (bz T) T.bC hr (aa (pv 1) (aa au ak aq) aj)) (aa lH ak aq) aO) aj)))
  (az (sN sc 4 (fj (lG T) T.jy hr (aa (pv 0) (aa (fj (bz T) T.bC hr (aa (pv 1) (aa au ak aq) aj)) (aa lH ak aq) aO) aj)))
  (az (bN (IK (bf bw (pv 0) au (fun _ _=>rfl)) (aa (cB (aa bW (aa (fj (pI T) T.km hr (aa (bf bw (pv 0) au (fun _ _=>rfl)) (aa (bG cz (by rfl) T.gh dY (aa (bf bw (pv 0) au (fun _ _=>rfl)) ak aF)) ak aO) aF)) (aa (bM ak) (aa (bM (aa (pv 2) (aa (pv 3) ak aj) aj)) (aa (bM (aa (pv 3) (aa (pv 4) ak aj) aj)) ak bj) bj) bj) aO) aq)) ak cQ)))
  (aA (bN (IK (bf bw (pv 0) au (fun _ _=>rfl)) (aa (pv 4) ak aj))))))),?_⟩
 have hl:sizeLine=16777216:=sizeLine_eq
 refine⟨_,rfl,_,rfl,_,_,rfl,d,ls,ps,os,_,true,rfl,D,by omega,fun l1 H1 e1 s1 D1=>?_⟩
 refine⟨_,rfl,_,rfl,_,_,rfl,d,ls ++ [l1],ps,os,_,false,rfl,D1,by rw [lP,List.length_singleton];omega,fun l2 H2 e2 s2 D2=>?_⟩
 have s12:=s1.trans s2
 obtain⟨xs,eP,aP⟩:=D2.parts
 have xl:=aP.length
 refine⟨_,rfl,d.S,_,1,_,rfl,rfl,D2.seqS,aM (j:=1) rfl,.inl ⟨rfl,_,bK.of eP⟩,?_⟩
 refine⟨_,rfl,d.S,_,4,_,rfl,rfl,D2.seqS,aM (j:=4) rfl,?_⟩
 refine⟨_,rfl,d.S,_,1,_,rfl,rfl,D2.seqS,aM (j:=1) rfl,.ref d.P,ps.length,rfl,.inl ⟨_,bK.of eP,xl.symm⟩,?_⟩
 refine⟨d.c4,ps.length,rfl,by omega,fun H3 s3=>?_⟩
 have D3:=D2.keep s3
 have c3:=s12.trans (D2.cut s3)
 have eP3:=s3 _ _ eP
 refine⟨jt,fun a1 n1=>⟨_,rfl,_,rfl,jt,fun a2 n2=>⟨_,rfl,_,rfl,jt,fun a3 n3=>⟨jt,fun q nq=>?_⟩⟩⟩⟩
 obtain⟨D4,z1,z2,z3⟩:=D3.two n1 n2 (y:=.lst [.str one,.str l1.name])
 have t4:aJ H3 (upd (upd H3 a1 (.lst [])) a2 (.lst [.str one,.str l1.name])):=(aB n1).trans (aB n2)
 have eP4:=t4 _ _ eP3
 generalize upd (upd H3 a1 (.lst [])) a2 (.lst [.str one,.str l1.name])=H4 at D4 z1 z2 z3 t4 eP4 n3 nq ⊢
 obtain⟨D5,y1,y2,y3⟩:=D4.two n3 nq (y:=.tup [.str "order",.str (dw d.c4 ps.length),.ref a1,.ref a2,.ref a3])
 have t5:aJ H4 (upd (upd H4 a3 (.lst [.str l1.name,.str l2.name])) q (.tup [.str "order",.str (dw d.c4 ps.length),.ref a1,.ref a2,.ref a3])):=(aB n3).trans (aB nq)
 have eP5:=t5 _ _ eP4
 generalize upd (upd H4 a3 (.lst [.str l1.name,.str l2.name])) q (.tup [.str "order",.str (dw d.c4 ps.length),.ref a1,.ref a2,.ref a3])=H5 at D5 y1 y2 y3 t5 eP5 ⊢
 have c5:=c3.trans (z3.trans y3)
 refine⟨d.P,xs,_,rfl,rfl,eP5,by omega,?_⟩
 have D6:=D5.part (p:=⟨8,dw d.c4 ps.length,[],[one,l1.name],[l1.name,l2.name]⟩) ⟨q,a1,a2,a3,rfl,y2,y3 _ _ z1,y3 _ _ z2,y1⟩ ⟨by show 8 <11;omega,rfl,rfl,rfl,by simp⟩ rfl eP5
 have c6:aX d.E (upd H5 d.P (.lst (xs ++ [.ref q])))=aX d.E H5:=eU (by simp)
 generalize upd H5 d.P (.lst (xs ++ [.ref q]))=H6 at D6 c6 ⊢
 refine⟨_,rfl,d.S,_,2,_,rfl,rfl,D6.seqS,aM (j:=2) rfl,.inl ⟨rfl,_,bK.of D6.opens⟩,_,rfl,d.O,_,_,rfl,rfl,D6.opens,by rw [lM];omega,?_⟩
 have D7:=D6.open (os':=os ++ [l2.name])
 rw [List.map_append] at D7
 have nd:=D7.nod (by rw [lP,lP,List.length_singleton,List.length_singleton];omega)
 have wl:=w.loop (p:=⟨8,dw d.c4 ps.length,[],[one,l1.name],[l1.name,l2.name]⟩) (rest:=os) (one:=one) (own:=l1.name) (fresh:=l2.name) rfl rfl (.refl _) (by simpa using nd)
 refine k _ _ _ _ ⟨by rw [eU (by simp),c6];exact c5,D7,by simpa [u5] using wl,by rw [lP,List.length_singleton];omega,by rw [lP,List.length_singleton];omega,by simp,by simp⟩
inductive yL (vs:List V) (H:Hp) (Q:VK) (E:XK):Prop where
 | mk:∀(d:Dw) (ls:List aG) (ps:List PD) (os:List Str) (c:Int) (back:List Str) (odd:Bool),vs=[.ref d.S,.int c,.bl odd]->pF d H ls ps os->Drawn.WF (u5 ls ps os back)->os≠[]->os.length<=4->ls.length<=20->ps.length<=22->(∀ls' ps' os' H',Zu d H H' ls ps back ls' ps' os'->Q .non H')->yL vs H Q E
theorem HR (T:Txt w K mg t):FO P w K mg base 6 t.Bu ["_law_state", "_law_cell_here", "_law_odd"] (yL):=by
 have sc:=T.vz.sc ["_law_state", "_law_cell_here", "_law_odd", "_law_way", "_law_one"]
 refine T.vz.F.ok sc ln (fun _ _ _ _ H vs Q E hr h=>?_)
 obtain⟨d,ls,ps,os,c,back,odd,rfl,D,w,hne,ho,hls,hps,k⟩:=h
 refine⟨_,(az (sN sc 3 (bA cH (fj (bz T) T.bC hr (aa (pv 1) (aa au ak aq) aj)) au))
  (az (sN sc 4 (fj (tV T) T.nY hr (aa (pv 0) (aa (fj (bz T) T.bC hr (aa (pv 1) (aa au ak aq) aj)) ak aO) aj)))
  (aA (iY (cC (PW.pt (DN (bF yG (pv 3) au (bR _)) (Cw (bF yG (bG cz (by rfl) T.gh dY (aa (bf bw (pv 0) au (fun _ _=>rfl)) ak aF)) au (bR _)))))
   (aA (bN (fj (dm T) T.cX hr (aa (pv 0) (aa (pv 1) (aa bW (aa (bM ak) (aa (bM (aa (pv 4) ak aj)) (aa au ak aq) bj) bj) aq) aj) aj))))
   (aA (iY (cC (bF iw (pv 3) au (bR _))
    (az (bN (fj (dm T) T.cX hr (aa (pv 0) (aa (pv 1) (aa bW (aa (bM ak) (aa (bM (aa (pv 4) ak aj)) (aa au ak aq) bj) bj) aq) aj) aj)))
    (aA (bN (fj (dm T) T.cX hr (aa (pv 0) (aa (pv 1) (aa bW (aa (bM ak) (aa (bM (aa (My PySem.F.plainAttrs_list PySem.F.slot_list_pop PySem.F.type_list_pop Nj (bf bw (pv 0) au (fun _ _=>rfl))) ak aO)) (aa au ak aq) bj) bj) aq) aj) aj)))))
    (aA (iY (cC (PW.pt (DN (bF yG (pv 3) au (bR _)) (Cw (bF Ka (bG cz (by rfl) T.gh dY (aa (bf bw (pv 0) au (fun _ _=>rfl)) ak aF)) au (bR _)))))
     (aA (bN (fj (Ly T) T.xW hr (aa (pv 0) (aa (pv 1) (aa (pv 4) (aa (pv 2) ak aj) aj) aj) aj))))
     (aA (iY (cC (bF yG (pv 3) au (bR _))
      (aA (bN (fj (dm T) T.cX hr (aa (pv 0) (aa (pv 1) (aa bW (aa (bM (aa (fj (jT T) T.iI hr (aa (pv 1) (aa au ak aq) aj)) (aa (fj (jT T) T.iI hr (aa (pv 1) (aa au ak aq) aj)) ak aO) aO)) (aa (bM (aa (pv 4) ak aj)) (aa au ak aq) bj) bj) aq) aj) aj))))
      (aA (iY (cC (bF iw (pv 3) au (bR _))
       (aA (bN (fj (dm T) T.cX hr (aa (pv 0) (aa (pv 1) (aa bW (aa (bM (aa (fj (jT T) T.iI hr (aa (pv 1) (aa au ak aq) aj)) ak aO)) (aa (bM (aa (pv 4) ak aj)) (aa au ak aq) bj) bj) aq) aj) aj))))
       (aA (iY (cC (bF iw (bA cH (fj (bz T) T.bC hr (aa (pv 1) (aa au ak aq) aj)) au) au (bR _))
        (aA (bN (fj (Iw T) T.vH hr (aa (pv 0) (aa (pv 1) (aa (pv 4) ak aj) aj) aj))))
        (aA (bN (fj (dm T) T.cX hr (aa (pv 0) (aa (pv 1) (aa bW (aa (bM ak) (aa (bM (aa (pv 4) ak aj)) (aa au ak aq) bj) bj) aq) aj) aj)))))))))))))))))))))))),?_⟩
 have hl:sizeLine=16777216:=sizeLine_eq
 refine⟨_,rfl,_,_,rfl,_,_,rfl,rfl,by show(0:Int) <9;decide,?_⟩
 refine⟨_,rfl,_,rfl,_,_,rfl,d,ls,ps,os,_,rfl,D,hne,by omega,fun one os1 H1 p1 s1 D1=>?_⟩
 have w1:Drawn.WF (u5 ls ps (one:: os1) back):=WQ w p1
 have lo:=p1.length_eq
 rw [List.length_cons] at lo
 have fin:∀{i:Nat} {nm:Str} {nums:List Int} {newl:List aG} {ins os2:List Str} {H':Hp},aJ (aX d.E H) (aX d.E H')->pF d H' (ls ++ newl) (ps ++ [⟨i,nm,nums,ins,newl.map (·.name)⟩]) (os2 ++ newl.map (·.name))->(one:: os1).Perm (ins ++ os2)->newl.length≠0->newl.length<=2->os2.length+newl.length<=4->Q .non H':=fun s DD hp h1 h2 h4=>
  k _ _ _ _ ⟨s,DD,sU w1 rfl DD hp h1 (by rw [lP];omega),by rw [lP,lM];omega,by rw [lP,lM];omega,by rw [lP];omega,by rw [lP,List.length_singleton];omega⟩
 refine⟨fun _ H'=>Q .non H',?_,fun _ _ h=>h⟩
 refine⟨_,rfl,_,_,rfl,rfl,_,rfl,Du ?_ (fun h2 b=>?_) (fun b=>b)⟩
 ·refine⟨fun _ H'=>Q .non H',?_,fun _ _ h=>h⟩
  refine⟨_,rfl,rfl,_,rfl,kO (fun _=>?_) (fun _=>?_)⟩
  ·refine⟨_,rfl,_,rfl,jt,fun a1 n1=>⟨_,rfl,jt,fun a2 n2=>?_⟩⟩
   obtain⟨D9,z1,z2,z3⟩:=D1.two n1 n2 (y:=.lst [.str one])
   refine⟨d,_,_,os1,_,3,a1,a2,[],[one],2,rfl,D9,z1,z2,by omega,rfl,by simp,rfl,rfl,by omega,by omega,by omega,fun newl H8 hn s8 D8=>?_⟩
   obtain⟨l1,l2,rfl⟩:∃l1 l2,newl=[l1,l2]:=by
    match newl,hn with
    | [x,y],_=>exact⟨x,y,rfl⟩
   have w8:=sU w1 rfl D8 (.refl _) (by simp) (by simp;omega)
   have s18:=s1.trans (z3.trans s8)
   clear D9 z1 z2 z3 n1 n2 s8
   refine⟨_,rfl,_,rfl,jt,fun a3 n3=>?_⟩
   have s3:=aB (o:=.lst []) n3
   have D3:=D8.keep s3
   have c3:=s18.trans (D8.cut s3)
   have o3:=D8.out n3
   have e3:upd H8 a3 (.lst []) a3=some (.lst ([]:List V)):=ao
   generalize upd H8 a3 (.lst [])=H3 at s3 D3 c3 e3 ⊢
   have eo:((os1 ++ [l1,l2].map (·.name)).map V.str)=((os1 ++ [l1.name]).map V.str) ++ [.str l2.name]:=by simp
   have hop:=D3.opens
   rw [eo] at hop
   refine⟨_,rfl,d.S,_,2,_,rfl,rfl,D3.seqS,aM (j:=2) rfl,.inl ⟨rfl,_,bK.of D3.opens⟩,d.O,_,.str l2.name,rfl,rfl,hop,by rw [lP,List.length_singleton,Nat.add_sub_cancel];exact List.getElem?_concat_length,?_⟩
   rw [List.dropLast_concat]
   have D4:=D3.open (os':=os1 ++ [l1.name])
   have c4:aX d.E (upd H3 d.O (.lst ((os1 ++ [l1.name]).map V.str)))=aX d.E H3:=eU (by simp)
   have e4:=bH e3 o3
   generalize upd H3 d.O (.lst ((os1 ++ [l1.name]).map V.str))=H4 at D4 c4 ⊢
   refine⟨jt,fun a4 n4=>?_⟩
   have s5:=aB (o:=.lst [.str l2.name]) n4
   have D5:=D4.keep s5
   have c5:=D4.cut s5
   rw [c4] at c5
   have e5:=bH (E:=d.E) (H:=upd H4 a4 (.lst [.str l2.name])) ao (D4.out n4)
   refine⟨d,ls ++ [l1,l2],_,os1 ++ [l1.name],_,1,a3,a4,[],[l2.name],0,rfl,D5,c5 _ _ e4,e5,by omega,rfl,by simp,rfl,rfl,by simp;omega,by simp;omega,by simp;omega,fun newl2 H9 hn2 s9 D9=>?_⟩
   have hz:newl2=[]:=List.length_eq_zero_iff.mp hn2
   subst hz
   have wt:=w8.take (p:=⟨1,dw d.c4 (ps ++ [(⟨3,dw d.c4 ps.length,[],[one],[l1,l2].map (·.name)⟩:PD)]).length,[],[l2.name],[]⟩) (rest:=os1 ++ [l1.name]) (y:=l2.name) (x:=l1.name) rfl rfl (by
     show(os1 ++ [l1.name,l2.name]).Perm (l2.name:: (os1 ++ [l1.name]))
     rw [show os1 ++ [l1.name,l2.name]=(os1 ++ [l1.name]) ++ [l2.name] by simp]
     exact List.perm_append_comm) (by simp) (Drawn.jJ.part (p:=⟨3,dw d.c4 ps.length,[],[one],[l1,l2].map (·.name)⟩) (by simp) (by simp) (by simp))
   rw [List.map_nil,List.append_nil,List.append_nil] at D9
   exact k _ _ _ _ ⟨c3.trans (c5.trans s9),D9,wt,by simp,by simp;omega,by simp,by simp⟩
  ·refine⟨fun _ H'=>Q .non H',?_,fun _ _ h=>h⟩
   refine⟨_,rfl,_,_,rfl,rfl,_,rfl,Du ?_ (fun h2 b=>?_) (fun b=>b)⟩
   ·refine⟨fun _ H'=>Q .non H',?_,fun _ _ h=>h⟩
    refine⟨_,rfl,_,_,rfl,rfl,_,rfl,kO (fun _=>?_) (fun _=>?_)⟩
    ·refine⟨_,rfl,_,rfl,_,rfl,c,8,rfl,_,rfl,c,9,rfl,jt,fun a1 n1=>⟨_,rfl,jt,fun a2 n2=>?_⟩⟩
     obtain⟨D9,z1,z2,z3⟩:=D1.two n1 n2 (y:=.lst [.str one])
     refine⟨d,_,_,os1,_,4,a1,a2,[rP c 8,rP c 9],[one],1,rfl,D9,z1,z2,by omega,rfl,?_,rfl,rfl,by omega,by omega,by omega,fun newl H8 hn s8 D8=>?_⟩
     ·intro v hv
      rcases List.mem_cons.mp hv with rfl | hv
      ·exact sX _ _
      ·rw [List.mem_singleton] at hv
       subst hv
       exact sX _ _
     exact fin (s1.trans (z3.trans s8)) D8 (.refl _) (by omega) (by omega) (by omega)
    ·refine⟨fun _ H'=>Q .non H',?_,fun _ _ h=>h⟩
     refine⟨_,rfl,rfl,_,rfl,kO (fun _=>?_) (fun _=>?_)⟩
     ·refine⟨_,rfl,_,rfl,_,rfl,c,8,rfl,jt,fun a1 n1=>⟨_,rfl,jt,fun a2 n2=>?_⟩⟩
      obtain⟨D9,z1,z2,z3⟩:=D1.two n1 n2 (y:=.lst [.str one])
      refine⟨d,_,_,os1,_,5,a1,a2,[rP c 8],[one],1,rfl,D9,z1,z2,by omega,rfl,?_,rfl,rfl,by omega,by omega,by omega,fun newl H8 hn s8 D8=>?_⟩
      ·intro v hv
       rw [List.mem_singleton] at hv
       subst hv
       exact sX _ _
      exact fin (s1.trans (z3.trans s8)) D8 (.refl _) (by omega) (by omega) (by omega)
     ·refine⟨fun _ H'=>Q .non H',?_,fun _ _ h=>h⟩
      refine⟨_,rfl,_,_,rfl,_,_,rfl,rfl,by show(0:Int) <2;decide,rfl,_,rfl,kO (fun _=>?_) (fun _=>?_)⟩
      ·exact⟨_,rfl,_,rfl,_,rfl,d,ls,ps,os1,c,one,back,rfl,D1,w1,by omega,hls,hps,fun ls' ps' os' H' X=>k ls' ps' os' H' ⟨s1.trans X.cut,X.at',X.wf,X.o1,X.o4,X.l2,X.p2⟩⟩
      ·refine⟨_,rfl,_,rfl,jt,fun a1 n1=>⟨_,rfl,jt,fun a2 n2=>?_⟩⟩
       obtain⟨D9,z1,z2,z3⟩:=D1.two n1 n2 (y:=.lst [.str one])
       refine⟨d,_,_,os1,_,2,a1,a2,[],[one],1,rfl,D9,z1,z2,by omega,rfl,by simp,rfl,rfl,by omega,by omega,by omega,fun newl H8 hn s8 D8=>?_⟩
       exact fin (s1.trans (z3.trans s8)) D8 (.refl _) (by omega) (by omega) (by omega)
   ·refine⟨_,rfl,d.S,_,2,_,rfl,rfl,D1.seqS,aM (j:=2) rfl,.ref d.O,os1.length,rfl,.inl ⟨_,bK.of D1.opens,by simp⟩,_,_,rfl,rfl,_,rfl,kO (fun h3=>?_) (fun _=>b)⟩
    have hne1:os1≠[]:=fun z=>by rw [z] at h3;exact absurd (of_decide_eq_true h3) (by decide)
    exact⟨_,rfl,_,rfl,_,rfl,_,rfl,d,ls,ps,os1,c,one,back,odd,rfl,D1,w1,hne1,by omega,hls,hps,fun ls' ps' os' H' X=>k ls' ps' os' H' ⟨s1.trans X.cut,X.at',X.wf,X.o1,X.o4,X.l2,X.p2⟩⟩
 ·refine⟨_,rfl,d.S,_,2,_,rfl,rfl,D1.seqS,aM (j:=2) rfl,.ref d.O,os1.length,rfl,.inl ⟨_,bK.of D1.opens,by simp⟩,_,_,rfl,rfl,_,rfl,kO (fun h3=>?_) (fun _=>b)⟩
  have h3:os1.length <3:=by have:=of_decide_eq_true h3;omega
  refine⟨_,rfl,_,rfl,jt,fun a1 n1=>⟨_,rfl,jt,fun a2 n2=>?_⟩⟩
  obtain⟨D9,z1,z2,z3⟩:=D1.two n1 n2 (y:=.lst [.str one])
  refine⟨d,_,_,os1,_,3,a1,a2,[],[one],2,rfl,D9,z1,z2,by omega,rfl,by simp,rfl,rfl,by omega,by omega,by omega,fun newl H8 hn s8 D8=>?_⟩
  exact fin (s1.trans (z3.trans s8)) D8 (.refl _) (by omega) (by omega) (by omega)
inductive vU (vs:List V) (H:Hp) (Q:VK) (E:XK):Prop where
 | mk:∀(d:Dw) (ls:List aG) (ps:List PD) (os:List Str) (c:Int) (B:Addr) (back:List Str),vs=[.ref d.S,.int c,.ref B]->pF d H ls ps os->Drawn.WF (u5 ls ps os back)->aX d.E H B=some (.lst (back.map V.str))->os≠[]->os.length<=4->back.length<=2->ls.length<=12->ps.length<=10->(∀ls' ps' H',aJ (aX d.E H) (aX d.E H')->pF d H' ls' ps' []->G3 (ls'.map (·.name)) ps'->ls'.length<=17->ls.length<=ls'.length->ps'.length<=16->1<=ps'.length->Q .non H')->vU vs H Q E
theorem DR (T:Txt w K mg t):FO P w K mg base 5 t.xn ["_law_state", "_law_cell_here", "_law_back"] (vU):=by
 have sc:=T.rH.sc ["_law_state", "_law_cell_here", "_law_back", "_law_one", "_law_other", "_law_kind", "_law_lane_here", "_law_fresh"]
 refine T.rH.F.ok sc ln (fun _ _ _ _ H vs Q E hr h=>?_)
 obtain⟨d,ls,ps,os,c,B,back,rfl,D,w,eB,hne,ho,hb,hls,hps,k⟩:=h
 refine⟨_,(az (Kz PassesOwn.never (bF Ka (bG cz (by rfl) T.gh dY (aa (bf bw (pv 0) au (fun _ _=>rfl)) ak aF)) au (bR _))
   (az (sN sc 3 (Er PySem.F.plainAttrs_list PySem.F.slot_list_pop PySem.F.type_list_pop Di (bf bw (pv 0) au (fun _ _=>rfl)) (aa au ak aq)))
   (az (sN sc 4 (Er PySem.F.plainAttrs_list PySem.F.slot_list_pop PySem.F.type_list_pop Di (bf bw (pv 0) au (fun _ _=>rfl)) (aa au ak aq)))
   (az (sN sc 5 (bf bw (bM (aa bW (aa bW (aa bW ak aq) aq) aq)) (bA cH (fj (bz T) T.bC hr (aa (pv 1) (aa (bG cz (by rfl) T.gh dY (aa (bf bw (pv 0) au (fun _ _=>rfl)) ak aF)) ak aO) aj)) au) (fun _ _=>rfl)))
   (aA (bN (fj (dm T) T.cX hr (aa (pv 0) (aa (fj (bz T) T.bC hr (aa (pv 1) (aa (bA eQ au (bG cz (by rfl) T.gh dY (aa (bf bw (pv 0) au (fun _ _=>rfl)) ak aF))) ak cg) aj)) (aa (pv 5) (aa (bM ak) (aa (bM (aa (pv 3) (aa (pv 4) ak aj) aj)) (aa au ak aq) bj) bj) aj) aO) aj))))))))
  (az (d7 PassesOwn.never rfl (b8 (pv 2)) (gN sc 6)
   (az (sN sc 3 (My PySem.F.plainAttrs_list PySem.F.slot_list_pop PySem.F.type_list_pop Nj (bf bw (pv 0) au (fun _ _=>rfl))))
   (az (sN sc 7 (fj (lG T) T.jy hr (aa (pv 0) (aa (fj (bz T) T.bC hr (aa (pv 1) (aa (bA eQ au (bG cz (by rfl) T.gh dY (aa (bf bw (pv 0) au (fun _ _=>rfl)) ak aF))) ak cg) aj)) (aa lH ak aq) aO) aj)))
   (az (bN (IK (bf bw (pv 0) au (fun _ _=>rfl)) (aa (cB (aa bW (aa (fj (pI T) T.km hr (aa (bf bw (pv 0) au (fun _ _=>rfl)) (aa (bG cz (by rfl) T.gh dY (aa (bf bw (pv 0) au (fun _ _=>rfl)) ak aF)) ak aO) aF)) (aa (bM ak) (aa (bM (aa (pv 3) ak aj)) (aa (bM (aa (pv 6) (aa (pv 7) ak aj) aj)) ak bj) bj) bj) aO) aq)) ak cQ)))
   (aA (bN (IK (bf bw (pv 0) au (fun _ _=>rfl)) (aa (pv 7) ak aj))))))))
  (aA (bN (fj (dm T) T.cX hr (aa (pv 0) (aa (pv 1) (aa bW (aa (bM ak) (aa (bM (aa (My PySem.F.plainAttrs_list PySem.F.slot_list_pop PySem.F.type_list_pop Nj (bf bw (pv 0) au (fun _ _=>rfl))) ak aO)) (aa au ak aq) bj) bj) aq) aj) aj)))))),?_⟩
 have hl:sizeLine=16777216:=sizeLine_eq
 have hpos:0 <os.length:=List.length_pos_iff.mpr hne
 refine hide fun u hu=>?_
 refine Kf (fun σ H1=>∃(ls1:List aG) (ps1:List PD) (os1:List Str) (v3 v4 v5:Option V),σ=[some (.ref d.S),some (.int c),some (.ref B),v3,v4,v5,none,none]/\aJ (aX d.E H) (aX d.E H1)/\pF d H1 ls1 ps1 os1/\Drawn.WF (u5 ls1 ps1 os1 back)/\1<=os1.length/\os1.length<=4/\ls.length<=ls1.length/\ls1.length+os1.length<=16/\ps1.length+os1.length<=14)
  (fun _ H1=>Qu H1 d.O) ⟨ls,ps,os,none,none,none,rfl,aJ.refl _,D,w,by omega,ho,Nat.le_refl _,by omega,by omega⟩ ?_ ?_
 ·rintro σ H1 ⟨ls1,ps1,os1,v3,v4,v5,rfl,s1,D1,w1,o1,o4,hl1,hl2,hp2⟩
  refine⟨_,rfl,d.S,_,2,_,rfl,rfl,D1.seqS,aM (j:=2) rfl,.ref d.O,os1.length,rfl,.inl ⟨_,bK.of D1.opens,by simp⟩,_,_,rfl,rfl,_,rfl,kO (fun h3=>?_) (fun h3=>?_)⟩
  ·have h3:1 <os1.length:=by have:=of_decide_eq_true h3;omega
   obtain⟨one,other,os2,rfl⟩:∃one other os2,os1=one:: other:: os2:=by
    match os1,h3 with
    | x:: y:: r,_=>exact⟨x,y,r,rfl⟩
   rw [List.length_cons,List.length_cons] at h3 o1 o4 hl2 hp2
   have lm:=KC D1.opens
   refine Xj fun De hD u hu=>?_
   refine⟨_,rfl,d.S,_,2,_,rfl,rfl,D1.seqS,aM (j:=2) rfl,.inl ⟨rfl,_,bK.of D1.opens⟩,d.O,_,0,0,.str one,rfl,rfl,D1.opens,by decide,by decide,Mg (by simp),rfl,?_⟩
   have D2:=D1.open (os':=other:: os2)
   have c2:aX d.E (upd H1 d.O (.lst ((other:: os2).map V.str)))=aX d.E H1:=eU (by simp)
   refine dI (v:=u) hu fun u hu=>?_
   change zr _ _ _ _ (upd H1 d.O (.lst ((other:: os2).map V.str)))
   generalize upd H1 d.O (.lst ((other:: os2).map V.str))=H2 at D2 c2 ⊢
   refine⟨_,rfl,d.S,_,2,_,rfl,rfl,D2.seqS,aM (j:=2) rfl,.inl ⟨rfl,_,bK.of D2.opens⟩,d.O,_,0,0,.str other,rfl,rfl,D2.opens,by decide,by decide,Mg (by simp),rfl,?_⟩
   have D3:=D2.open (os':=os2)
   have c3:aX d.E (upd H2 d.O (.lst (os2.map V.str)))=aX d.E H2:=eU (by simp)
   refine dI (v:=u) hu fun u hu=>?_
   change zr _ _ _ _ (upd H2 d.O (.lst (os2.map V.str)))
   generalize upd H2 d.O (.lst (os2.map V.str))=H3 at D3 c3 ⊢
   have s3:aJ (aX d.E H) (aX d.E H3):=by rw [c3,c2];exact s1
   refine⟨jt,fun a0 n0=>?_⟩
   have s0:=aB (o:=.lst [.str "add",.str "less",.str "add"]) n0
   have D0:=D3.keep s0
   have c0:=s3.trans (D3.cut s0)
   refine⟨_,rfl,_,rfl,d.S,_,2,_,rfl,rfl,D0.seqS,aM (j:=2) rfl,.ref d.O,os2.length,rfl,.inl ⟨_,bK.of D0.opens,by simp⟩,c,(os2.length:Int),rfl,_,_,rfl,rfl,by show(0:Int) <3;decide,?_⟩
   obtain⟨i,ei,hi⟩:=Xz (cJ c (os2.length:Int))
   refine⟨a0,_,_,_,rfl,rfl,bK.of ao,ei,?_⟩
   generalize upd H3 a0 (.lst [.str "add",.str "less",.str "add"])=H0 at s0 D0 c0 ⊢
   obtain⟨xs,eP,aP⟩:=D0.parts
   have xl:=aP.length
   have hN:([]:List Int).length=cN i:=by rcases hi with rfl | rfl <;> rfl
   have hI:[one,other].length=cI i:=by rcases hi with rfl | rfl <;> rfl
   have hO:1=cO i:=by rcases hi with rfl | rfl <;> rfl
   subst hu
   refine⟨_,rfl,_,rfl,_,rfl,d.S,_,1,_,rfl,rfl,D0.seqS,aM (j:=1) rfl,.ref d.P,ps1.length,rfl,.inl ⟨_,bK.of eP,xl.symm⟩,_,_,rfl,rfl,_,_,rfl,?_⟩
   refine⟨_,rfl,jt,fun a1 n1=>⟨_,rfl,_,rfl,jt,fun a2 n2=>?_⟩⟩
   obtain⟨D9,z1,z2,z3⟩:=D0.two n1 n2 (y:=.lst [.str one,.str other])
   refine⟨d,_,_,os2,_,i,a1,a2,[],[one,other],1,rfl,D9,z1,z2,by omega,hN,by simp,hI,hO,by omega,by omega,by omega,fun newl H8 hn s8 D8=>?_⟩
   have w8:=sU w1 rfl D8 (.refl _) (by omega) (by rw [lP];omega)
   subst hD
   refine⟨⟨_,_,_,_,_,_,rfl,c0.trans (z3.trans s8),D8,w8,?_,?_,?_,?_,?_⟩,?_⟩
   ·rw [lP,lM];omega
   ·rw [lP,lM];omega
   ·rw [lP];omega
   ·rw [lP,lP,lM];omega
   ·rw [lP,lP,lM,List.length_singleton];omega
   ·rw [KC D8.opens,lm,lM,lM,lP,lM,List.length_cons,List.length_cons]
    omega
  ·have h3:os1.length=1:=by
    have:¬(1:Int) <(os1.length:Int):=fun z=>h3 (decide_eq_true z)
    omega
   obtain⟨y,rfl⟩:=List.length_eq_one_iff.mp h3
   refine dI (v:=u) hu fun u hu=>?_
   refine⟨_,rfl,B,rfl,⟨_,bK.of (bu _ _ (s1 _ _ eB))⟩,?_⟩
   refine d8 (K:=K) (a:=B) (xs:=back.map V.str) (fun j σ H2=>∃(ls2:List aG) (ps2:List PD) (y:Str) (u3 u6 u7:Option V),σ=[some (.ref d.S),some (.int c),some (.ref B),u3,v4,v5,u6,u7]/\aJ (aX d.E H) (aX d.E H2)/\pF d H2 ls2 ps2 [y]/\Drawn.WF (u5 ls2 ps2 [y] (back.drop j))/\ls.length<=ls2.length/\ls2.length<=15+j/\ps2.length<=13+j) ⟨ls1,ps1,y,v3,none,none,rfl,s1,D1,w1,hl1,by have z:=hl2;rw [List.length_singleton] at z;omega,by have z:=hp2;rw [List.length_singleton] at z;omega⟩ (fun j σ H2 _ ⟨ls2,ps2,y,u3,u6,u7,e,s2,h⟩=>bK.of (bu _ _ (s2 _ _ eB))) ?_ ?_
   ·rintro j x σ H2 hx ⟨ls2,ps2,y2,u3,u6,u7,rfl,s2,D2,w2,hl2',hl3,hp3⟩
    rw [List.getElem?_map] at hx
    obtain⟨bn,hbn,rfl⟩:=Option.map_eq_some_iff.mp hx
    have hj:j <back.length:=by
     rcases Nat.lt_or_ge j back.length with h | h
     ·exact h
     ·rw [List.getElem?_eq_none h] at hbn;cases hbn
    have hdr:back.drop j=bn:: back.drop (j+1):=by
     rw [List.drop_eq_getElem_cons hj]
     rw [List.getElem?_eq_getElem hj,Option.some.injEq] at hbn
     rw [hbn]
    refine RM fun De hD u hu=>?_
    refine⟨_,rfl,d.S,_,2,_,rfl,rfl,D2.seqS,aM (j:=2) rfl,.inl ⟨rfl,_,bK.of D2.opens⟩,d.O,_,.str y2,rfl,rfl,D2.opens,rfl,?_⟩
    have D3:=D2.open (os':=[])
    have c3:aX d.E (upd H2 d.O (.lst (([]:List Str).map V.str)))=aX d.E H2:=eU (by simp)
    refine dI (v:=u) hu fun u hu=>?_
    change zr _ _ _ _ (upd H2 d.O (.lst (([]:List Str).map V.str)))
    generalize upd H2 d.O (.lst (([]:List Str).map V.str))=H3 at D3 c3 ⊢
    obtain⟨xs,eP,aP⟩:=D3.parts
    have xl:=aP.length
    refine⟨_,rfl,_,rfl,_,rfl,d.S,_,1,_,rfl,rfl,D3.seqS,aM (j:=1) rfl,.ref d.P,ps2.length,rfl,.inl ⟨_,bK.of eP,xl.symm⟩,_,_,rfl,rfl,_,_,rfl,d,ls2,ps2,[],_,false,rfl,D3,by omega,fun l H4 _ s4 D4=>?_⟩
    rw [c3] at s4
    have s24:=s2.trans s4
    obtain⟨xs4,eP4,aP4⟩:=D4.parts
    have xl4:=aP4.length
    refine dI (v:=u) hu fun u hu=>?_
    refine⟨_,rfl,d.S,_,1,_,rfl,rfl,D4.seqS,aM (j:=1) rfl,.inl ⟨rfl,_,bK.of eP4⟩,?_⟩
    refine⟨_,rfl,d.S,_,4,_,rfl,rfl,D4.seqS,aM (j:=4) rfl,?_⟩
    refine⟨_,rfl,d.S,_,1,_,rfl,rfl,D4.seqS,aM (j:=1) rfl,.ref d.P,ps2.length,rfl,.inl ⟨_,bK.of eP4,xl4.symm⟩,?_⟩
    refine⟨d.c4,ps2.length,rfl,by omega,fun H5 s5=>?_⟩
    have D5:=D4.keep s5
    have c5:=s24.trans (D4.cut s5)
    have eP5:=s5 _ _ eP4
    refine⟨jt,fun a1 n1=>⟨_,rfl,jt,fun a2 n2=>⟨_,rfl,_,rfl,jt,fun a3 n3=>⟨jt,fun q nq=>?_⟩⟩⟩⟩
    obtain⟨D6,z1,z2,z3⟩:=D5.two n1 n2 (y:=.lst [.str y2])
    have t6:aJ H5 (upd (upd H5 a1 (.lst [])) a2 (.lst [.str y2])):=(aB n1).trans (aB n2)
    have eP6:=t6 _ _ eP5
    generalize upd (upd H5 a1 (.lst [])) a2 (.lst [.str y2])=H6 at D6 z1 z2 z3 t6 eP6 n3 nq ⊢
    obtain⟨D7,y1,y2',y3⟩:=D6.two n3 nq (y:=.tup [.str "copy",.str (dw d.c4 ps2.length),.ref a1,.ref a2,.ref a3])
    have t7:aJ H6 (upd (upd H6 a3 (.lst [.str bn,.str l.name])) q (.tup [.str "copy",.str (dw d.c4 ps2.length),.ref a1,.ref a2,.ref a3])):=(aB n3).trans (aB nq)
    have eP7:=t7 _ _ eP6
    generalize upd (upd H6 a3 (.lst [.str bn,.str l.name])) q (.tup [.str "copy",.str (dw d.c4 ps2.length),.ref a1,.ref a2,.ref a3])=H7 at D7 y1 y2' y3 t7 eP7 ⊢
    have c7:=c5.trans (z3.trans y3)
    refine⟨d.P,xs4,_,rfl,rfl,eP7,by omega,?_⟩
    have D8:=D7.part (p:=⟨3,dw d.c4 ps2.length,[],[y2],[bn,l.name]⟩) ⟨q,a1,a2,a3,rfl,y2',y3 _ _ z1,y3 _ _ z2,y1⟩ ⟨by show 3 <11;omega,rfl,rfl,rfl,by simp⟩ rfl eP7
    have c8:aX d.E (upd H7 d.P (.lst (xs4 ++ [.ref q])))=aX d.E H7:=eU (by simp)
    generalize upd H7 d.P (.lst (xs4 ++ [.ref q]))=H8 at D8 c8 ⊢
    subst hu
    refine⟨_,rfl,d.S,_,2,_,rfl,rfl,D8.seqS,aM (j:=2) rfl,.inl ⟨rfl,_,bK.of D8.opens⟩,_,rfl,d.O,_,_,rfl,rfl,D8.opens,by simp;omega,?_⟩
    have D9:=D8.open (os':=[l.name])
    have nd:=D9.nod (by rw [lP,List.length_singleton];omega)
    rw [hdr] at w2
    have wc:=w2.closeBack (p:=⟨3,dw d.c4 ps2.length,[],[y2],[bn,l.name]⟩) (rest:=back.drop (j+1)) (one:=y2) (b:=bn) (fresh:=l.name) rfl rfl (.refl _) rfl (by simpa using nd)
    subst hD
    exact⟨ls2 ++ [l],_,l.name,_,_,_,rfl,by rw [eU (by simp),c8];exact c7,D9,by simpa [u5] using wc,by rw [lP];omega,by rw [lP,List.length_singleton];omega,by rw [lP,List.length_singleton];omega⟩
   rintro σ H2 ⟨ls2,ps2,y2,u3,u6,u7,rfl,s2,D2,w2,hl2',hl3,hp3⟩
   rw [lM] at w2 hl3 hp3
   rw [List.drop_length] at w2
   subst hu
   refine⟨_,rfl,_,rfl,jt,fun a3 n3=>?_⟩
   have t3:=aB (o:=.lst []) n3
   have D3:=D2.keep t3
   have c3:=s2.trans (D2.cut t3)
   have o3:=D2.out n3
   have e3:=bH (ao (H:=H2) (a:=a3) (o:=.lst ([]:List V))) o3
   generalize upd H2 a3 (.lst [])=H3 at t3 D3 c3 e3 ⊢
   refine⟨_,rfl,d.S,_,2,_,rfl,rfl,D3.seqS,aM (j:=2) rfl,.inl ⟨rfl,_,bK.of D3.opens⟩,d.O,_,.str y2,rfl,rfl,D3.opens,rfl,?_⟩
   have D4:=D3.open (os':=[])
   have c4:aX d.E (upd H3 d.O (.lst (([]:List Str).map V.str)))=aX d.E H3:=eU (by simp)
   rw [show([y2].map V.str).dropLast=([]:List Str).map V.str from rfl]
   refine⟨jt,fun a4 n4=>?_⟩
   generalize upd H3 d.O (.lst (([]:List Str).map V.str))=H4 at D4 c4 n4 ⊢
   have s5:=aB (o:=.lst [.str y2]) n4
   have D5:=D4.keep s5
   have c5:=D4.cut s5
   rw [c4] at c5
   have e5:=bH (E:=d.E) (H:=upd H4 a4 (.lst [.str y2])) ao (D4.out n4)
   refine⟨d,ls2,ps2,[],_,1,a3,a4,[],[y2],0,rfl,D5,c5 _ _ e3,e5,by omega,rfl,by simp,rfl,rfl,by omega,by omega,by simp,fun newl2 H9 hn2 s9 D9=>?_⟩
   have hz:newl2=[]:=List.length_eq_zero_iff.mp hn2
   subst hz
   rw [List.map_nil,List.append_nil,List.append_nil] at D9
   obtain⟨x1,x2,x3⟩:=w2.last (p:=⟨1,dw d.c4 ps2.length,[],[y2],[]⟩) (y:=y2) rfl rfl rfl rfl
   exact k ls2 _ H9 (c3.trans (c5.trans s9)) D9 ⟨w2.nod,x1,x2,y2,x3⟩ (by omega) hl2' (by rw [lP,List.length_singleton];omega) (by rw [lP,List.length_singleton];omega)
 ·intro σ H' Q' Q'' hm hq
  obtain⟨x1,x2,x3,x4,x5,x6,x7,x8,x9,x10,x11,x12,x13,x14,x15,x16,x17,x18,x19,x20,q⟩:=hq
  exact⟨x1,x2,x3,x4,x5,x6,x7,x8,x9,x10,x11,x12,x13,x14,x15,x16,x17,x18,x19,x20,hm _ _ q⟩
inductive Ca (K:PySem.W.Frag) (vs:List V) (H:Hp) (Q:VK) (E:XK):Prop where
 | mk:∀(a:Addr) (ns:List Int) (start steps:Nat) (odd:Bool),vs=[.ref a,.int (start:Nat),.int (steps:Nat),.bl odd]->bK K H a (ns.map V.int)->steps<=4->(∀(T L P:Addr) (ls:List aG) (ps:List PD) (H':Hp),aJ H H'->H L=none->H P=none->L≠P->H' T=some (.tup [.ref L,.ref P])->BV H' L P ls ps->Sq (jU ns start) (jU ns (start+1)) ls ps->Q (.ref T) H')->Ca K vs H Q E
noncomputable abbrev CV:List Str:=["_law_script", "_law_start", "_law_steps", "_law_odd", "_law_one", "_law_other", "_law_state", "_law_k", "_law_back", "_law_at"]
theorem KD (T:Txt w K mg t):FO P w K mg base 7 t.En ["_law_script", "_law_start", "_law_steps", "_law_odd"] (Ca K):=by
 have sc:=T.yh.sc CV
 refine T.yh.F.ok sc ln (fun _ _ _ _ H vs Q E hr h=>?_)
 obtain⟨a,ns,start,steps,odd,rfl,hS,hst,k⟩:=h
 refine⟨_,(az (sN sc 4 (fj (iU T) T.gA hr (aa (pv 0) (aa (pv 1) ak aj) aj)))
  (az (sN sc 5 (fj (iU T) T.gA hr (aa (pv 0) (aa (bA eQ (pv 1) au) ak cg) aj)))
  (az (sN sc 6 (bM (aa (bM ak) (aa (bM ak) (aa (bM ak) (aa (pv 4) (aa (pv 5) ak aj) aj) bj) bj) bj)))
  (az (d7 PassesOwn.never rfl (j9 rfl T.pG (aa (bA eQ au (bA cH (fj (bz T) T.bC hr (aa (pv 4) (aa au ak aq) aj)) au)) ak cg)) (gN sc 7)
   (aA (bN (fj (dm T) T.cX hr (aa (pv 6) (aa (fj (bz T) T.bC hr (aa (pv 5) (aa (pv 7) ak aj) aj)) (aa bW (aa (bM ak) (aa (bM ak) (aa au ak aq) bj) bj) aq) aO) aj)))))
  (az (jg (i:=8) [5,6] CV (bc (top 75)) rfl sc.nd rfl (j9 rfl T.pG (aa (bA cH (fj (bz T) T.bC hr (aa (pv 4) (aa au ak aq) aj)) au) ak cg)) (fun _ _ _ _ _=>f9) (fun _ _ _ _ _=>(fj (lG T) T.jy hr (aa (pv 2) (aa (fj (bz T) T.bC hr (aa (pv 1) (aa (bA eQ au (pv 0)) ak cg) aj)) (aa lH ak aq) aO) aj))))
  (az (bN (Er PySem.F.plainAttrs_list PySem.F.slot_list_extend PySem.F.type_list_extend Hj (bf bw (pv 6) au (fun _ _=>rfl)) (aa (pv 8) ak aj)))
  (az (d7 PassesOwn.never rfl (j9 rfl T.pG (aa (pv 2) ak aj)) (gN sc 7)
   (aA (bN (fj (HR T) T.vz hr (aa (pv 6) (aa (fj (iU T) T.gA hr (aa (pv 0) (aa (bA eQ (bA eQ (pv 1) au) (pv 7)) ak cg) aj)) (aa (pv 3) ak aj) aO) aj)))))
  (az (bN (fj (DR T) T.rH hr (aa (pv 6) (aa (pv 5) (aa (pv 8) ak aj) aj) aj)))
  (az (sN sc 9 (bA cH (fj (bz T) T.bC hr (aa (pv 4) (aa au ak aq) aj)) (bG cz (by rfl) T.gh dY (aa (bf bw (pv 6) au (fun _ _=>rfl)) ak aF))))
  (aA (aN (cB (aa (bf bw (pv 6) au (fun _ _=>rfl)) (aa (bA RC (ji mQ (bf bw (pv 6) au (fun _ _=>rfl)) (jK (pv 9)) kZ) (ji mQ (bf bw (pv 6) au (fun _ _=>rfl)) kZ (jK (pv 9)))) ak cg) aF))))))))))))),?_⟩
 have hl:sizeLine=16777216:=sizeLine_eq
 refine hide fun u hu=>?_
 refine⟨_,rfl,_,rfl,a,ns,start,rfl,hS,?_⟩
 refine dI (v:=u) hu fun u hu=>?_
 refine⟨_,rfl,_,rfl,_,_,rfl,rfl,a,ns,start+1,rfl,hS,?_⟩
 refine dI (v:=u) hu fun u hu=>?_
 refine⟨jt,fun L nL=>⟨jt,fun P' nP=>⟨jt,fun O nO=>⟨_,rfl,_,rfl,jt,fun S nS=>?_⟩⟩⟩⟩
 obtain⟨D1,s1,nP0⟩:=pF.init (jU ns start) (jU ns (start+1)) nL nP nO nS
 have nLP:L≠P':=D1.ne.1
 refine dI (v:=u) hu fun u hu=>?_
 change zr _ _ _ [some (.ref a),some (.int (start:Nat)),some (.int (steps:Nat)),some (.bl odd),some (.int (jU ns start)),some (.int (jU ns (start+1))),some (.ref S),none,none,none] (upd (upd (upd (upd H L (.lst [])) P' (.lst [])) O (.lst [])) S (.lst [.ref L,.ref P',.ref O,.int (jU ns start),.int (jU ns (start+1))]))
 generalize upd (upd (upd (upd H L (.lst [])) P' (.lst [])) O (.lst [])) S (.lst [.ref L,.ref P',.ref O,.int (jU ns start),.int (jU ns (start+1))])=H1 at D1 s1 ⊢
 obtain⟨d,hd⟩:∃d:Dw,d=⟨S,L,P',O,jU ns start,jU ns (start+1)⟩:=⟨_,rfl⟩
 rw [<-hd] at D1
 have hE:[L,P',O]=d.E:=by rw [hd]
 have hSd:S=d.S:=by rw [hd]
 have hLd:L=d.L:=by rw [hd]
 have hc3:jU ns start=d.c3:=by rw [hd]
 have hc4:jU ns (start+1)=d.c4:=by rw [hd]
 rw [hE] at s1
 rw [hLd] at nL nLP
 rw [hc3,hc4] at k
 rw [hSd,hc3,hc4]
 clear hd hE nP nO nS
 have g0:=Int.emod_nonneg (cJ d.c3 5) (show(2:Int)≠0 by decide)
 have g1:=Int.emod_lt_of_pos (cJ d.c3 5) (show(0:Int) <2 by decide)
 refine⟨_,rfl,_,_,rfl,_,_,rfl,rfl,by show(0:Int) <2;decide,_,_,rfl,rfl,1+cJ d.c3 5 % 2,rfl,by omega,by omega,?_⟩
 obtain⟨g,hg,hg1,hg2⟩:∃g:Nat,(1+cJ d.c3 5 % 2).toNat=g/\1<=g/\g<=2:=⟨_,rfl,by omega,by omega⟩
 rw [hg]
 refine Gu (fun j σ H2=>∃(ls:List aG) (ps:List PD) (os:List Str) (v7:Option V),σ=[some (.ref a),some (.int (start:Nat)),some (.int (steps:Nat)),some (.bl odd),some (.int d.c3),some (.int d.c4),some (.ref d.S),v7,none,none]/\aJ (aX d.E H1) (aX d.E H2)/\pF d H2 ls ps os/\Drawn.WF (u5 ls ps os [])/\ls.length=j/\ps.length=j/\os.length=j) ⟨[],[],[],none,rfl,aJ.refl _,D1,Drawn.WF.start,rfl,rfl,rfl⟩ ?_ ?_
 ·rintro j σ H2 hj ⟨ls,ps,os,v7,rfl,s2,D2,w2,h1,h2,h3⟩
  refine Vr fun De hD=>?_
  refine⟨_,rfl,_,rfl,_,rfl,_,_,rfl,jt,fun a1 n1=>⟨jt,fun a2 n2=>?_⟩⟩
  obtain⟨D9,z1,z2,z3⟩:=D2.two n1 n2 (y:=.lst [])
  refine⟨d,ls,ps,os,_,0,a1,a2,[],[],1,rfl,D9,z1,z2,by omega,rfl,by simp,rfl,rfl,by omega,by omega,by omega,fun newl H8 hn s8 D8=>?_⟩
  have w8:=sU w2 rfl D8 (.refl _) (by omega) (by rw [lP];omega)
  subst hD
  exact⟨_,_,_,_,rfl,s2.trans (z3.trans s8),D8,w8,by rw [lP];omega,by rw [lP,List.length_singleton];omega,by rw [lP,lM];omega⟩
 rintro σ H2 ⟨ls,ps,os,v7,rfl,s2,D2,w2,h1,h2,h3⟩
 have b0:=Int.emod_nonneg (cJ d.c3 6) (show(3:Int)≠0 by decide)
 have b1:=Int.emod_lt_of_pos (cJ d.c3 6) (show(0:Int) <3 by decide)
 refine dI (v:=u) hu fun u hu=>?_
 refine⟨_,rfl,_,_,rfl,_,_,rfl,rfl,by show(0:Int) <3;decide,cJ d.c3 6 % 3,rfl,by omega,by omega,?_⟩
 obtain⟨nb,hnb,hnb2⟩:∃nb:Nat,(cJ d.c3 6 % 3).toNat=nb/\nb<=2:=⟨_,rfl,by omega⟩
 rw [hnb]
 refine lN (fun j ys H3=>∃(ls3:List aG) (bl:List Str),ys=bl.map V.str/\bl.length=j/\aJ (aX d.E H1) (aX d.E H3)/\pF d H3 ls3 ps os/\Drawn.WF (u5 ls3 ps (os ++ bl) bl)/\ls3.length=g+j) (by omega) ⟨ls,[],rfl,rfl,s2,D2,by rw [List.append_nil];exact w2,by omega⟩ (fun j ys H3 ⟨_,bl,e,e2,_⟩=>by rw [e,lM];omega) ?_ ?_
 ·rintro j ys H3 hj ⟨ls3,bl,rfl,hb,s3,D3,w3,h4⟩
  refine yes ⟨_,rfl,_,rfl,_,rfl,_,_,rfl,rfl,_,_,rfl,d,ls3,ps,os,_,true,rfl,D3,by omega,fun l H4 _ s4 D4=>?_⟩
  have nd:=D4.nod (by rw [lP,List.length_singleton];omega)
  have wb:=w3.backLane (b:=l.name) (by simpa using nd)
  exact⟨ls3 ++ [l],bl ++ [l.name],by simp,by simp [hb],s3.trans s4,D4,by simpa [u5] using wb,by rw [lP,List.length_singleton];omega⟩
 rintro ys H3 ⟨ls3,bl,rfl,hbl,s3,D3,w3,h4⟩ B nB
 have t4:=aB (o:=.lst (bl.map V.str)) nB
 have D4:=D3.keep t4
 have s4:=s3.trans (D3.cut t4)
 have eB:=bH (ao (H:=H3) (a:=B) (o:=.lst (bl.map V.str))) (D3.out nB)
 generalize upd H3 B (.lst (bl.map V.str))=H4 at t4 D4 s4 eB ⊢
 refine dI (v:=u) hu fun u hu=>?_
 refine⟨_,rfl,d.S,_,2,_,rfl,rfl,D4.seqS,aM (j:=2) rfl,.inl ⟨rfl,_,bK.of D4.opens⟩,_,rfl,d.O,B,_,_,rfl,rfl,D4.opens,bu _ _ eB,by rw [lM,lM];omega,?_⟩
 rw [<-List.map_append]
 have D5:=D4.open (os':=os ++ bl)
 have c5:aX d.E (upd H4 d.O (.lst ((os ++ bl).map V.str)))=aX d.E H4:=eU (by simp)
 generalize upd H4 d.O (.lst ((os ++ bl).map V.str))=H5 at D5 c5 ⊢
 rw [<-c5] at s4 eB
 refine dI (v:=u) hu fun u hu=>?_
 refine⟨_,rfl,(steps:Int),rfl,by omega,by omega,?_⟩
 rw [Int.toNat_natCast]
 refine Gu (fun j σ H6=>∃(ls6:List aG) (ps6:List PD) (os6:List Str) (v7:Option V),σ=[some (.ref a),some (.int (start:Nat)),some (.int (steps:Nat)),some (.bl odd),some (.int d.c3),some (.int d.c4),some (.ref d.S),v7,some (.ref B),none]/\aJ (aX d.E H5) (aX d.E H6)/\pF d H6 ls6 ps6 os6/\Drawn.WF (u5 ls6 ps6 os6 bl)/\1<=ls6.length/\ls6.length<=4+2 * j/\ps6.length<=2+2 * j/\os6≠[]/\os6.length<=4) ⟨ls3,ps,os ++ bl,v7,rfl,aJ.refl _,D5,w3,by omega,by omega,by omega,by intro z;have:=congrArg List.length z;rw [lP,List.length_nil] at this;omega,by rw [lP];omega⟩ ?_ ?_
 ·rintro j σ H6 hj ⟨ls6,ps6,os6,u7,rfl,s6,D6,w6,l0,l6,p6,o0,o6⟩
  have hS6:bK K H6 a (ns.map V.int):=bu.seq ((s1.trans (s4.trans s6)).seq hS)
  refine Vr fun De hD=>?_
  refine⟨_,rfl,_,rfl,_,rfl,_,_,rfl,rfl,_,rfl,_,_,rfl,rfl,a,ns,start+2+(0+j),rfl,hS6,_,rfl,d,ls6,ps6,os6,_,bl,odd,rfl,D6,w6,o0,o6,by omega,by omega,fun ls' ps' os' H' X=>?_⟩
  subst hD
  exact⟨ls',ps',os',_,rfl,s6.trans X.cut,X.at',X.wf,by have h1:=X.wf.ins.length_eq;have h2:=X.o1;rw [lP,lM] at h1;change _+os'.length=_ at h1;omega,by have:=X.l2;omega,by have:=X.p2;omega,by intro z;have:=X.o1;rw [z] at this;simp at this,X.o4⟩
 rintro σ H6 ⟨ls6,ps6,os6,u7,rfl,s6,D6,w6,l0,l6,p6,o0,o6⟩
 refine dI (v:=u) hu fun u hu=>?_
 refine⟨_,rfl,_,rfl,_,rfl,d,ls6,ps6,os6,_,B,bl,rfl,D6,w6,s6 _ _ eB,o0,o6,by omega,by omega,by omega,fun ls7 ps7 H7 s7 D7 W7 l17 l7 p16 p1=>?_⟩
 obtain⟨xsL,eL,aL⟩:=D7.lanes
 obtain⟨xsP,eP,aP⟩:=D7.parts
 have xl:=aP.length
 refine dI (v:=u) hu fun u hu=>?_
 refine⟨_,rfl,_,_,rfl,_,rfl,d.S,_,1,_,rfl,rfl,D7.seqS,aM (j:=1) rfl,.ref d.P,ps7.length,rfl,.inl ⟨_,bK.of eP,xl.symm⟩,cJ d.c3 7,(ps7.length:Int),rfl,rfl,by omega,?_⟩
 have r0:=Int.emod_nonneg (cJ d.c3 7) (show(ps7.length:Int)≠0 by omega)
 obtain⟨r,hr'⟩:∃r:Nat,cJ d.c3 7 % (ps7.length:Int)=(r:Int):=⟨_,(Int.toNat_of_nonneg r0).symm⟩
 dsimp only
 rw [hr']
 subst hu
 refine⟨_,rfl,d.S,_,0,_,rfl,rfl,D7.seqS,aM (j:=0) rfl,?_⟩
 refine⟨_,rfl,d.S,_,1,_,rfl,rfl,D7.seqS,aM (j:=1) rfl,?_⟩
 refine⟨_,rfl,_,rfl,d.P,_,rfl,bK.of eP,fun q1 m1=>?_⟩
 rw [O1]
 have t1:=aB (o:=.lst (xsP.drop r)) m1
 have f1:upd H7 q1 (.lst (xsP.drop r)) q1=some (.lst (xsP.drop r)):=ao
 have D8:=D7.keep t1
 have eP8:=t1 _ _ eP
 have eL8:=t1 _ _ eL
 generalize upd H7 q1 (.lst (xsP.drop r))=H8 at t1 f1 D8 eP8 eL8 ⊢
 refine⟨_,rfl,d.S,_,1,_,rfl,rfl,D8.seqS,aM (j:=1) rfl,_,rfl,_,rfl,d.P,_,rfl,bK.of eP8,fun q2 m2=>?_⟩
 rw [Ua]
 have t2:=aB (o:=.lst (xsP.take r)) m2
 have f2:upd H8 q2 (.lst (xsP.take r)) q2=some (.lst (xsP.take r)):=ao
 have f12:=t2 _ _ f1
 have eL9:=t2 _ _ eL8
 generalize upd H8 q2 (.lst (xsP.take r))=H9 at t2 f2 f12 eL9 ⊢
 refine⟨q1,q2,_,_,rfl,rfl,f12,f2,by rw [List.length_drop,List.length_take];omega,fun q3 m3=>?_⟩
 have t3:=aB (o:=.lst (xsP.drop r ++ xsP.take r)) m3
 have f3:upd H9 q3 (.lst (xsP.drop r ++ xsP.take r)) q3=some (.lst (xsP.drop r ++ xsP.take r)):=ao
 have eLA:=t3 _ _ eL9
 generalize upd H9 q3 (.lst (xsP.drop r ++ xsP.take r))=HA at t3 f3 eLA ⊢
 refine⟨jt,fun T' nT=>?_⟩
 have t4:=aB (o:=.tup [.ref d.L,.ref q3]) nT
 have sA:aJ H7 (upd HA T' (.tup [.ref d.L,.ref q3])):=t1.trans (t2.trans (t3.trans t4))
 have s17:aJ H (aX d.E H7):=s1.trans (s4.trans (s6.trans s7))
 have s07:aJ H H7:=s17.trans bu
 have free3:H q3=none:=s07.free (t1.free (t2.free m3))
 have cA:aJ (aX d.E H7) (upd HA T' (.tup [.ref d.L,.ref q3])):=bu.trans sA
 have nq:d.L≠q3:=aD eL9 m3
 have rp:=Qx ps7 r
 refine k T' d.L q3 ls7 (ps7.drop r ++ ps7.take r) _ (s07.trans sA) nL free3 nq ao ⟨⟨xsL,t4 _ _ eLA,aL.imp fun _ _ h=>h.same cA⟩,⟨_,t4 _ _ f3,((aP.drop r).app (aP.take r)).imp fun _ _ h=>h.same cA⟩⟩ ⟨D7.lok,fun p hp=>D7.pok p (rp.mem_iff.mpr hp),D7.ln,?_,W7.perm rp,by omega,l17,by rw [<-rp.length_eq];exact p1,by rw [<-rp.length_eq];exact p16⟩
 rw [<-rp.length_eq,<-D7.pn]
 exact rp.map _
inductive Dr (K:PySem.W.Frag) (vs:List V) (H:Hp) (Q:VK) (E:XK):Prop where
 | mk:∀x,vs=[x]->(((∃z:Str,x=.str z/\z.length<=100/\∀H',aJ H H'->Q (.bl (nameB z)) H')∨∃Tx,YQ K H x Tx/\Tx∈qR/\Tx≠ "str" /\Q (.bl false) H))->Dr K vs H Q E
theorem MJ (T:Txt w K mg t):FO P w K mg base 1 t.GQ ["thing"] (Dr K):=by
 have sc:=T.Ah.sc ["thing"]
 refine T.Ah.F.ok sc ln (fun _ _ _ _ H vs Q E hr h=>?_)
 obtain⟨x,rfl,h⟩:=h
 refine⟨_,(az (cC (PW.pt (wB (lV (lg (bG zQ (by rfl) T.pq mD (aa (pv 0) (aa (CJ (by rfl) T.Vm QT) ak aj) aj)))) (qm (lV (zW wY wY au (bG cz (by rfl) T.gh dY (aa (pv 0) ak aj)) (jV (by rfl) T.Ft))))))
   (aA (aN lH))
   bL)
  (aA (aN (yq (uq Ad (bf Dp (pv 0) au (fun _ _=>rfl)) (jV (by rfl) T.Hz) (by with_unfolding_all rfl)) (yd (bG (yO rfl) (by rfl) T.Oa Il (aa (gZ [] ["thing"] (bc (top 23)) rfl (Wo (pv 0)) (fun _ _ _ _ _=>f9) (fun _ _ _ _ _=>(X8 (uq Ad (pv 0) (jV (by rfl) T.Hz) (by with_unfolding_all rfl)) (yd (uq Ad (pv 0) (jV (by rfl) T.O9) (by with_unfolding_all rfl)))))) ak dX))))))),?_⟩
 have hl:sizeLine=16777216:=sizeLine_eq
 rcases h with ⟨z,rfl,hz,k⟩ | ⟨Tx,ty,hm,hne,k⟩
 ·refine⟨_,rfl,.str z, "str", "str",true,rfl,rfl,by decide,by decide,_,rfl,fu ?_⟩
  refine⟨_,rfl,.str z,z.length,rfl,⟨by omega,rfl⟩,_,_,rfl,rfl,_,rfl,?_⟩
  cases e:z.cps.toList with
  | nil=>
   have h0:z.length=0:=by rw [<-pO,e];rfl
   rw [h0]
   refine fu ⟨_,rfl,kJ ?_⟩
   have:=k H (aJ.refl _)
   unfold nameB at this
   rw [e] at this
   exact this
  | cons c r=>
   have hlen:z.length=r.length+1:=by rw [<-pO,e];rfl
   refine yf (by omega) ⟨_,_,rfl,rfl,_,rfl,kO (fun h=>?_) (fun h=>?_)⟩
   ·have h8:¬(z.length:Int)<=8:=by simpa using h
    have:=k H (aJ.refl _)
    unfold nameB at this
    rw [e] at this
    simp only [show ¬r.length<=7 by omega,decide_false,Bool.false_and] at this
    exact this
   ·have h8:(z.length:Int)<=8:=by simpa using h
    have hc0:J0 z.cps.toList 0=some c:=by rw [e];exact aM (xs:=c:: r) (j:=0) rfl
    refine⟨_,rfl,z,_,c,rfl,rfl,by omega,hc0,_,_,rfl,rfl,_,rfl,?_⟩
    have kk:∀H',aJ H H'->Q (.bl (low c && z.cps.toList.all fun d=>low d || MP d)) H':=fun H' s'=>by
     have:=k H' s'
     unfold nameB at this
     rw [e] at this ⊢
     simp only [show r.length<=7 by omega,decide_true,Bool.true_and] at this
     exact this
    rw [Qv]
    refine kO (fun hc=>?_) (fun hc=>?_)
    ·rw [hc,Bool.true_and] at kk
     refine⟨_,rfl,z,rfl,Sg (fun i ys H'=>H'=H/\ys=((z.cps.toList.take i).map fun d=>low d || MP d).map V.bl) (by simp only [Str.length] at hz;omega) ⟨rfl,by simp⟩ (fun i ys H' ⟨_,e⟩=>by rw [e];simp only [lM,List.length_take];omega) ?_ ?_⟩
     ·rintro i d ys H' hd ⟨rfl,rfl⟩
      refine yes ⟨_,rfl,_,_,rfl,rfl,_,rfl,?_⟩
      have hd':z.cps.toList[i]?=some d:=by simpa using hd
      have next:∀b,b=(low d || MP d)->(((z.cps.toList.take i).map fun d=>low d || MP d).map V.bl) ++ [V.bl b]=((z.cps.toList.take (i+1)).map fun d=>low d || MP d).map V.bl:=fun b hb=>by
       rw [List.take_add_one,hd',hb]
       simp
      rw [Qv]
      refine kO (fun hl'=>?_) (fun hl'=>?_)
      ·exact⟨rfl,next true (by rw [hl'];rfl)⟩
      ·have hl2:low d=false:=by simpa using hl'
       refine⟨_,rfl,_,_,rfl,rfl,rfl,next _ ?_⟩
       rw [Xa,hl2,Bool.false_or]
     ·rintro ys H' ⟨rfl,rfl⟩ D hD
      refine⟨D,(z.cps.toList.take z.cps.size).map fun d=>low d || MP d,rfl,bK.of ao,?_⟩
      have hall:((z.cps.toList.take z.cps.size).map fun d=>low d || MP d).all id=z.cps.toList.all fun d=>low d || MP d:=by
       rw [List.take_of_length_le (by simp),List.all_map]
       rfl
      rw [hall]
      exact kk _ (aB hD)
    ·have hc':low c=false:=by simpa using hc
     rw [hc',Bool.false_and] at kk
     exact kk H (aJ.refl _)
 ·have hb:KN Tx "str" =false:=by
   simp only [qR,List.mem_cons,List.not_mem_nil,or_false] at hm
   rcases hm with rfl | rfl | rfl | rfl | rfl | rfl | rfl <;> first | decide | exact absurd rfl hne
  exact⟨_,rfl,x,Tx, "str",false,rfl,ty,by decide,hb,_,rfl,kJ (kJ k)⟩
inductive uQ (K:PySem.W.Frag) (vs:List V) (H:Hp) (Q:VK) (E:XK):Prop where
 | mk:∀(a b:Addr) (xs ys:List V),vs=[.ref a,.ref b]->bK K H a xs->bK K H b ys->1<=xs.length->xs.length<=24->1<=ys.length->ys.length<=16->Q .non H->uQ K vs H Q E
theorem Dg (T:Txt w K mg t):FO P w K mg base 1 t.wV ["lanes", "parts"] (uQ K):=by
 have sc:=T.rT.sc ["lanes", "parts"]
 refine T.rT.F.ok sc ln (fun _ _ _ _ H vs Q E hr h=>?_)
 obtain⟨a,b,xs,ys,rfl,h1,h2,c1,c2,c3,c4,k⟩:=h
 refine⟨_,(az (cC (lV (zW wY wY au (bG cz (by rfl) T.gh dY (aa (pv 0) ak aj)) (jV (by rfl) T.HS)))
   (aA eY)
   bL)
  (aA (cC (lV (zW wY wY au (bG cz (by rfl) T.gh dY (aa (pv 1) ak aj)) (jV (by rfl) T.Je)))
   (aA eY)
   bL))),?_⟩
 have hl:sizeLine=16777216:=sizeLine_eq
 refine⟨_,rfl,.ref a,xs.length,rfl,.inl ⟨_,h1,rfl⟩,_,_,rfl,rfl,_,rfl,yf (by omega) ⟨_,_,rfl,rfl,_,rfl,?_⟩⟩
 rw [show decide ((xs.length:Int)<=24)=true from decide_eq_true (by omega)]
 refine fu ?_
 refine⟨_,rfl,.ref b,ys.length,rfl,.inl ⟨_,h2,rfl⟩,_,_,rfl,rfl,_,rfl,yf (by omega) ⟨_,_,rfl,rfl,_,rfl,?_⟩⟩
 rw [show decide ((ys.length:Int)<=16)=true from decide_eq_true (by omega)]
 exact fu k
inductive xJ (K:PySem.W.Frag) (vs:List V) (H:Hp) (Q:VK) (E:XK):Prop where
 | mk:∀(z:Str) (d:Addr) (kvs:List (Key×V)),vs=[.str z,.ref d]->H d=some (.dK kvs)->nameB z=true->z.length<=100->cD kvs (Sum.inr z)=none->(∀H',aJ H H'->Q .non H')->xJ K vs H Q E
theorem xN (T:Txt w K mg t):FO P w K mg base 2 t.yz ["name", "known"] (xJ K):=by
 have sc:=T.ph.sc ["name", "known"]
 refine T.ph.F.ok sc ln (fun _ _ _ _ H vs Q E hr h=>?_)
 obtain⟨z,d,kvs,rfl,hd,hz,hl,hv,k⟩:=h
 refine⟨_,(az (cC (lV (lg (fj (MJ T) T.Ah hr (aa (pv 0) ak aj))))
   (aA eY)
   bL)
  (aA (cC (j4 (Ax hr.u1 (pv 0) (pv 1)))
   (aA eY)
   bL))),?_⟩
 refine⟨_,rfl,.str z,rfl,.inl ⟨z,rfl,hl,fun H1 s1=>?_⟩⟩
 rw [hz]
 refine⟨_,rfl,fu ?_⟩
 refine⟨_,rfl,_,rfl,d,_,rfl,eE.k (k:=Sum.inr z) (s1 _ _ hd),?_⟩
 rw [hv]
 exact⟨_,rfl,fu (k _ s1)⟩
inductive zH (K:PySem.W.Frag) (vs:List V) (H:Hp) (Q:VK) (E:XK):Prop where
 | mk:∀(nm:V) (room:Int) (L:Addr) (ws:List Int),vs=[nm,.int room,.ref L]->yC K H L (ws.map V.int)->ws.length<=1000->((∀v∈ws,0<=v/\v <1000000000))->1<=room->(ws.length:Int)<=room->room<=199->(∀H',aJ H H'->Q .non H')->zH K vs H Q E
theorem JL (T:Txt w K mg t):FO P w K mg base 3 t.BL ["name", "room", "first"] (zH K):=by
 have sc:=T.vX.sc ["name", "room", "first"]
 refine T.vX.F.ok sc ln (fun _ _ _ _ H vs Q E hr h=>?_)
 obtain⟨nm,room,L,ws,rfl,hL,hw,hB,c1,c2,c3,k⟩:=h
 refine⟨_,(az (cC (PW.pt (wB (lV (lg (fj (Bt T) T.ux hr (aa (pv 1) ak aj)))) (qm (lV (zW wY wY (bG (Hs rfl) (by rfl) T.Qy Ms (aa au (aa (bG cz (by rfl) T.gh dY (aa (pv 2) ak aj)) ak aO) aq)) (pv 1) (jV (by rfl) T.K6))))))
   (aA eY)
   bL)
  (aA (cC (lV (lg (bG (yO rfl) (by rfl) T.Oa Il (aa (gZ [] ["name", "room", "first"] (bc (top 49)) rfl (VJ (b8 (pv 2)) (HY (pv 2))) (fun _ _ _ _ _=>f9) (fun _ _ _ _ _=>(fj (uZ T) T.pX hr (aa (pv 0) ak aj)))) ak dX))))
   (aA eY)
   bL))),?_⟩
 have hl:sizeLine=16777216:=sizeLine_eq
 have hlw:(ws.map V.int).length=ws.length:=lM ..
 refine⟨_,rfl,.int room, "int",true,rfl,rfl,by decide,by decide,true,rfl,fu ?_⟩
 refine⟨_,rfl,.ref L,(ws.map V.int).length,rfl,hL.len,_,_,rfl,_,rfl,_,_,rfl,rfl,_,rfl,yf ?_ ⟨_,_,rfl,rfl,_,rfl,?_⟩⟩
 ·split <;> omega
 rw [show decide (room<=199)=true from decide_eq_true c3]
 refine fu ?_
 refine Rp (a:=L) (xs:=ws.map V.int) ?_ hL (fun j ys=>ys=(List.replicate j true).map V.bl) (by rw [lM];omega) rfl (fun j ys e=>by rw [e];simp) (fun j x ys hx e=>?_) (fun ys e D hD=>?_)
 ·exact fun R r=>⟨_,rfl,r⟩
 ·subst e
  rw [List.getElem?_map] at hx
  obtain⟨n,hn,rfl⟩:=Option.map_eq_some_iff.mp hx
  obtain⟨n0,n1⟩:=hB n (List.mem_of_getElem? hn)
  refine yes ⟨_,rfl,.int n,rfl,.inl ⟨n,rfl,rfl,?_⟩⟩
  rw [decide_eq_true n0,decide_eq_true n1,List.replicate_succ']
  simp
 ·subst e
  refine⟨D,_,rfl,bK.of ao,_,rfl,?_⟩
  rw [show((List.replicate (ws.map V.int).length true).all id)=true by simp]
  exact fu (k _ (aB hD))
inductive xO (K:PySem.W.Frag) (t:jL) (vs:List V) (H:Hp) (Q:VK) (E:XK):Prop where
 | mk:∀(i:Nat) (nm:Str) (r d a1 a2 a3:Addr) (ns is os:List V) (kvs:List (Key×V)),vs=[.ref r,.ref d]->H r=some (.tup [.str (cT i),.str nm,.ref a1,.ref a2,.ref a3])->i<=10->H d=some (.dK kvs)->nameB nm=true->nm.length<=100->cD kvs (Sum.inr nm)=none->yC K H a1 ns->yC K H a2 is->yC K H a3 os->ns.length=cN i->is.length=cI i->os.length=cO i->((∀v∈ns,Val v))->(∀H' p,aJ H H'->H p=none->fL K t H' p i (.str nm) ns is os->Q (.ref p) H')->xO K t vs H Q E
theorem Ga (T:Txt w K mg t):FO P w K mg base 5 t.zb ["row", "known"] (xO K t):=by
 have sc:=T.tZ.sc ["row", "known"]
 refine T.tZ.F.ok sc ln (fun _ _ _ _ H vs Q E hr h=>?_)
 obtain⟨i,nm,r,d,a1,a2,a3,ns,is,os,kvs,rfl,hr1,hi,hd,hz,hl,hv,q1,q2,q3,l1,l2,l3,hV,k⟩:=h
 refine⟨_,(az (cC (lV (lg (fj (Ff T) T.wD hr (aa (bf dN (pv 0) au (fun _ _=>rfl)) ak aF))))
   (aA eY)
   bL)
  (az (bN (fj (xN T) T.ph hr (aa (bf dN (pv 0) au (fun _ _=>rfl)) (aa (pv 1) ak aj) aF)))
  (aA (aN (fj (Jq T) T.Br hr (aa (bf dN (pv 0) au (fun _ _=>rfl)) (aa (bf dN (pv 0) au (fun _ _=>rfl)) (aa (bf dN (pv 0) au (fun _ _=>rfl)) (aa (bf dN (pv 0) au (fun _ _=>rfl)) (aa (bf dN (pv 0) au (fun _ _=>rfl)) ak aF) aF) aF) aF) aF)))))),?_⟩
 refine⟨_,rfl,r,_,0,_,rfl,rfl,fC.of hr1,aM (j:=0) rfl,cT i,rfl,?_⟩
 rw [row_of]
 refine⟨_,rfl,fu ?_⟩
 refine⟨_,rfl,r,_,1,_,rfl,rfl,fC.of hr1,aM (j:=1) rfl,_,rfl,nm,d,kvs,rfl,hd,hz,hl,hv,fun H1 s1=>?_⟩
 have e1:=fC.of (K:=K) (s1 _ _ hr1)
 exact⟨_,rfl,r,_,0,_,rfl,rfl,e1,aM (j:=0) rfl,_,rfl,r,_,1,_,rfl,rfl,e1,aM (j:=1) rfl,_,rfl,r,_,2,_,rfl,rfl,e1,aM (j:=2) rfl,_,rfl,r,_,3,_,rfl,rfl,e1,aM (j:=3) rfl,_,rfl,r,_,4,_,rfl,rfl,e1,aM (j:=4) rfl,i,.str nm,a1,a2,a3,ns,is,os,rfl,hi,s1.seqA q1,s1.seqA q2,s1.seqA q3,l1,l2,l3,hV,fun H2 p s2 np P=>k _ p (s1.trans s2) (s1.free np) P⟩
inductive zz (K:PySem.W.Frag) (vs:List V) (H:Hp) (Q:VK) (E:XK):Prop where
 | mk:∀(y:Str) (a rd d:Addr) (zs:List Str) (rk kvs:List (Key×V)),vs=[.str y,.ref a,.ref rd,.ref d]->fC K H a (zs.map V.str)->H rd=some (.dK rk)->rd≠d->H d=some (.dK kvs)->zs.Nodup->((∀z∈zs,(cD rk (Sum.inr z)).isSome=true/\cD kvs (Sum.inr z)=none))->kvs.length+zs.length<=1000->(Q .non (upd H d (.dK (kvs ++ zs.map fun l=>((Sum.inr l:Key),V.str y)))))->zz K vs H Q E
theorem yE (T:Txt w K mg t):FO P w K mg base 1 t.Bo ["part", "lanes", "rooms", "ends"] (zz K):=by
 have sc:=T.qM.sc ["part", "lanes", "rooms", "ends", "lane"]
 refine T.qM.F.ok sc ln (fun _ _ _ _ H vs Q E hr h=>?_)
 obtain⟨y,a,rd,d,zs,rk,kvs,rfl,hT,hrd,hne,hd,nd,hz,hlen,k⟩:=h
 refine⟨_,(aA (d7 PassesOwn.never rfl (HY (pv 1)) (gN sc 4)
   (az (cC (PW.pt (wB (j4 (wJ hr.u1 (pv 4) (pv 2))) (qm (j4 (Ax hr.u1 (pv 4) (pv 3))))))
    (aA eY)
    bL)
   (aA (gU hr.u1 (pv 3) (pv 4) (pv 0) rfl))))),?_⟩
 have hl:sizeLine=16777216:=sizeLine_eq
 refine⟨_,rfl,a,rfl,⟨_,hT⟩,Uh (K:=K) (a:=a) (xs:=zs.map V.str) (fun j σ H'=>H'=upd H d (.dK (kvs ++ (zs.take j).map fun l=>((Sum.inr l:Key),V.str y)))/\∃v4,σ=[some (.str y),some (.ref a),some (.ref rd),some (.ref d),v4]) ⟨by rw [List.take_zero,List.map_nil,List.append_nil,JG hd],none,rfl⟩ (fun j σ H' _ ⟨e,_⟩=>by rw [e];exact gJ hd hT) ?_ ?_⟩
 ·rintro j x σ H' hx ⟨rfl,v4,rfl⟩
  rw [List.getElem?_map] at hx
  obtain⟨z,hzj,rfl⟩:=Option.map_eq_some_iff.mp hx
  have hj:j <zs.length:=(List.getElem?_eq_some_iff.mp hzj).1
  obtain⟨r1,r2⟩:=hz z (List.mem_of_getElem? hzj)
  obtain⟨rv,hrv⟩:=Option.isSome_iff_exists.mp r1
  have erd:upd H d (.dK (kvs ++ (zs.take j).map fun l=>((Sum.inr l:Key),V.str y))) rd=some (.dK rk):=by rw [aH hne];exact hrd
  have nin:z∉zs.take j:=fun hm=>by
   obtain⟨i,hi,ei⟩:=List.mem_iff_getElem.mp hm
   rw [List.length_take] at hi
   rw [List.getElem_take] at ei
   have e2:zs[j]=z:=by rw [List.getElem?_eq_getElem hj] at hzj;exact Option.some.inj hzj
   have:=(List.getElem_inj nd).mp (ei.trans e2.symm)
   omega
  have none':cD (kvs ++ (zs.take j).map fun l=>((Sum.inr l:Key),V.str y)) (Sum.inr z)=none:=ig (by
   rw [List.map_append,List.mem_append,not_or]
   refine⟨fun hm=>?_,fun hm=>?_⟩
   ·have:(cD kvs (Sum.inr z)).isSome=true:=by rw [<-sO];obtain⟨p,hp,e⟩:=List.mem_map.mp hm;exact List.any_eq_true.mpr ⟨p,hp,decide_eq_true e⟩
    rw [r2] at this
    cases this
   ·rw [List.map_map] at hm
    obtain⟨b,hb,e⟩:=List.mem_map.mp hm
    cases e
    exact nin hb)
  refine⟨_,rfl,_,rfl,rd,some rv,rfl,(by rw [<-hrv];exact eE.k (k:=Sum.inr z) erd),_,rfl,fu ?_⟩
  refine⟨_,rfl,_,rfl,d,none,rfl,(by rw [<-none'];exact eE.k (k:=Sum.inr z) ao),_,rfl,fu ?_⟩
  refine⟨_,rfl,_,rfl,_,rfl,d,_,rfl,qD.k (k:=Sum.inr z) ao (by rw [lP,lM,List.length_take];omega),?_,_,rfl⟩
  rw [tO,jO _ none',List.append_assoc,List.take_succ,hzj,Option.toList_some,List.map_append]
  rfl
 ·rintro σ H' ⟨rfl,v4,rfl⟩
  rw [lM,List.take_length]
  exact k
inductive zJ (K:PySem.W.Frag) (vs:List V) (H:Hp) (Q:VK) (E:XK):Prop where
 | mk:∀(r g d:Addr) (rk gk tk:List (Key×V)),vs=[.ref r,.ref g,.ref d]->H r=some (.dK rk)->H g=some (.dK gk)->H d=some (.dK tk)->r≠g->r≠d->((∀q∈rk,(cD gk q.1).isSome=true/\(cD tk q.1).isSome=true))->Q .non H->zJ K vs H Q E
theorem Ib (T:Txt w K mg t):FO P w K mg base 1 t.Ci ["rooms", "givers", "takers"] (zJ K):=by
 have sc:=T.wA.sc ["rooms", "givers", "takers", "lane"]
 refine T.wA.F.ok sc ln (fun _ _ _ _ H vs Q E hr h=>?_)
 obtain⟨r,g,d,rk,gk,tk,rfl,h1,h2,h3,n1,n2,hA,k⟩:=h
 refine⟨_,(aA (mX (H0:=H) rfl (d7 PassesOwn.never rfl (o7 (pv 0)) (gN sc 3)
   (aA (cC (PW.pt (wB (j4 (wJ hr.u1 (pv 3) (pv 1))) (qm (j4 (wJ hr.u1 (pv 3) (pv 2))))))
    (aA eY)
    bL))))),?_⟩
 refine⟨_,rfl,r,_,rfl,h1,fun o=>sZ (fun j σ H'=>H'=upd H r (.frz o (.dK rk))/\∃v3,σ=[some (.ref r),some (.ref g),some (.ref d),v3]) ⟨rfl,none,rfl⟩ (fun j σ H' _ ⟨e,_⟩=>by rw [e];exact ao) ?_ ?_⟩
 ·rintro j kk w σ H' hj ⟨rfl,v3,rfl⟩
  obtain⟨a1,a2⟩:=hA _ (List.mem_of_getElem? hj)
  obtain⟨u1,b1⟩:=Option.isSome_iff_exists.mp a1
  obtain⟨u2,b2⟩:=Option.isSome_iff_exists.mp a2
  have e2:upd H r (.frz o (.dK rk)) g=some (.dK gk):=by rw [aH (Ne.symm n1)];exact h2
  have e3:upd H r (.frz o (.dK rk)) d=some (.dK tk):=by rw [aH (Ne.symm n2)];exact h3
  exact⟨_,rfl,_,rfl,g,some u1,rfl,(by rw [<-b1];exact eE.k e2),_,rfl,fu ⟨_,rfl,_,rfl,d,some u2,rfl,(by rw [<-b2];exact eE.k e3),_,rfl,fu ⟨rfl,_,rfl⟩⟩⟩
 ·rintro σ H' ⟨rfl,v3,rfl⟩
  refine⟨_,⟨r,o,_,ao,?_,rfl⟩,?_⟩
  ·intro o' u' z
   rw [show H r=_ from h1] at z
   cases z
  ·rw [tO,JG h1]
   exact k
noncomputable def Rt (H:Hp) (J:Addr):List (Key×V):=match H J with
 | some (.dK jk)=>jk
 | _=>[]
theorem Om {H:Hp} {J:Addr} {jk:List (Key×V)} (h:H J=some (.dK jk)):Rt H J=jk:=by
 unfold Rt
 rw [h]
theorem QH {f:PD->List Str} {ps:List PD} {j:Nat} {k:Key} {v:V} (h:(dg f ps)[j]?=some (k,v)):∃p∈ps,∃l∈f p,k=Sum.inr l/\v=.str p.name:=by
 have:=List.mem_of_getElem? h
 unfold dg at this
 obtain⟨p,hp,hm⟩:=List.mem_flatMap.mp this
 obtain⟨l,hl,e⟩:=List.mem_map.mp hm
 cases e
 exact⟨p,hp,l,hl,rfl,rfl⟩
noncomputable def Su (ps:List PD) (jk:List (Key×V)) (j:Nat):Prop:=∀i k v,i <j->(dg (·.outs) ps)[i]?=some (k,v)->∀a∈ps,∀b∈ps,∀l,k=Sum.inr l->l∈a.outs->l∈b.ins->jd jk a.name=jd jk b.name
theorem Su.all {ps:List PD} {jk:List (Key×V)} (h:Su ps jk (dg (·.outs) ps).length):∀a∈ps,∀b∈ps,∀l,l∈a.outs->l∈b.ins->jd jk a.name=jd jk b.name:=fun a ha b hb l la lb=>by
 have hm:((Sum.inr l:Key),V.str a.name)∈dg (·.outs) ps:=List.mem_flatMap.mpr ⟨a,ha,List.mem_map.mpr ⟨l,la,rfl⟩⟩
 obtain⟨i,hi,ei⟩:=List.mem_iff_getElem.mp hm
 exact h i _ _ hi (by rw [List.getElem?_eq_getElem hi,ei]) a ha b hb l rfl la lb
inductive ww (K:PySem.W.Frag) (vs:List V) (H:Hp) (Q:VK) (E:XK):Prop where
 | mk:∀(p0:PD) (g d:Addr) (ps:List PD),vs=[.str p0.name,.ref g,.ref d]->p0∈ps->ps.length<=16->H g=some (.dK (dg (·.outs) ps))->H d=some (.dK (dg (·.ins) ps))->g≠d->(ps.flatMap (·.outs)).Nodup->(ps.flatMap (·.ins)).Nodup->(ps.flatMap (·.outs)).Perm (ps.flatMap (·.ins))->((∃y,∀q∈ps,∃x∈q.ins ++ q.outs,Drawn.jJ ps x y))->(∀H' J jk,aJ H H'->H' J=some (.dK jk)->(∀p∈ps,jd jk p.name=true)->Q (.ref J) H')->ww K vs H Q E
theorem EY (T:Txt w K mg t):FO P w K mg base 1 t.xr ["part", "givers", "takers"] (ww K):=by
 have sc:=T.rN.sc ["part", "givers", "takers", "joined", "grown", "lane"]
 refine T.rN.F.ok sc ln (fun _ _ _ _ H vs Q E hr h=>?_)
 obtain⟨p0,g,d,ps,rfl,hp0,hps,h1,h2,n1,no,ni,pm,hang,k⟩:=h
 refine⟨_,(az (sN sc 3 (Uu (RX (pv 0) lH UL) rfl rfl (by simp) (by decide)))
  (az (sN sc 4 lH)
  (az (Kz PassesOwn.never (lg (pv 4))
   (az (sN sc 4 lH)
   (aA (mX (H0:=H) rfl (d7 PassesOwn.never rfl (o7 (pv 1)) (gN sc 5)
    (aA (iY (cC (bF Ny (JF (Ax hr.u1 (cG hr.u1 (pv 1) (pv 5) (fun _ _=>rfl)) (pv 3))) (JF (Ax hr.u1 (cG hr.u1 (pv 2) (pv 5) (fun _ _=>rfl)) (pv 3))) (bR _))
     (az (gU hr.u1 (pv 3) (cG hr.u1 (pv 1) (pv 5) (fun _ _=>rfl)) lH rfl)
     (az (gU hr.u1 (pv 3) (cG hr.u1 (pv 2) (pv 5) (fun _ _=>rfl)) lH rfl)
     (aA (sN sc 4 lH))))
     bL))))))))
  (aA (aN (pv 3)))))),?_⟩
 have hl:sizeLine=16777216:=sizeLine_eq
 refine fun J nJ=>⟨_,rfl,ao,[((Sum.inr p0.name:Key),V.bl true)],rfl,by show 1<=15;decide,?_⟩
 rw [tO]
 have s0:aJ H (upd H J (.dK (vM [] [((Sum.inr p0.name:Key),V.bl true)]))):=aB nJ
 have e0:(upd H J (.dK (vM [] [((Sum.inr p0.name:Key),V.bl true)]))) J=some (.dK [((Sum.inr p0.name:Key),V.bl true)]):=ao
 generalize upd H J (.dK (vM [] [((Sum.inr p0.name:Key),V.bl true)]))=H0 at s0 e0 ⊢
 have ngJ:J≠g:=Ne.symm (aD h1 nJ)
 have ndJ:J≠d:=Ne.symm (aD h2 nJ)
 have melt:∀{H':Hp} {o:Obj},m5 g H H'->H' g=some (.frz o (.dK (dg (·.outs) ps)))->aJ H (upd H' g (.dK (dg (·.outs) ps))):=fun hb hg b u e=>by
  by_cases h:b=g
  ·subst h;rw [ao];rw [h1] at e;exact e
  ·rw [aH h];exact hb b u h e
 have m0:qd ps [((Sum.inr p0.name:Key),V.bl true)]<=16:=Nat.le_trans (List.length_filter_le _ _) hps
 refine Kf (fun σ H'=>aJ H H'/\∃b v5 jk,σ=[some (.str p0.name),some (.ref g),some (.ref d),some (.ref J),some (.bl b),v5]/\H' J=some (.dK jk)/\jd jk p0.name=true/\jk.length+2 * qd ps jk<=40/\(b=false->Su ps jk (dg (·.outs) ps).length))
  (fun σ H'=>match σ with | [_,_,_,_,some (.bl b),_]=>(if b then 1 else 0)+2 * qd ps (Rt H' J) | _=>0) ⟨s0,true,none,_,rfl,e0,by simp [jd,cD],by rw [List.length_singleton];omega,by intro z;cases z⟩ ?_ ?_
 ·rintro σ H1 ⟨s1,b,v5,jk,rfl,hJ,hp,hlen,hev⟩
  cases b with
  | false=>exact⟨_,rfl,_,rfl,fu ⟨_,rfl,k _ J jk s1 hJ (WR no ni pm hang (hev rfl).all hp0 hp)⟩⟩
  | true=>
   refine⟨_,rfl,_,rfl,kJ ?_⟩
   refine⟨_,rfl,g,_,rfl,s1 _ _ h1,fun o=>?_⟩
   have gD:∀{H':Hp},m5 g H H'->H' d=some (.dK (dg (·.ins) ps)):=fun hb=>hb d _ (Ne.symm n1) h2
   refine sZ (fun j σ H'=>m5 g H H'/\H' g=some (.frz o (.dK (dg (·.outs) ps)))/\∃b v5 jk',σ=[some (.str p0.name),some (.ref g),some (.ref d),some (.ref J),some (.bl b),v5]/\H' J=some (.dK jk')/\jd jk' p0.name=true/\jk'.length+2 * qd ps jk'<=40/\((b=false/\jk'=jk/\Su ps jk j)∨(b=true/\qd ps jk' <qd ps jk)))
    ⟨fun b u hn e=>by rw [aH hn];exact s1 b u e,ao,false,v5,jk,rfl,by rw [aH ngJ];exact hJ,hp,hlen,.inl ⟨rfl,rfl,fun i _ _ hi=>absurd hi (by omega)⟩⟩ (fun j σ H' _ h=>h.2.1) ?_ ?_
   ·rintro j kk w σ H' hj ⟨hb,hg,b,v5,jk',rfl,hJ',hp',hlen',hv⟩
    obtain⟨a,ha,l,la,rfl,rfl⟩:=QH hj
    obtain⟨b',hb',lb⟩:=List.mem_flatMap.mp (pm.mem_iff.mp (List.mem_flatMap.mpr ⟨a,ha,la⟩))
    have ga:eE H' g (.str l) (some (.str a.name)):=.inl ⟨_,Sum.inr l,.inr ⟨o,hg⟩,rfl,(jD no ha la).symm⟩
    have gb:eE H' d (.str l) (some (.str b'.name)):=by rw [<-jD ni hb' lb];exact eE.k (k:=Sum.inr l) (gD hb)
    have ja:eE H' J (.str a.name) (cD jk' (Sum.inr a.name)):=eE.k (k:=Sum.inr a.name) hJ'
    have jb:eE H' J (.str b'.name) (cD jk' (Sum.inr b'.name)):=eE.k (k:=Sum.inr b'.name) hJ'
    have nm:∀a2∈ps,∀b2∈ps,l∈a2.outs->l∈b2.ins->a2.name=a.name/\b2.name=b'.name:=fun a2 ha2 b2 hb2 q1 q2=>by
     have e1:=jD no ha2 q1
     rw [jD no ha la] at e1
     have e2:=jD ni hb2 q2
     rw [jD ni hb' lb] at e2
     simp only [Option.some.injEq,V.str.injEq] at e1 e2
     exact⟨e1.symm,e2.symm⟩
    refine⟨fun σ H''=>m5 g H H''/\H'' g=some (.frz o (.dK (dg (·.outs) ps)))/\∃b jk'',σ=[some (.str p0.name),some (.ref g),some (.ref d),some (.ref J),some (.bl b),some (.str l)]/\H'' J=some (.dK jk'')/\jd jk'' p0.name=true/\jk''.length+2 * qd ps jk''<=40/\((b=false/\jk''=jk/\Su ps jk (j+1))∨(b=true/\qd ps jk'' <qd ps jk)),?_,?_⟩
    ·refine⟨_,rfl,_,rfl,g,_,rfl,ga,_,rfl,J,_,rfl,ja,?_⟩
     refine⟨_,rfl,_,rfl,d,_,rfl,gb,_,rfl,J,_,rfl,jb,rfl,_,rfl,?_⟩
     change if (!decide (V.bl (jd jk' a.name)=V.bl (jd jk' b'.name)))=true then _ else _
     refine kO (fun hne=>?_) (fun heq=>?_)
     ·have hne':jd jk' a.name≠jd jk' b'.name:=fun z=>by rw [z] at hne;simp at hne
      refine⟨_,rfl,_,rfl,_,rfl,g,_,rfl,ga,J,_,rfl,qD.k (k:=Sum.inr a.name) hJ' (by omega),?_⟩
      have b2:m5 g H (upd H' J (.dK (putK jk' (Sum.inr a.name) (.bl true)))):=fun x u hn e=>by rw [aH (aD e nJ)];exact hb x u hn e
      have g2:(upd H' J (.dK (putK jk' (Sum.inr a.name) (.bl true)))) g=some (.frz o (.dK (dg (·.outs) ps))):=by rw [aH (Ne.symm ngJ)];exact hg
      have gb2:eE (upd H' J (.dK (putK jk' (Sum.inr a.name) (.bl true)))) d (.str l) (some (.str b'.name)):=by rw [<-jD ni hb' lb];exact eE.k (k:=Sum.inr l) (gD b2)
      have len1:=nW jk' (Sum.inr a.name:Key) (.bl true)
      have len2:=nW (putK jk' (Sum.inr a.name) (.bl true)) (Sum.inr b'.name:Key) (.bl true)
      refine⟨_,rfl,_,rfl,_,rfl,d,_,rfl,gb2,J,_,rfl,qD.k (k:=Sum.inr b'.name) ao (by omega),?_⟩
      rw [tO]
      have has2:∀x,jd (putK (putK jk' (Sum.inr a.name) (.bl true)) (Sum.inr b'.name) (.bl true)) x=(decide (x=b'.name) || (decide (x=a.name) || jd jk' x)):=fun x=>by rw [Ku,Ku]
      have mono:∀x,jd jk' x=true->jd (putK (putK jk' (Sum.inr a.name) (.bl true)) (Sum.inr b'.name) (.bl true)) x=true:=fun x hx=>by rw [has2,hx];simp
      have lt:qd ps (putK (putK jk' (Sum.inr a.name) (.bl true)) (Sum.inr b'.name) (.bl true)) <qd ps jk':=by
       cases hA:jd jk' a.name
       ·exact Lx mono ha hA (by rw [has2];simp)
       ·cases hB:jd jk' b'.name
        ·exact Lx mono hb' hB (by rw [has2];simp)
        ·rw [hA,hB] at hne';exact absurd rfl hne'
      refine⟨fun x u hn e=>by rw [aH (aD e nJ)];exact hb x u hn e,by rw [aH (Ne.symm ngJ)];exact hg,true,_,rfl,ao,mono _ hp',by omega,.inr ⟨rfl,?_⟩⟩
      rcases hv with ⟨_,rfl,_⟩ | ⟨_,hv⟩
      ·exact lt
      ·omega
     ·have heq':jd jk' a.name=jd jk' b'.name:=by
       cases hA:jd jk' a.name <;> cases hB:jd jk' b'.name <;> rw [hA,hB] at heq <;> simp_all
      refine⟨hb,hg,b,jk',rfl,hJ',hp',hlen',?_⟩
      rcases hv with ⟨rfl,rfl,hE⟩ | hv
      ·refine .inl ⟨rfl,rfl,fun i k2 v2 hi e2 a2 ha2 b2 hb2 l2 ek q1 q2=>?_⟩
       rcases Nat.lt_or_ge i j with h | h
       ·exact hE i k2 v2 h e2 a2 ha2 b2 hb2 l2 ek q1 q2
       ·have:i=j:=by omega
        subst this
        rw [hj] at e2
        cases e2
        cases ek
        obtain⟨x1,x2⟩:=nm a2 ha2 b2 hb2 q1 q2
        rw [x1,x2]
        exact heq'
      ·exact .inr hv
    ·rintro σ H'' ⟨hb,hg,b,jk'',rfl,r⟩
     exact⟨hb,hg,b,_,jk'',rfl,r⟩
   ·rintro σ H' ⟨hb,hg,b,v5',jk',rfl,hJ',hp',hlen',hv⟩
    refine⟨_,⟨g,o,_,hg,(fun o' u' z=>by rw [show H g=_ from h1] at z;cases z),rfl⟩,?_⟩
    have eJ:(upd H' g (.dK (dg (·.outs) ps))) J=some (.dK jk'):=by rw [aH ngJ];exact hJ'
    refine⟨⟨melt hb hg,b,v5',jk',rfl,eJ,hp',hlen',fun z=>?_⟩,?_⟩
    ·rcases hv with ⟨_,rfl,hE⟩ | ⟨h,_⟩
     ·exact hE
     ·rw [h] at z;cases z
    ·show(if b=true then 1 else 0)+2 * qd ps (Rt _ J) <(if true=true then 1 else 0)+2 * qd ps (Rt _ J)
     rw [Om eJ,Om hJ]
     rcases hv with ⟨rfl,rfl,_⟩ | ⟨rfl,h⟩
     ·simp
     ·simp;omega
 ·intro σ H' Q' Q'' hm hq
  obtain⟨v,e,b,e2,q⟩:=hq
  exact⟨v,e,b,e2,hm _ _ q⟩
inductive wu (K:PySem.W.Frag) (vs:List V) (H:Hp) (Q:VK) (E:XK):Prop where
 | mk:∀(L g d:Addr) (ps:List PD),vs=[.ref L,.ref g,.ref d]->(bK K H L (ps.map fun p=>V.str p.name))->1<=ps.length->ps.length<=16->H g=some (.dK (dg (·.outs) ps))->H d=some (.dK (dg (·.ins) ps))->g≠d->(ps.flatMap (·.outs)).Nodup->(ps.flatMap (·.ins)).Nodup->(ps.flatMap (·.outs)).Perm (ps.flatMap (·.ins))->((∃y,∀q∈ps,∃x∈q.ins ++ q.outs,Drawn.jJ ps x y))->(∀H',aJ H H'->Q .non H')->wu K vs H Q E
theorem CZ (T:Txt w K mg t):FO P w K mg base 2 t.wZ ["names", "givers", "takers"] (wu K):=by
 have sc:=T.rQ.sc ["names", "givers", "takers", "joined", "name"]
 refine T.rQ.F.ok sc ln (fun _ _ _ _ H vs Q E hr h=>?_)
 obtain⟨L,g,d,ps,rfl,hL,hp1,hps,h1,h2,n1,no,ni,pm,hang,k⟩:=h
 refine⟨_,(az (sN sc 3 (fj (EY T) T.rN hr (aa (bf bw (pv 0) au (fun _ _=>rfl)) (aa (pv 1) (aa (pv 2) ak aj) aj) aF)))
  (aA (d7 PassesOwn.never rfl (b8 (pv 0)) (gN sc 4)
   (aA (cC (j4 (wJ hr.u1 (pv 4) (pv 3)))
    (aA eY)
    bL))))),?_⟩
 obtain⟨p0,pr,rfl⟩:∃p0 pr,ps=p0:: pr:=by
  cases ps with
  | nil=>simp at hp1
  | cons a r=>exact⟨a,r,rfl⟩
 refine⟨_,rfl,L,_,0,_,rfl,rfl,hL,aM (j:=0) rfl,_,rfl,_,rfl,p0,g,d,_,rfl,List.mem_cons_self,hps,h1,h2,n1,no,ni,pm,hang,fun H1 J jk s1 eJ hA=>?_⟩
 refine⟨_,rfl,L,rfl,⟨_,s1.seq hL⟩,d8 (K:=K) (a:=L) (xs:=(p0:: pr).map fun p=>V.str p.name) (fun j σ H'=>H'=H1/\∃v4,σ=[some (.ref L),some (.ref g),some (.ref d),some (.ref J),v4]) ⟨rfl,none,rfl⟩ (fun j σ H' _ ⟨e,_⟩=>by rw [e];exact s1.seq hL) ?_ ?_⟩
 ·rintro j x σ H' hx ⟨rfl,v4,rfl⟩
  rw [List.getElem?_map] at hx
  obtain⟨p,hp,rfl⟩:=Option.map_eq_some_iff.mp hx
  obtain⟨u,hu⟩:=Option.isSome_iff_exists.mp (hA p (List.mem_of_getElem? hp))
  exact⟨_,rfl,_,rfl,J,some u,rfl,(by rw [<-hu];exact eE.k (k:=Sum.inr p.name) eJ),_,rfl,fu ⟨rfl,_,rfl⟩⟩
 ·rintro σ H' ⟨rfl,v4,rfl⟩
  exact k _ s1
inductive qJ (K:PySem.W.Frag) (t:jL) (vs:List V) (H:Hp) (Q:VK) (E:XK):Prop where
 | mk:∀(n:Addr) (ls:List aG) (ps:List PD),vs=[.ref n]->fO K t H n ls ps->(∀l,H l=none->Q (.ref l) (upd H l (.lst (ls.map fun x=>V.str x.name))))->qJ K t vs H Q E
theorem lE (T:Txt w K mg t):FO P w K mg base 1 t.lW ["self"] (qJ K t):=by
 have sc:=T.iD.sc ["self"]
 refine T.iD.F.ok sc ln (fun _ _ _ _ H vs Q E hr h=>?_)
 obtain⟨n,ls,ps,rfl,N,k⟩:=h
 refine⟨_,(aA (aN (cW (qy rfl) (by rfl) T.j7 iK (aa (aQ (pv 0) rfl) ak aV)))),?_⟩
 obtain⟨dx,fs,R,F,Pd,G,Tk,FL,PL,W⟩:=id N
 refine⟨_,rfl,n,_,dx,fs,_,rfl,W.obj,T.aU.c,T.aU.na.1,W.fl.has ("rooms",.ref R) (by simp),R,_,rfl,.inl W.rooms,fun l hl=>?_⟩
 unfold dD
 rw [List.map_map]
 exact k l hl
inductive qW (K:PySem.W.Frag) (t:jL) (vs:List V) (H:Hp) (Q:VK) (E:XK):Prop where
 | mk:∀(n:Addr) (ls:List aG) (ps:List PD),vs=[.ref n]->fO K t H n ls ps->(∀l,H l=none->Q (.ref l) (upd H l (.lst (ps.map fun x=>V.str x.name))))->qW K t vs H Q E
theorem jr (T:Txt w K mg t):FO P w K mg base 1 t.lQ ["self"] (qW K t):=by
 have sc:=T.fV.sc ["self"]
 refine T.fV.F.ok sc ln (fun _ _ _ _ H vs Q E hr h=>?_)
 obtain⟨n,ls,ps,rfl,N,k⟩:=h
 refine⟨_,(aA (aN (cW (qy rfl) (by rfl) T.j7 iK (aa (aQ (pv 0) rfl) ak aV)))),?_⟩
 obtain⟨dx,fs,R,F,Pd,G,Tk,FL,PL,W⟩:=id N
 refine⟨_,rfl,n,_,dx,fs,_,rfl,W.obj,T.aU.c,T.aU.na.2.2.1,W.fl.has ("parts",.ref Pd) (by simp),Pd,_,rfl,.inl W.parts,fun l hl=>?_⟩
 unfold cY
 rw [List.map_map]
 have e:ps.map (fun x=>V.str x.name)=PL.map (fun q=>V.str q.1.name):=by rw [<-W.pls,List.map_map];rfl
 rw [e] at k
 exact k l hl
inductive nH (K:PySem.W.Frag) (t:jL) (vs:List V) (H:Hp) (Q:VK) (E:XK):Prop where
 | mk:∀(n:Addr) (ls:List aG) (ps:List PD) (x:Str),vs=[.ref n,.str x]->fO K t H n ls ps->(∀p,H p=none->Q (.ref p) (upd H p (.lst (dH ps x))))->nH K t vs H Q E
theorem nQ (T:Txt w K mg t):FO P w K mg base 2 t.jN ["self", "kind"] (nH K t):=by
 have sc:=T.gW.sc ["self", "kind"]
 refine T.gW.F.ok sc ln (fun _ _ _ _ H vs Q E hr h=>?_)
 obtain⟨n,ls,ps,x,rfl,N,k⟩:=h
 refine⟨_,(aA (aN (Ut (H0:=H) rfl (gZ [0,1] ["self", "kind"] (bc (inClass (top 56) 5)) rfl (o7 (aQ (pv 0) rfl)) (fun _ _ _ _ _=>(vV (bF iw (LQ (P:=P) (w:=w) (K:=K) (mg:=mg) (base:=base) (CX:=Ao) (k:=1) (E:=E0) rfl rfl rfl rfl rfl (cG hr.u1 (uv (K:=K) rfl (pv 1) rfl) (pv 0) (fun _ _=>rfl)) (hr.mono (by decide)) fQ) (pv 2) (bR _)))) (fun _ _ _ _ _=>(pv 0)))))),?_⟩
 obtain⟨dx,fs,R,F,Pd,G,Tk,FL,PL,W⟩:=id N
 have hz:sizeLine=16777216:=sizeLine_eq
 have hp:=W.fit.p16
 have h5:=W.parts
 have lpl:PL.length=ps.length:=by rw [<-W.pls,lM]
 refine⟨_,rfl,n,_,dx,fs,_,rfl,W.obj,T.aU.c,T.aU.na.2.2.1,W.fl.has ("parts",.ref Pd) (by simp),Pd,_,rfl,h5,fun o=>?_⟩
 refine An (fun j ys H'=>H'=upd H Pd (.frz o (.dK (cY PL)))/\ys=dH ((PL.take j).map (·.1)) x) (by unfold cY;rw [lM];omega) ⟨rfl,by simp [dH]⟩ ?_ ?_ ?_ ?_
 ·rintro j ys H' ⟨_,rfl⟩
  have:=sV ((PL.take j).map (·.1)) x
  rw [lM,List.length_take] at this
  omega
 ·rintro j ys H' _ ⟨rfl,_⟩
  exact ao
 ·rintro j kk v ys H' hj ⟨rfl,rfl⟩
  unfold cY at hj
  rw [List.getElem?_map] at hj
  obtain⟨q,hq,e⟩:=Option.map_eq_some_iff.mp hj
  cases e
  have hm:=List.mem_of_getElem? hq
  obtain⟨dxp,tn,ti,to,p1,p2,p3,p4⟩:=((W.pats q hm).chill (v:=.frz o (.dK (cY PL))) h5).ex
  refine⟨_,rfl,n,_,dx,fs,_,rfl,jo h5 W.obj (by intro _ z;cases z),T.aU.c,T.aU.na.2.2.1,W.fl.has ("parts",.ref Pd) (by simp),_,rfl,Pd,_,rfl,(by rw [<-W.partV hm];exact .inl ⟨_,Sum.inr q.1.name,.inr ⟨o,ao⟩,rfl,rfl⟩),?_⟩
  refine⟨q.2,cls t q.1.kind,dxp,_,iM q.1.kind,rfl,p1,mK _ _ _ _ (by decide +kernel) (by decide +kernel) (by decide +kernel) (by decide +kernel),Ji T q.1.kind,_,rfl,_,rfl,rfl,_,rfl,?_⟩
  rw [List.take_succ,hq,Option.toList_some,List.map_append,List.map_singleton,Hh]
  refine kO (fun e=>?_) (fun e=>?_)
  ·have e':cT q.1.kind=x:=by simpa using e
   rw [if_pos e']
   exact⟨_,rfl,rfl,rfl⟩
  ·have e':¬cT q.1.kind=x:=by simpa using e
   rw [if_neg e']
   exact⟨rfl,rfl⟩
 ·rintro ys H' ⟨rfl,rfl⟩ D hD
  refine⟨_,⟨Pd,o,cY PL,?_,?_,rfl⟩,?_⟩
  ·rw [aH (by rintro rfl;rw [ao] at hD;cases hD)]
   exact ao
  ·intro o' u z
   rw [show H Pd=_ from h5] at z
   cases z
  ·rw [Qc h5 hD]
   have:=k D (yc hD)
   rw [show(cY PL).length=PL.length by unfold cY;rw [lM],List.take_length,W.pls]
   exact this
inductive zx (K:PySem.W.Frag) (t:jL) (vs:List V) (H:Hp) (Q:VK) (E:XK):Prop where
 | mk:∀(n:Addr) (ls:List aG) (ps:List PD),vs=[.ref n]->fO K t H n ls ps->(∀p,H p=none->Q (.ref p) (upd H p (.lst (dH ps "give"))))->zx K t vs H Q E
theorem pA (T:Txt w K mg t):FO P w K mg base 3 t.wy ["self"] (zx K t):=by
 have sc:=T.kI.sc ["self"]
 refine T.kI.F.ok sc ln (fun _ _ _ _ H vs Q E hr h=>?_)
 obtain⟨n,ls,ps,rfl,N,k⟩:=h
 refine⟨_,(aA (aN (tD (pv 0) T.aU T.aU.me.2.2.2.1 (nQ T) T.gW hr (aa bW ak aq)))),?_⟩
 obtain⟨dx,fs,R,F,Pd,G,Tk,FL,PL,W⟩:=id N
 exact⟨_,rfl,n,dx,fs,rfl,W.obj,W.fl.no _ (by decide +kernel),n,ls,ps,_,rfl,N,k⟩
inductive yX (K:PySem.W.Frag) (t:jL) (vs:List V) (H:Hp) (Q:VK) (E:XK):Prop where
 | mk:∀(n:Addr) (ls:List aG) (ps:List PD),vs=[.ref n]->fO K t H n ls ps->(∀p,H p=none->Q (.ref p) (upd H p (.lst (dH ps "take"))))->yX K t vs H Q E
theorem Ip (T:Txt w K mg t):FO P w K mg base 3 t.uP ["self"] (yX K t):=by
 have sc:=T.vB.sc ["self"]
 refine T.vB.F.ok sc ln (fun _ _ _ _ H vs Q E hr h=>?_)
 obtain⟨n,ls,ps,rfl,N,k⟩:=h
 refine⟨_,(aA (aN (tD (pv 0) T.aU T.aU.me.2.2.2.1 (nQ T) T.gW hr (aa bW ak aq)))),?_⟩
 obtain⟨dx,fs,R,F,Pd,G,Tk,FL,PL,W⟩:=id N
 exact⟨_,rfl,n,dx,fs,rfl,W.obj,W.fl.no _ (by decide +kernel),n,ls,ps,_,rfl,N,k⟩
inductive lJ (K:PySem.W.Frag) (t:jL) (vs:List V) (H:Hp) (Q:VK) (E:XK):Prop where
 | mk:∀(n:Addr) (ls:List aG) (ps:List PD) (x:Str),vs=[.ref n,.str x]->fO K t H n ls ps->(((x∈ls.map (·.name)/\∀H',aJ H H'->Q .non H')∨False))->lJ K t vs H Q E
theorem fY (T:Txt w K mg t):FO P w K mg base 2 t.jA ["self", "name"] (lJ K t):=by
 have sc:=T.dJ.sc ["self", "name"]
 refine T.dJ.F.ok sc ln (fun _ _ _ _ H vs Q E hr h=>?_)
 obtain⟨n,ls,ps,x,rfl,N,h⟩:=h
 refine⟨_,(aA (cC (bF lA (pv 1) (J5 (pv 0) T.aU T.aU.me.2.1 (lE T) T.iD hr) (by with_unfolding_all rfl))
   (aA eY)
   bL)),?_⟩
 obtain⟨dx,fs,R,F,Pd,G,Tk,FL,PL,W⟩:=id N
 refine⟨_,rfl,_,rfl,n,dx,fs,rfl,W.obj,W.fl.no _ (by decide +kernel),n,ls,ps,rfl,N,fun l hl=>?_⟩
 have s1:=aB (o:=.lst (ls.map fun x=>V.str x.name)) hl
 refine⟨l,_,rfl,.inl (bK.of ao),rfl,by simp [qC],_,rfl,?_⟩
 rw [JT (f:=fun x:aG=>x.name)]
 rcases h with ⟨hx,k⟩ | h
 ·rw [decide_eq_true hx]
  exact fu (k _ s1)
 ·exact h.elim
inductive u0 (K:PySem.W.Frag) (t:jL) (vs:List V) (H:Hp) (Q:VK) (E:XK):Prop where
 | mk:∀(n:Addr) (ls:List aG) (ps:List PD) (x:Str),vs=[.ref n,.str x]->fO K t H n ls ps->(((∃l∈ls,l.name=x/\∀H',aJ H H'->Q (.int l.room) H')∨False))->u0 K t vs H Q E
theorem uY (T:Txt w K mg t):FO P w K mg base 3 t.rU ["self", "name"] (u0 K t):=by
 have sc:=T.mU.sc ["self", "name"]
 refine T.mU.F.ok sc ln (fun _ _ _ _ H vs Q E hr h=>?_)
 obtain⟨n,ls,ps,x,rfl,N,h⟩:=h
 refine⟨_,(az (bN (tD (pv 0) T.aU T.aU.me.2.2.2.2.2.2.1 (fY T) T.dJ hr (aa (pv 1) ak aj)))
  (aA (aN (cG hr.u1 (aQ (pv 0) rfl) (pv 1) (fun _ _=>rfl))))),?_⟩
 obtain⟨dx,fs,R,F,Pd,G,Tk,FL,PL,W⟩:=id N
 refine⟨_,rfl,n,dx,fs,rfl,W.obj,W.fl.no _ (by decide +kernel),_,rfl,n,ls,ps,x,rfl,N,?_⟩
 rcases h with ⟨l,hl,rfl,k⟩ | h
 ·refine .inl ⟨List.mem_map.mpr ⟨l,hl,rfl⟩,fun H1 s1=>?_⟩
  have W1:=W.same s1
  have hv:=W1.room hl
  refine⟨_,rfl,n,_,dx,fs,_,rfl,W1.obj,T.aU.c,T.aU.na.1,W1.fl.has ("rooms",.ref R) (by simp),_,rfl,R,_,rfl,(by rw [<-hv];exact eE.k (k:=Sum.inr l.name) W1.rooms),?_⟩
  exact k _ s1
 ·exact .inr h
inductive uD (K:PySem.W.Frag) (t:jL) (vs:List V) (H:Hp) (Q:VK) (E:XK):Prop where
 | mk:∀(n:Addr) (ls:List aG) (ps:List PD) (x:Str),vs=[.ref n,.str x]->fO K t H n ls ps->(((∃l∈ls,l.name=x/\∀H' p,aJ H H'->H p=none->H' p=some (.lst (l.first.map V.int))->Q (.ref p) H')∨False))->uD K t vs H Q E
theorem Cq (T:Txt w K mg t):FO P w K mg base 3 t.qu ["self", "name"] (uD K t):=by
 have sc:=T.qx.sc ["self", "name"]
 refine T.qx.F.ok sc ln (fun _ _ _ _ H vs Q E hr h=>?_)
 obtain⟨n,ls,ps,x,rfl,N,h⟩:=h
 refine⟨_,(az (bN (tD (pv 0) T.aU T.aU.me.2.2.2.2.2.2.1 (fY T) T.dJ hr (aa (pv 1) ak aj)))
  (aA (aN (cW iJ (by rfl) T.j7 iK (aa (cG hr.u1 (aQ (pv 0) rfl) (pv 1) (fun _ _=>rfl)) ak aF))))),?_⟩
 obtain⟨dx,fs,R,F,Pd,G,Tk,FL,PL,W⟩:=id N
 refine⟨_,rfl,n,dx,fs,rfl,W.obj,W.fl.no _ (by decide +kernel),_,rfl,n,ls,ps,x,rfl,N,?_⟩
 rcases h with ⟨l,hl,rfl,k⟩ | h
 ·refine .inl ⟨List.mem_map.mpr ⟨l,hl,rfl⟩,fun H1 s1=>?_⟩
  have W1:=W.same s1
  obtain⟨q,hq,eq⟩:∃q∈FL,q.1=l:=by
   rw [<-W.fls] at hl
   obtain⟨q,hq,e⟩:=List.mem_map.mp hl
   exact⟨q,hq,e⟩
  subst eq
  have hv:=W1.firstV hq
  refine⟨_,rfl,n,_,dx,fs,_,rfl,W1.obj,T.aU.c,T.aU.na.2.1,W1.fl.has ("firsts",.ref F) (by simp),_,rfl,F,_,rfl,(by rw [<-hv];exact eE.k (k:=Sum.inr q.1.name) W1.firsts),?_⟩
  exact⟨q.2,_,rfl,.inr (W1.tups q hq),fun p hp=>k _ p (s1.trans (aB hp)) (s1.free hp) ao⟩
 ·exact .inr h
inductive vD (K:PySem.W.Frag) (t:jL) (vs:List V) (H:Hp) (Q:VK) (E:XK):Prop where
 | mk:∀(n:Addr) (ls:List aG) (ps:List PD) (x:Str),vs=[.ref n,.str x]->fO K t H n ls ps->(((∃p∈ps,p.name=x/\∀H' q,aJ H H'->fL K t H' q p.kind (.str p.name) (p.nums.map V.int) (p.ins.map V.str) (p.outs.map V.str)->Q (.ref q) H')∨False))->vD K t vs H Q E
theorem jz (T:Txt w K mg t):FO P w K mg base 2 t.rK ["self", "name"] (vD K t):=by
 have sc:=T.gM.sc ["self", "name"]
 refine T.gM.F.ok sc ln (fun _ _ _ _ H vs Q E hr h=>?_)
 obtain⟨n,ls,ps,x,rfl,N,h⟩:=h
 refine⟨_,(az (cC (bF lA (pv 1) (J5 (pv 0) T.aU T.aU.me.2.2.1 (jr T) T.fV hr) (by with_unfolding_all rfl))
   (aA eY)
   bL)
  (aA (aN (cG hr.u1 (aQ (pv 0) rfl) (pv 1) (fun _ _=>rfl))))),?_⟩
 obtain⟨dx,fs,R,F,Pd,G,Tk,FL,PL,W⟩:=id N
 refine⟨_,rfl,_,rfl,n,dx,fs,rfl,W.obj,W.fl.no _ (by decide +kernel),n,ls,ps,rfl,N,fun l hl=>?_⟩
 have s1:=aB (o:=.lst (ps.map fun x=>V.str x.name)) hl
 refine⟨l,_,rfl,.inl (bK.of ao),rfl,by simp [qC],_,rfl,?_⟩
 rw [JT (f:=fun x:PD=>x.name)]
 rcases h with ⟨p,hp,rfl,k⟩ | h
 ·rw [decide_eq_true (List.mem_map.mpr ⟨p,hp,rfl⟩)]
  refine fu ?_
  obtain⟨q,hq,eq⟩:∃q∈PL,q.1=p:=by
   rw [<-W.pls] at hp
   obtain⟨q,hq,e⟩:=List.mem_map.mp hp
   exact⟨q,hq,e⟩
  subst eq
  have W1:=W.same s1
  have hv:=W1.partV hq
  exact⟨_,rfl,n,_,dx,fs,_,rfl,W1.obj,T.aU.c,T.aU.na.2.2.1,W1.fl.has ("parts",.ref Pd) (by simp),_,rfl,Pd,_,rfl,(by rw [<-hv];exact eE.k (k:=Sum.inr q.1.name) W1.parts),k _ q.2 s1 (W1.pats q hq)⟩
 ·exact h.elim
inductive Gx (K:PySem.W.Frag) (t:jL) (vs:List V) (H:Hp) (Q:VK) (E:XK):Prop where
 | mk:∀(q:Addr) (p:PD),vs=[.ref q]->fL K t H q p.kind (.str p.name) (p.nums.map V.int) (p.ins.map V.str) (p.outs.map V.str)->(∀r a1 a2 a3,H r=none->fC K H a1 (p.nums.map V.int)->fC K H a2 (p.ins.map V.str)->fC K H a3 (p.outs.map V.str)->Q (.ref r) (upd H r (.tup [.str (cT p.kind),.str p.name,.ref a1,.ref a2,.ref a3])))->Gx K t vs H Q E
theorem GJ (T:Txt w K mg t):FO P w K mg base 2 t.Kq ["part"] (Gx K t):=by
 have sc:=T.zc.sc ["part"]
 refine T.zc.F.ok sc ln (fun _ _ _ _ H vs Q E hr h=>?_)
 obtain⟨q,p,rfl,P,k⟩:=h
 refine⟨_,(aA (aN (cB (aa (wG (CX:=Ao) (k:=1) (E:=E0) (pv 0) (hr.mono (by decide)) fQ) (aa (aQ (pv 0) rfl) (aa (aQ (pv 0) rfl) (aa (aQ (pv 0) rfl) (aa (aQ (pv 0) rfl) ak aV) aV) aV) aV) aO)))),?_⟩
 have hl:sizeLine=16777216:=sizeLine_eq
 obtain⟨dxp,tn,ti,to,p1,p2,p3,p4⟩:=P.ex
 refine⟨_,rfl,q,cls t p.kind,dxp,_,iM p.kind,rfl,p1,mK _ _ _ _ (by decide +kernel) (by decide +kernel) (by decide +kernel) (by decide +kernel),Ji T p.kind,_,rfl,?_⟩
 refine⟨_,rfl,q,_,dxp,_,_,rfl,p1,eN T p.kind,tY T p.kind,pU _ _ _ _,_,rfl,q,_,dxp,_,_,rfl,p1,eN T p.kind,lY T p.kind,lF _ _ _ _,_,rfl,q,_,dxp,_,_,rfl,p1,eN T p.kind,tH T p.kind,mZ _ _ _ _,_,rfl,q,_,dxp,_,_,rfl,p1,eN T p.kind,wO T p.kind,sJ _ _ _ _,jt,fun r nr=>?_⟩
 exact k r tn ti to nr p2 p3 p4
inductive Be (K:PySem.W.Frag) (t:jL) (vs:List V) (H:Hp) (Q:VK) (E:XK):Prop where
 | mk:∀(n:Addr) (ls:List aG) (ps:List PD),vs=[.ref n]->fO K t H n ls ps->(∀T a b H',aJ H H'->H a=none->H b=none->a≠b->Dj K H' T a b ls ps->Q (.ref T) H')->Be K t vs H Q E
theorem BX (T:Txt w K mg t):FO P w K mg base 3 t.xT ["self"] (Be K t):=by
 have sc:=T.ug.sc ["self", "lanes", "parts"]
 refine T.ug.F.ok sc ln (fun _ _ _ _ H vs Q E hr h=>?_)
 obtain⟨n,ls,ps,rfl,N,k⟩:=h
 refine⟨_,(az (mX (H0:=H) rfl (jg (i:=1) [0] ["self", "lanes", "parts"] (bc (inClass (top 56) 13)) rfl sc.nd rfl (o7 (aQ (pv 0) rfl)) (fun _ _ _ _ _=>f9) (fun _ _ _ _ _=>(cB (aa (pv 0) (aa (cG hr.u1 (uv (K:=K) rfl (pv 1) rfl) (pv 0) (fun _ _=>rfl)) (aa (cG hr.u1 (uv (K:=K) rfl (pv 1) rfl) (pv 0) (fun _ _=>rfl)) ak aF) aF) aj)))))
  (az (mX (H0:=H) rfl (jg (i:=2) [0] ["self", "lanes", "parts"] (bc (inClass (top 56) 13)) rfl sc.nd rfl (o7 (aQ (pv 0) rfl)) (fun _ _ _ _ _=>f9) (fun _ _ _ _ _=>(fj (GJ T) T.zc hr (aa (cG hr.u1 (uv (K:=K) rfl (pv 1) rfl) (pv 0) (fun _ _=>rfl)) ak aF)))))
  (aA (aN (cB (aa (pv 1) (aa (pv 2) ak aj) aj)))))),?_⟩
 obtain⟨dx,fs,R,F,Pd,G,Tk,FL,PL,W⟩:=id N
 have hz:sizeLine=16777216:=sizeLine_eq
 have hl24:=W.fit.l24
 have hp16:=W.fit.p16
 have h3:=W.rooms
 have lr:(dD ls).length=ls.length:=by unfold dD;rw [lM]
 have lp:PL.length=ps.length:=by rw [<-W.pls,lM]
 refine⟨_,rfl,n,_,dx,fs,_,rfl,W.obj,T.aU.c,T.aU.na.1,W.fl.has ("rooms",.ref R) (by simp),R,_,rfl,h3,fun o=>?_⟩
 refine An (fun j ys H'=>aJ (upd H R (.frz o (.dK (dD ls)))) H'/\ys.length<=j/\iy (Ek K (upd H' R (.dK (dD ls)))) ys (ls.take j)) (by rw [lr];omega) ⟨aJ.refl _,Nat.le_refl _,.nil⟩ ?_ ?_ ?_ ?_
 ·rintro j ys H' ⟨_,hh,_⟩
  exact hh
 ·rintro j ys H' _ h
  exact h.1 _ _ ao
 ·rintro j kk v ys H' hj ⟨hs,hyl,hA⟩
  unfold dD at hj
  rw [List.getElem?_map] at hj
  obtain⟨l,hlj,e⟩:=Option.map_eq_some_iff.mp hj
  cases e
  have hm:=List.mem_of_getElem? hlj
  obtain⟨q,hq,eq⟩:∃q∈FL,q.1=l:=by
   have hm':=hm
   rw [<-W.fls] at hm'
   obtain⟨q,hq,e⟩:=List.mem_map.mp hm'
   exact⟨q,hq,e⟩
  subst eq
  have hg:=hs _ _ ao
  have en:=hs _ _ (jo h3 W.obj (by intro _ z;cases z))
  have eF:H' F=some (.dK (bQ FL)):=hs _ _ (by rw [aH (Ne.symm W.neRF)];exact W.firsts)
  refine yes ⟨_,rfl,_,rfl,n,_,dx,fs,_,rfl,en,T.aU.c,T.aU.na.1,W.fl.has ("rooms",.ref R) (by simp),_,rfl,R,_,rfl,(by rw [<-W.room hm];exact .inl ⟨_,Sum.inr q.1.name,.inr ⟨o,hg⟩,rfl,rfl⟩),?_⟩
  refine⟨_,rfl,n,_,dx,fs,_,rfl,en,T.aU.c,T.aU.na.2.1,W.fl.has ("firsts",.ref F) (by simp),_,rfl,F,_,rfl,(by rw [<-W.firstV hq];exact eE.k (k:=Sum.inr q.1.name) eF),jt,fun u nu=>?_⟩
  have su:=aB (o:=.tup [.str q.1.name,.int q.1.room,.ref q.2]) nu
  have nuR:u≠R:=fun z=>by rw [z,hg] at nu;cases nu
  refine⟨hs.trans su,by rw [lP,List.length_singleton];omega,?_⟩
  rw [List.take_succ,hlj,Option.toList_some]
  refine(hA.imp fun _ _ h=>h.same (zE su)).app (.cons ⟨u,q.2,rfl,by rw [aH nuR];exact ao,(z6 h3 (hs.trans su)).seqT (W.tups q hq)⟩ .nil)
 rintro ys H' ⟨hs,hyl,hA⟩ D nD
 have hg:=hs _ _ ao
 have nDR:D≠R:=fun z=>by rw [z,hg] at nD;cases nD
 have nDH:H D=none:=yc (hs.free nD)
 have sD:=aB (o:=.lst ys) nD
 refine⟨_,⟨R,o,_,sD _ _ hg,(fun o' u' z=>by rw [show H R=_ from h3] at z;cases z),rfl⟩,?_⟩
 have s1:=z6 h3 (hs.trans sD)
 have eD:upd (upd H' D (.lst ys)) R (.dK (dD ls)) D=some (.lst ys):=by rw [aH nDR];exact ao
 have hA1:iy (Ek K (upd (upd H' D (.lst ys)) R (.dK (dD ls)))) ys ls:=by
  rw [lr,List.take_length] at hA
  exact hA.imp fun _ _ h=>h.same (zE sD)
 generalize upd (upd H' D (.lst ys)) R (.dK (dD ls))=H1 at s1 eD hA1 ⊢
 clear hA hs hg sD nD hyl
 have W1:=W.same s1
 have h5:=W1.parts
 have lpk:(cY PL).length=PL.length:=by unfold cY;rw [lM]
 refine⟨_,rfl,n,_,dx,fs,_,rfl,W1.obj,T.aU.c,T.aU.na.2.2.1,W1.fl.has ("parts",.ref Pd) (by simp),Pd,_,rfl,h5,fun o2=>?_⟩
 refine An (fun j zs H'=>aJ (upd H1 Pd (.frz o2 (.dK (cY PL)))) H'/\zs.length<=j/\iy (FP K (upd H' Pd (.dK (cY PL)))) zs ((PL.take j).map (·.1))) (by rw [lpk];omega) ⟨aJ.refl _,Nat.le_refl _,.nil⟩ ?_ ?_ ?_ ?_
 ·rintro j zs H' ⟨_,hh,_⟩
  exact hh
 ·rintro j zs H' _ h
  exact h.1 _ _ ao
 ·rintro j kk v zs H' hj ⟨hs,hyl,hA⟩
  unfold cY at hj
  rw [List.getElem?_map] at hj
  obtain⟨q,hqj,e⟩:=Option.map_eq_some_iff.mp hj
  cases e
  have hm:=List.mem_of_getElem? hqj
  have hg:=hs _ _ ao
  have en:=hs _ _ (jo h5 W1.obj (by intro _ z;cases z))
  refine yes ⟨_,rfl,n,_,dx,fs,_,rfl,en,T.aU.c,T.aU.na.2.2.1,W1.fl.has ("parts",.ref Pd) (by simp),_,rfl,Pd,_,rfl,(by rw [<-W1.partV hm];exact .inl ⟨_,Sum.inr q.1.name,.inr ⟨o2,hg⟩,rfl,rfl⟩),?_⟩
  refine⟨q.2,q.1,rfl,((W1.pats q hm).chill h5).same hs,fun u a1 a2 a3 nu t1 t2 t3=>?_⟩
  have su:=aB (o:=.tup [.str (cT q.1.kind),.str q.1.name,.ref a1,.ref a2,.ref a3]) nu
  have nuP:u≠Pd:=fun z=>by rw [z,hg] at nu;cases nu
  refine⟨hs.trans su,by rw [lP,List.length_singleton];omega,?_⟩
  rw [List.take_succ,hqj,Option.toList_some,List.map_append,List.map_singleton]
  have ft:∀{a:Addr} {xs:List V},fC K H' a xs->fC K (upd (upd H' u (.tup [.str (cT q.1.kind),.str q.1.name,.ref a1,.ref a2,.ref a3])) Pd (.dK (cY PL))) a xs:=fun {a xs} t=>by
   rcases su.seqT t with (h | ⟨o',h⟩) | h
   ·exact .inl (.inl (by rw [aH (uC h (su _ _ hg) (by intro z;cases z))];exact h))
   ·exact .inl (.inr ⟨o',by rw [aH (uC h (su _ _ hg) (by intro z;cases z))];exact h⟩)
   ·exact .inr h
  refine(hA.imp fun _ _ h=>h.same (zE su)).app (.cons ⟨u,a1,a2,a3,rfl,by rw [aH nuP];exact ao,ft t1,ft t2,ft t3⟩ .nil)
 rintro zs H' ⟨hs,hyl,hA⟩ D2 nD2
 have hg:=hs _ _ ao
 have nDP:D2≠Pd:=fun z=>by rw [z,hg] at nD2;cases nD2
 have nD2H:H1 D2=none:=yc (hs.free nD2)
 have sD:=aB (o:=.lst zs) nD2
 refine⟨_,⟨Pd,o2,_,sD _ _ hg,(fun o' u' z=>by rw [show H Pd=_ from W.parts] at z;cases z),rfl⟩,?_⟩
 have s2:=z6 h5 (hs.trans sD)
 have eD2:upd (upd H' D2 (.lst zs)) Pd (.dK (cY PL)) D2=some (.lst zs):=by rw [aH nDP];exact ao
 have hA2:iy (FP K (upd (upd H' D2 (.lst zs)) Pd (.dK (cY PL)))) zs ps:=by
  rw [lpk,List.take_length,W.pls] at hA
  exact hA.imp fun _ _ h=>h.same (zE sD)
 generalize upd (upd H' D2 (.lst zs)) Pd (.dK (cY PL))=H2 at s2 eD2 hA2 ⊢
 refine⟨_,rfl,_,rfl,jt,fun T' nT=>?_⟩
 have sT:=aB (o:=.tup [.ref D,.ref D2]) nT
 exact k T' D D2 _ (s1.trans (s2.trans sT)) nDH (s1.free nD2H) (aD eD nD2H) ⟨ao,⟨ys,sT _ _ (s2 _ _ eD),hA1.imp fun _ _ h=>h.same (s2.trans sT)⟩,⟨zs,sT _ _ eD2,hA2.imp fun _ _ h=>h.same sT⟩⟩
inductive uG (K:PySem.W.Frag) (t:jL) (vs:List V) (H:Hp) (Q:VK) (E:XK):Prop where
 | mk:∀(n dx Ll Lp:Addr) (ls:List aG) (ps:List PD),vs=[.ref n,.ref Ll,.ref Lp]->H n=some (.ins t.dR dx [])->Hand K H Ll Lp ls ps->qF ls ps->(∀H',m5 n H H'->M8 K t H H' n ls ps->Q .non H')->uG K t vs H Q E
theorem uz (T:Txt w K mg t):FO P w K mg base 6 t.qe ["self", "lanes", "parts"] (uG K t):=by
 have sc:=T.iC.sc ["self", "lanes", "parts", "lane", "row", "part"]
 refine T.iC.F.ok sc ln (fun _ _ _ _ H vs Q E hr h=>?_)
 obtain⟨n,dx,Ll,Lp,ls,ps,rfl,hn,hH,hF,k⟩:=h
 refine⟨_,(az (bN (fj (Dg T) T.rT hr (aa (pv 1) (aa (pv 2) ak aj) aj)))
  (az (jq (pv 0) il rfl)
  (az (jq (pv 0) il rfl)
  (az (d7 PassesOwn.never rfl (b8 (pv 1)) (gN sc 3)
   (az (bN (fj (xN T) T.ph hr (aa (bf dN (pv 3) au (fun _ _=>rfl)) (aa (aQ (pv 0) rfl) ak aV) aF)))
   (az (bN (fj (JL T) T.vX hr (aa (bf dN (pv 3) au (fun _ _=>rfl)) (aa (bf dN (pv 3) au (fun _ _=>rfl)) (aa (bf dN (pv 3) au (fun _ _=>rfl)) ak aF) aF) aF)))
   (az (gU hr.u1 (aQ (pv 0) rfl) (bf dN (pv 3) au (fun _ _=>rfl)) (bf dN (pv 3) au (fun _ _=>rfl)) rfl)
   (aA (gU hr.u1 (aQ (pv 0) rfl) (bf dN (pv 3) au (fun _ _=>rfl)) (cW wL (by rfl) T.Cz zj (aa (bf dN (pv 3) au (fun _ _=>rfl)) ak aF)) rfl))))))
  (az (jq (pv 0) il rfl)
  (az (jq (pv 0) il rfl)
  (az (jq (pv 0) il rfl)
  (az (d7 PassesOwn.never rfl (b8 (pv 2)) (gN sc 4)
   (az (sN sc 5 (fj (Ga T) T.tZ hr (aa (pv 4) (aa (aQ (pv 0) rfl) ak aV) aj)))
   (az (bN (fj (yE T) T.qM hr (aa (aQ (pv 5) rfl) (aa (aQ (pv 5) rfl) (aa (aQ (pv 0) rfl) (aa (aQ (pv 0) rfl) ak aV) aV) aV) aV)))
   (az (bN (fj (yE T) T.qM hr (aa (aQ (pv 5) rfl) (aa (aQ (pv 5) rfl) (aa (aQ (pv 0) rfl) (aa (aQ (pv 0) rfl) ak aV) aV) aV) aV)))
   (aA (gU hr.u1 (aQ (pv 0) rfl) (aQ (pv 5) rfl) (pv 5) rfl))))))
  (az (bN (fj (Ib T) T.wA hr (aa (aQ (pv 0) rfl) (aa (aQ (pv 0) rfl) (aa (aQ (pv 0) rfl) ak aV) aV) aV)))
  (aA (bN (fj (CZ T) T.rQ hr (aa (cW (qy rfl) (by rfl) T.j7 iK (aa (aQ (pv 0) rfl) ak aV)) (aa (aQ (pv 0) rfl) (aa (aQ (pv 0) rfl) ak aV) aV) aO))))))))))))),?_⟩
 have hl:sizeLine=16777216:=sizeLine_eq
 obtain⟨xs,hLl,aL⟩:=hH.ll
 obtain⟨ys,hLp,aP⟩:=hH.lp
 have lx:=aL.length
 have ly:=aP.length
 have l1:=hF.l1
 have l24:=hF.l24
 have p1:=hF.p1
 have p16:=hF.p16
 refine⟨_,rfl,_,rfl,Ll,Lp,_,_,rfl,hLl,hLp,by omega,by omega,by omega,by omega,?_⟩
 have T0:=Tr.start hn
 refine fun R nR=>?_
 have T1:=T0.new (o:=.dK []) nR
 have gR:=aB (o:=.dK []) nR
 generalize upd H R (.dK [])=H1 at T1 gR ⊢
 have cR:=T1.all (n,.ins t.dR dx []) (.head _)
 refine⟨_,rfl,n,_,dx,_,rfl,cR,T.aU.c,T.aU.na.1,Nat.lt_of_le_of_lt (show 0<=0 from Nat.le_refl 0) (by decide),?_⟩
 have T2:=T1.put (L1:=[]) (o':=.ins t.dR dx (aK "rooms" (.ref R) []))
 have wR:m5 n H1 (upd H1 n (.ins t.dR dx (aK "rooms" (.ref R) []))):=m5.write
 generalize upd H1 n (.ins t.dR dx (aK "rooms" (.ref R) []))=H2 at T2 wR ⊢
 refine fun F nF=>?_
 have T3:=T2.new (o:=.dK []) nF
 have gF:=aB (o:=.dK []) nF
 generalize upd H2 F (.dK [])=H3 at T3 gF ⊢
 have cF:=T3.all (n,.ins t.dR dx (aK "rooms" (.ref R) [])) (.head _)
 refine⟨_,rfl,n,_,dx,_,rfl,cF,T.aU.c,T.aU.na.2.1,Nat.lt_of_le_of_lt (jj (Nat.zero_le 0)) (by decide),?_⟩
 have T4:=T3.put (L1:=[]) (o':=.ins t.dR dx (aK "firsts" (.ref F) (aK "rooms" (.ref R) [])))
 have wF:m5 n H3 (upd H3 n (.ins t.dR dx (aK "firsts" (.ref F) (aK "rooms" (.ref R) [])))):=m5.write
 generalize upd H3 n (.ins t.dR dx (aK "firsts" (.ref F) (aK "rooms" (.ref R) [])))=H4 at T4 wF ⊢
 have kb:∀{Hk:Hp} {q:Addr} {u:HO},m5 n H Hk->H q=some u->(∀C d f,u≠.ins C d f)->Hk q=some u:=fun b h hu=>b _ _ (uC h hn (by intro z;exact hu _ _ _ z)) h
 refine⟨_,rfl,Ll,rfl,⟨_,T4.but.seqL hn hLl⟩,d8 (K:=K) (a:=Ll) (xs:=xs) (fun j σ H'=>(∃x3,σ=[some (.ref n),some (.ref Ll),some (.ref Lp),x3,none,none])/\∃FL:List (aG×Addr),FL.map (·.1)=ls.take j/\Tr H n [(n,.ins t.dR dx (aK "firsts" (.ref F) (aK "rooms" (.ref R) []))),(R,.dK (dD (ls.take j))),(F,.dK (bQ FL))] H'/\∀q∈FL,fC K H' q.2 (q.1.first.map V.int)) ⟨⟨none,rfl⟩,[],rfl,T4,by simp⟩ (fun j σ H' _ ⟨_,_,_,T',_⟩=>T'.but.seqL hn hLl) ?_ ?_⟩
 ·rintro j x σ H' hx ⟨⟨x3,rfl⟩,FL,eFL,T4,hS⟩
  obtain⟨l,hlj,q,f,rfl,hq,hf⟩:=aL.get hx
  have hm:=List.mem_of_getElem? hlj
  obtain⟨v1,v2,v3,v4⟩:=hF.lok l hm
  have hnm:=hF.lnm l hm
  have hj:=(List.getElem?_eq_some_iff.mp hlj).1
  have kq:∀{Hk:Hp},m5 n H Hk->Hk q=some (.tup [.str l.name,.int l.room,.ref f]):=fun b=>kb b hq (by intro _ _ _ z;cases z)
  have nin:=nC hF.whole.nod hlj
  have vR:cD (dD (ls.take j)) (Sum.inr l.name)=none:=ig (by rw [vZ];intro z;obtain⟨b,hb,e⟩:=List.mem_map.mp z;cases e;exact nin hb)
  have vF:cD (bQ FL) (Sum.inr l.name)=none:=ig (by rw [ul,eFL];intro z;obtain⟨b,hb,e⟩:=List.mem_map.mp z;cases e;exact nin hb)
  have tk:ls.take (j+1)=ls.take j ++ [l]:=by rw [List.take_succ,hlj];rfl
  have e4:=T4.all (n,.ins t.dR dx (aK "firsts" (.ref F) (aK "rooms" (.ref R) []))) (.head _)
  refine RM fun De hD u hu=>?_
  refine⟨_,rfl,q,_,0,_,rfl,rfl,fC.of (kq T4.but),aM (j:=0) rfl,_,rfl,n,_,dx,_,_,rfl,e4,T.aU.c,T.aU.na.1,(by (repeat first | (rw [aC,if_pos rfl];done) | rw [aC,if_neg (by decide +kernel)])),l.name,R,_,rfl,T4.all (R,.dK (dD (ls.take j))) (by simp),hnm,G5 hnm,vR,fun H5 s5=>?_⟩
  have T5:=T4.same s5
  refine dI (v:=u) hu fun u hu=>?_
  refine⟨_,rfl,q,_,0,_,rfl,rfl,fC.of (kq T5.but),aM (j:=0) rfl,_,rfl,q,_,1,_,rfl,rfl,fC.of (kq T5.but),aM (j:=1) rfl,_,rfl,q,_,2,_,rfl,rfl,fC.of (kq T5.but),aM (j:=2) rfl,.str l.name,l.room,f,l.first,rfl,T5.but.seqA hn hf,by omega,v4,v1,v3,v2,fun H6 s6=>?_⟩
  have T6:=T5.same s6
  have e6:=T6.all (n,.ins t.dR dx (aK "firsts" (.ref F) (aK "rooms" (.ref R) []))) (.head _)
  have eR6:=T6.all (R,.dK (dD (ls.take j))) (by simp)
  refine dI (v:=u) hu fun u hu=>?_
  refine⟨_,rfl,q,_,1,_,rfl,rfl,fC.of (kq T6.but),aM (j:=1) rfl,_,rfl,n,_,dx,_,_,rfl,e6,T.aU.c,T.aU.na.1,(by (repeat first | (rw [aC,if_pos rfl];done) | rw [aC,if_neg (by decide +kernel)])),_,rfl,q,_,0,_,rfl,rfl,fC.of (kq T6.but),aM (j:=0) rfl,R,_,rfl,qD.k (k:=Sum.inr l.name) eR6 (by unfold dD;rw [lM,List.length_take];omega),?_⟩
  have e7:putK (dD (ls.take j)) (Sum.inr l.name) (.int l.room)=dD (ls.take (j+1)):=by rw [jO _ vR,tk];unfold dD;rw [List.map_append];rfl
  have T7:=T6.put (L1:=[_]) (o':=.dK (dD (ls.take (j+1))))
  rw [e7]
  have hS7:∀q∈FL,fC K (upd H6 R (.dK (dD (ls.take (j+1))))) q.2 (q.1.first.map V.int):=fun q hq=>gJ eR6 (s6.seqT (s5.seqT (hS q hq)))
  generalize upd H6 R (.dK (dD (ls.take (j+1))))=H7 at T7 hS7 ⊢
  subst hu
  refine⟨_,rfl,q,_,2,_,rfl,rfl,fC.of (kq T7.but),aM (j:=2) rfl,f,_,rfl,T7.but.seqA hn hf,fun H8 F0 s8 t8=>?_⟩
  have T8:=T7.same s8
  have e8:=T8.all (n,.ins t.dR dx (aK "firsts" (.ref F) (aK "rooms" (.ref R) []))) (.head _)
  have eF8:=T8.all (F,.dK (bQ FL)) (by simp)
  have lFL:FL.length<=24:=by have:=congrArg List.length eFL;rw [lM,List.length_take] at this;omega
  refine⟨_,rfl,n,_,dx,_,_,rfl,e8,T.aU.c,T.aU.na.2.1,(by (repeat first | (rw [aC,if_pos rfl];done) | rw [aC,if_neg (by decide +kernel)])),_,rfl,q,_,0,_,rfl,rfl,fC.of (kq T8.but),aM (j:=0) rfl,F,_,rfl,qD.k (k:=Sum.inr l.name) eF8 (by unfold bQ;rw [lM];omega),?_⟩
  have e9:putK (bQ FL) (Sum.inr l.name) (.ref F0)=bQ (FL ++ [(l,F0)]):=by rw [jO _ vF];unfold bQ;rw [List.map_append];rfl
  have T9:=T8.put (L1:=[_,_]) (o':=.dK (bQ (FL ++ [(l,F0)])))
  rw [e9]
  subst hD
  refine⟨⟨_,rfl⟩,FL ++ [(l,F0)],by rw [List.map_append,eFL,tk];rfl,T9,fun q hq=>?_⟩
  rcases List.mem_append.mp hq with h | h
  ·exact gJ eF8 (s8.seqT (hS7 q h))
  ·rw [List.mem_singleton] at h
   subst h
   exact gJ eF8 t8
 rintro σ H9 ⟨⟨x3,rfl⟩,FL,eFL,T9,t9⟩
 rw [lx,List.take_length] at eFL T9
 clear T0 T1 T2 T3 T4
 refine fun Pd nPd=>?_
 have T10:=T9.new (o:=.dK []) nPd
 have gPd:=aB (o:=.dK []) nPd
 generalize upd H9 Pd (.dK [])=H10 at T10 gPd ⊢
 have cPd:=T10.all (n,.ins t.dR dx (aK "firsts" (.ref F) (aK "rooms" (.ref R) []))) (.head _)
 refine⟨_,rfl,n,_,dx,_,rfl,cPd,T.aU.c,T.aU.na.2.2.1,Nat.lt_of_le_of_lt (jj (jj (Nat.zero_le 0))) (by decide),?_⟩
 have T11:=T10.put (L1:=[]) (o':=.ins t.dR dx (aK "parts" (.ref Pd) (aK "firsts" (.ref F) (aK "rooms" (.ref R) []))))
 have wPd:m5 n H10 (upd H10 n (.ins t.dR dx (aK "parts" (.ref Pd) (aK "firsts" (.ref F) (aK "rooms" (.ref R) []))))):=m5.write
 generalize upd H10 n (.ins t.dR dx (aK "parts" (.ref Pd) (aK "firsts" (.ref F) (aK "rooms" (.ref R) []))))=H11 at T11 wPd ⊢
 refine fun Gv nGv=>?_
 have T12:=T11.new (o:=.dK []) nGv
 have gGv:=aB (o:=.dK []) nGv
 generalize upd H11 Gv (.dK [])=H12 at T12 gGv ⊢
 have cGv:=T12.all (n,.ins t.dR dx (aK "parts" (.ref Pd) (aK "firsts" (.ref F) (aK "rooms" (.ref R) [])))) (.head _)
 refine⟨_,rfl,n,_,dx,_,rfl,cGv,T.aU.c,T.aU.na.2.2.2.1,Nat.lt_of_le_of_lt (jj (jj (jj (Nat.zero_le 0)))) (by decide),?_⟩
 have T13:=T12.put (L1:=[]) (o':=.ins t.dR dx (aK "givers" (.ref Gv) (aK "parts" (.ref Pd) (aK "firsts" (.ref F) (aK "rooms" (.ref R) [])))))
 have wGv:m5 n H12 (upd H12 n (.ins t.dR dx (aK "givers" (.ref Gv) (aK "parts" (.ref Pd) (aK "firsts" (.ref F) (aK "rooms" (.ref R) [])))))):=m5.write
 generalize upd H12 n (.ins t.dR dx (aK "givers" (.ref Gv) (aK "parts" (.ref Pd) (aK "firsts" (.ref F) (aK "rooms" (.ref R) [])))))=H13 at T13 wGv ⊢
 refine fun Tk nTk=>?_
 have T14:=T13.new (o:=.dK []) nTk
 have gTk:=aB (o:=.dK []) nTk
 generalize upd H13 Tk (.dK [])=H14 at T14 gTk ⊢
 have cTk:=T14.all (n,.ins t.dR dx (aK "givers" (.ref Gv) (aK "parts" (.ref Pd) (aK "firsts" (.ref F) (aK "rooms" (.ref R) []))))) (.head _)
 refine⟨_,rfl,n,_,dx,_,rfl,cTk,T.aU.c,T.aU.na.2.2.2.2.1,Nat.lt_of_le_of_lt (jj (jj (jj (jj (Nat.zero_le 0))))) (by decide),?_⟩
 have T15:=T14.put (L1:=[]) (o':=.ins t.dR dx (aK "takers" (.ref Tk) (aK "givers" (.ref Gv) (aK "parts" (.ref Pd) (aK "firsts" (.ref F) (aK "rooms" (.ref R) []))))))
 have wTk:m5 n H14 (upd H14 n (.ins t.dR dx (aK "takers" (.ref Tk) (aK "givers" (.ref Gv) (aK "parts" (.ref Pd) (aK "firsts" (.ref F) (aK "rooms" (.ref R) []))))))):=m5.write
 generalize upd H14 n (.ins t.dR dx (aK "takers" (.ref Tk) (aK "givers" (.ref Gv) (aK "parts" (.ref Pd) (aK "firsts" (.ref F) (aK "rooms" (.ref R) []))))))=H15 at T15 wTk ⊢
 have T15:Tr H n [(n,.ins t.dR dx (aK "takers" (.ref Tk) (aK "givers" (.ref Gv) (aK "parts" (.ref Pd) (aK "firsts" (.ref F) (aK "rooms" (.ref R) [])))))),(R,.dK (dD ls)),(F,.dK (bQ FL)),(Pd,.dK []),(Gv,.dK []),(Tk,.dK [])] H15:=T15
 have t15:∀q∈FL,fC K H15 q.2 (q.1.first.map V.int):=fun q hq=>wTk.seqT cTk (gTk.seqT (wGv.seqT cGv (gGv.seqT (wPd.seqT cPd (gPd.seqT (t9 q hq))))))
 have nod:=T15.nod
 simp only [List.map_append,List.map_cons,List.map_nil,List.nil_append,List.cons_append,List.nodup_cons,List.mem_cons,List.not_mem_nil,or_false,not_or] at nod
 have nRF:R≠F:=nod.2.1.1
 have nRT:R≠Tk:=nod.2.1.2.2.2
 have nRG:R≠Gv:=nod.2.1.2.2.1
 have nGT:Gv≠Tk:=nod.2.2.2.2.1
 clear nod
 have ono:(ps.flatMap (·.outs)).Nodup:=hF.whole.outs.nodup_iff.mpr hF.whole.nod
 have ini:(ps.flatMap (·.ins)).Nodup:=hF.whole.ins.nodup_iff.mpr hF.whole.nod
 have inR:∀z∈ls.map (·.name),(cD (dD ls) (Sum.inr z)).isSome=true:=fun z hz=>by
  obtain⟨l,hl,rfl⟩:=List.mem_map.mp hz
  have e:cD (dD ls) (Sum.inr l.name)=some (.int l.room):=ju (by rw [vZ];exact ik hF.whole.nod) (List.mem_map.mpr ⟨l,hl,rfl⟩)
  rw [e]
  rfl
 have lenE:∀(f:PD->List Str) (j:Nat),(ps.flatMap f).Perm (ls.map (·.name))->(dg f (ps.take j)).length<=24:=fun f j pm=>by
  rw [Pa]
  have e1:((ps.take j).flatMap f).length+((ps.drop j).flatMap f).length=(ps.flatMap f).length:=by rw [<-lP,<-List.flatMap_append,List.take_append_drop]
  have e2:=pm.length_eq
  rw [lM] at e2
  omega
 refine⟨_,rfl,Lp,rfl,⟨_,T15.but.seqL hn hLp⟩,d8 (K:=K) (a:=Lp) (xs:=ys) (fun j σ H'=>(∃x3 x4 x5,σ=[some (.ref n),some (.ref Ll),some (.ref Lp),x3,x4,x5])/\∃PL:List (PD×Addr),PL.map (·.1)=ps.take j/\Tr H n [(n,.ins t.dR dx (aK "takers" (.ref Tk) (aK "givers" (.ref Gv) (aK "parts" (.ref Pd) (aK "firsts" (.ref F) (aK "rooms" (.ref R) [])))))),(R,.dK (dD ls)),(F,.dK (bQ FL)),(Pd,.dK (cY PL)),(Gv,.dK (dg (·.outs) (ps.take j))),(Tk,.dK (dg (·.ins) (ps.take j)))] H'/\(∀q∈FL,fC K H' q.2 (q.1.first.map V.int))/\∀q∈PL,fL K t H' q.2 q.1.kind (.str q.1.name) (q.1.nums.map V.int) (q.1.ins.map V.str) (q.1.outs.map V.str)) ⟨⟨x3,none,none,rfl⟩,[],rfl,T15,t15,by simp⟩ (fun j σ H' _ ⟨_,_,_,T',_⟩=>T'.but.seqL hn hLp) ?_ ?_⟩
 ·rintro j x σ H' hx ⟨⟨x3,x4,x5,rfl⟩,PL,ePL,T15,hS,hP⟩
  obtain⟨p,hpj,r,a1,a2,a3,rfl,hr,q1,q2,q3⟩:=aP.get hx
  have hm:=List.mem_of_getElem? hpj
  have hj:=(List.getElem?_eq_some_iff.mp hpj).1
  obtain⟨o1,o2,o3,o4,o5⟩:=hF.pok p hm
  have hnm:=hF.pnm p hm
  have nin:=nC hF.pnd hpj
  have tk:ps.take (j+1)=ps.take j ++ [p]:=by rw [List.take_succ,hpj];rfl
  have vP:cD (cY PL) (Sum.inr p.name)=none:=ig (by rw [Bk,ePL];intro z;obtain⟨b,hb,e⟩:=List.mem_map.mp z;cases e;exact nin hb)
  obtain⟨di,fi⟩:=Ox ini hpj
  obtain⟨do',fo⟩:=Ox ono hpj
  have e15:=T15.all (n,.ins t.dR dx (aK "takers" (.ref Tk) (aK "givers" (.ref Gv) (aK "parts" (.ref Pd) (aK "firsts" (.ref F) (aK "rooms" (.ref R) [])))))) (.head _)
  refine RM fun De hD u hu=>?_
  refine⟨_,rfl,_,rfl,n,_,dx,_,_,rfl,e15,T.aU.c,T.aU.na.2.2.1,(by (repeat first | (rw [aC,if_pos rfl];done) | rw [aC,if_neg (by decide +kernel)])),p.kind,p.name,r,Pd,a1,a2,a3,_,_,_,_,rfl,kb T15.but hr (by intro _ _ _ z;cases z),by omega,T15.all (Pd,.dK (cY PL)) (by simp),hnm,G5 hnm,vP,T15.but.seqA hn q1,T15.but.seqA hn q2,T15.but.seqA hn q3,by rw [lM];exact o2,by rw [lM];exact o3,by rw [lM];exact o4,?_,fun H16 pp s16 npp Pp=>?_⟩
  ·intro v hv
   obtain⟨i,hi,rfl⟩:=List.mem_map.mp hv
   exact⟨i,rfl,(o5 i hi).1,(o5 i hi).2⟩
  have T16:=T15.same s16
  obtain⟨dxp,tn,ti,to,z1,z2,z3,z4⟩:=id Pp.ex
  have e16:=T16.all (n,.ins t.dR dx (aK "takers" (.ref Tk) (aK "givers" (.ref Gv) (aK "parts" (.ref Pd) (aK "firsts" (.ref F) (aK "rooms" (.ref R) [])))))) (.head _)
  have eTk:=T16.all (Tk,.dK (dg (·.ins) (ps.take j))) (by simp)
  have li:=lenE (·.ins) j hF.whole.ins
  have lo:=lenE (·.outs) j hF.whole.outs
  have h3I:p.ins.length<=3:=by rw [o3];exact Hr _
  have h3O:p.outs.length<=2:=by rw [o4];exact RJ _
  refine dI (v:=u) hu fun u hu=>?_
  refine⟨_,rfl,pp,_,dxp,_,_,rfl,z1,eN T p.kind,tY T p.kind,pU _ _ _ _,_,rfl,pp,_,dxp,_,_,rfl,z1,eN T p.kind,tH T p.kind,mZ _ _ _ _,_,rfl,n,_,dx,_,_,rfl,e16,T.aU.c,T.aU.na.1,(by (repeat first | (rw [aC,if_pos rfl];done) | rw [aC,if_neg (by decide +kernel)])),_,rfl,n,_,dx,_,_,rfl,e16,T.aU.c,T.aU.na.2.2.2.2.1,(by (repeat first | (rw [aC,if_pos rfl];done) | rw [aC,if_neg (by decide +kernel)])),p.name,ti,R,Tk,p.ins,_,_,rfl,z3,T16.all (R,.dK (dD ls)) (by simp),nRT,eTk,di,fun z hz=>⟨inR z (hF.whole.ins.mem_iff.mp (List.mem_flatMap.mpr ⟨p,hm,hz⟩)),Ec (fi z hz)⟩,by omega,?_⟩
  rw [<-Et (·.ins) (ps.take j) p,<-tk]
  have T17:=T16.put (L1:=[_,_,_,_,_]) (o':=.dK (dg (·.ins) (ps.take (j+1))))
  have Pp17:=Pp.chill (v:=.dK (dg (·.ins) (ps.take (j+1)))) eTk
  have hS17:∀q∈FL,fC K (upd H16 Tk (.dK (dg (·.ins) (ps.take (j+1))))) q.2 (q.1.first.map V.int):=fun q hq=>gJ eTk (s16.seqT (hS q hq))
  have hP17:∀q∈PL,fL K t (upd H16 Tk (.dK (dg (·.ins) (ps.take (j+1))))) q.2 q.1.kind (.str q.1.name) (q.1.nums.map V.int) (q.1.ins.map V.str) (q.1.outs.map V.str):=fun q hq=>((hP q hq).same s16).chill eTk
  generalize upd H16 Tk (.dK (dg (·.ins) (ps.take (j+1))))=H17 at T17 Pp17 hS17 hP17 ⊢
  clear z1 z2 z3 z4 e16
  obtain⟨dxp,tn,ti,to,z1,z2,z3,z4⟩:=id Pp17.ex
  have e17:=T17.all (n,.ins t.dR dx (aK "takers" (.ref Tk) (aK "givers" (.ref Gv) (aK "parts" (.ref Pd) (aK "firsts" (.ref F) (aK "rooms" (.ref R) [])))))) (.head _)
  have eGv:=T17.all (Gv,.dK (dg (·.outs) (ps.take j))) (by simp)
  refine dI (v:=u) hu fun u hu=>?_
  refine⟨_,rfl,pp,_,dxp,_,_,rfl,z1,eN T p.kind,tY T p.kind,pU _ _ _ _,_,rfl,pp,_,dxp,_,_,rfl,z1,eN T p.kind,wO T p.kind,sJ _ _ _ _,_,rfl,n,_,dx,_,_,rfl,e17,T.aU.c,T.aU.na.1,(by (repeat first | (rw [aC,if_pos rfl];done) | rw [aC,if_neg (by decide +kernel)])),_,rfl,n,_,dx,_,_,rfl,e17,T.aU.c,T.aU.na.2.2.2.1,(by (repeat first | (rw [aC,if_pos rfl];done) | rw [aC,if_neg (by decide +kernel)])),p.name,to,R,Gv,p.outs,_,_,rfl,z4,T17.all (R,.dK (dD ls)) (by simp),nRG,eGv,do',fun z hz=>⟨inR z (hF.whole.outs.mem_iff.mp (List.mem_flatMap.mpr ⟨p,hm,hz⟩)),Ec (fo z hz)⟩,by omega,?_⟩
  rw [<-Et (·.outs) (ps.take j) p,<-tk]
  have T18:=T17.put (L1:=[_,_,_,_]) (o':=.dK (dg (·.outs) (ps.take (j+1))))
  have Pp18:=Pp17.chill (v:=.dK (dg (·.outs) (ps.take (j+1)))) eGv
  have hS18:∀q∈FL,fC K (upd H17 Gv (.dK (dg (·.outs) (ps.take (j+1))))) q.2 (q.1.first.map V.int):=fun q hq=>gJ eGv (hS17 q hq)
  have hP18:∀q∈PL,fL K t (upd H17 Gv (.dK (dg (·.outs) (ps.take (j+1))))) q.2 q.1.kind (.str q.1.name) (q.1.nums.map V.int) (q.1.ins.map V.str) (q.1.outs.map V.str):=fun q hq=>(hP17 q hq).chill eGv
  generalize upd H17 Gv (.dK (dg (·.outs) (ps.take (j+1))))=H18 at T18 Pp18 hS18 hP18 ⊢
  clear z1 z2 z3 z4 e17
  obtain⟨dxp,tn,ti,to,z1,z2,z3,z4⟩:=id Pp18.ex
  have e18:=T18.all (n,.ins t.dR dx (aK "takers" (.ref Tk) (aK "givers" (.ref Gv) (aK "parts" (.ref Pd) (aK "firsts" (.ref F) (aK "rooms" (.ref R) [])))))) (.head _)
  have ePd:=T18.all (Pd,.dK (cY PL)) (by simp)
  have lPL:PL.length<=16:=by have:=congrArg List.length ePL;rw [lM,List.length_take] at this;omega
  subst hu
  refine⟨_,rfl,_,rfl,n,_,dx,_,_,rfl,e18,T.aU.c,T.aU.na.2.2.1,(by (repeat first | (rw [aC,if_pos rfl];done) | rw [aC,if_neg (by decide +kernel)])),_,rfl,pp,_,dxp,_,_,rfl,z1,eN T p.kind,tY T p.kind,pU _ _ _ _,Pd,_,rfl,qD.k (k:=Sum.inr p.name) ePd (by unfold cY;rw [lM];omega),?_⟩
  have e19:putK (cY PL) (Sum.inr p.name) (.ref pp)=cY (PL ++ [(p,pp)]):=by rw [jO _ vP];unfold cY;rw [List.map_append];rfl
  have T19:=T18.put (L1:=[_,_,_]) (o':=.dK (cY (PL ++ [(p,pp)])))
  rw [e19]
  subst hD
  refine⟨⟨_,_,_,rfl⟩,PL ++ [(p,pp)],by rw [List.map_append,ePL,tk];rfl,T19,fun q hq=>gJ ePd (hS18 q hq),fun q hq=>?_⟩
  rcases List.mem_append.mp hq with h | h
  ·exact(hP18 q h).chill ePd
  ·rw [List.mem_singleton] at h
   subst h
   exact Pp18.chill ePd
 rintro σ H18 ⟨⟨x3,x4,x5,rfl⟩,PL,ePL,T18,hS,hP⟩
 rw [ly,List.take_length] at ePL T18
 have e18:=T18.all (n,.ins t.dR dx (aK "takers" (.ref Tk) (aK "givers" (.ref Gv) (aK "parts" (.ref Pd) (aK "firsts" (.ref F) (aK "rooms" (.ref R) [])))))) (.head _)
 have eR:=T18.all (R,.dK (dD ls)) (by simp)
 have eF:=T18.all (F,.dK (bQ FL)) (by simp)
 have ePd:=T18.all (Pd,.dK (cY PL)) (by simp)
 have eGv:=T18.all (Gv,.dK (dg (·.outs) ps)) (by simp)
 have eTk:=T18.all (Tk,.dK (dg (·.ins) ps)) (by simp)
 refine⟨_,rfl,n,_,dx,_,_,rfl,e18,T.aU.c,T.aU.na.1,(by (repeat first | (rw [aC,if_pos rfl];done) | rw [aC,if_neg (by decide +kernel)])),_,rfl,n,_,dx,_,_,rfl,e18,T.aU.c,T.aU.na.2.2.2.1,(by (repeat first | (rw [aC,if_pos rfl];done) | rw [aC,if_neg (by decide +kernel)])),_,rfl,n,_,dx,_,_,rfl,e18,T.aU.c,T.aU.na.2.2.2.2.1,(by (repeat first | (rw [aC,if_pos rfl];done) | rw [aC,if_neg (by decide +kernel)])),R,Gv,Tk,_,_,_,rfl,eR,eGv,eTk,nRG,nRT,?_,?_⟩
 ·intro q hq
  obtain⟨l,hl,rfl⟩:=List.mem_map.mp hq
  have hln:l.name∈ls.map (·.name):=List.mem_map.mpr ⟨l,hl,rfl⟩
  obtain⟨pa,ha,la⟩:=List.mem_flatMap.mp (hF.whole.outs.mem_iff.mpr hln)
  obtain⟨pb,hb,lb⟩:=List.mem_flatMap.mp (hF.whole.ins.mem_iff.mpr hln)
  exact⟨by rw [jD ono ha la];rfl,by rw [jD ini hb lb];rfl⟩
 refine⟨_,rfl,n,_,dx,_,_,rfl,e18,T.aU.c,T.aU.na.2.2.1,(by (repeat first | (rw [aC,if_pos rfl];done) | rw [aC,if_neg (by decide +kernel)])),Pd,_,rfl,.inl ePd,fun l nl=>?_⟩
 have s19:=aB (o:=.lst ((cY PL).map fun p=>kV p.1)) nl
 have eL:(cY PL).map (fun p=>kV p.1)=ps.map fun p=>V.str p.name:=by unfold cY;rw [List.map_map,<-ePL,List.map_map];rfl
 refine⟨_,rfl,n,_,dx,_,_,rfl,(s19 _ _ e18),T.aU.c,T.aU.na.2.2.2.1,(by (repeat first | (rw [aC,if_pos rfl];done) | rw [aC,if_neg (by decide +kernel)])),_,rfl,n,_,dx,_,_,rfl,(s19 _ _ e18),T.aU.c,T.aU.na.2.2.2.2.1,(by (repeat first | (rw [aC,if_pos rfl];done) | rw [aC,if_neg (by decide +kernel)])),l,Gv,Tk,ps,rfl,bK.of (by rw [<-eL];exact ao),by omega,by omega,s19 _ _ eGv,s19 _ _ eTk,nGT,ono,ini,hF.whole.outs.trans hF.whole.ins.symm,hF.whole.hang,fun H20 s20=>?_⟩
 have s:=s19.trans s20
 refine k _ (fun b u hb e=>s _ _ (T18.but b u hb e)) ⟨dx,_,R,F,Pd,Gv,Tk,FL,PL,⟨s _ _ e18,⟨?_,?_⟩,s _ _ eR,s _ _ eF,s _ _ ePd,s _ _ eGv,s _ _ eTk,eFL,ePL,fun q hq=>s.seqT (hS q hq),fun q hq=>(hP q hq).same s,hF,nRF⟩,fun a ha=>?_⟩
 ·intro q hq
  simp only [List.mem_cons,List.not_mem_nil,or_false] at hq
  rcases hq with rfl | rfl | rfl | rfl | rfl <;> (dsimp only;(repeat first | (rw [aC,if_pos rfl];done) | rw [aC,if_neg (by decide +kernel)]))
 ·intro m hm
  have hne:∀m∈(["lane_names", "part_names", "names_of_kind", "gives", "takes", "need_lane_name", "room_of", "first_of", "part_of", "told", "__init__"]:List Str),∀g∈(["takers", "givers", "parts", "firsts", "rooms"]:List Str),¬m=g:=by decide +kernel
  have h:=hne m hm
  rw [aC,if_neg (h _ (by simp)),aC,if_neg (h _ (by simp)),aC,if_neg (h _ (by simp)),aC,if_neg (h _ (by simp)),aC,if_neg (h _ (by simp))]
  rfl
 ·have f:∀{a:Addr} {k:List (Key×V)},H18 a=some (.dK k)->(a=n∨H a=none)->H a=none:=fun e h=>h.resolve_left fun z=>by rw [z,e18] at e;cases e
  simp only [List.mem_cons,List.not_mem_nil,or_false] at ha
  rcases ha with rfl | rfl | rfl | rfl | rfl
  ·exact f eR (T18.fre (_,.dK (dD ls)) (by simp))
  ·exact f eF (T18.fre (_,.dK (bQ FL)) (by simp))
  ·exact f ePd (T18.fre (_,.dK (cY PL)) (by simp))
  ·exact f eGv (T18.fre (_,.dK (dg (·.outs) ps)) (by simp))
  ·exact f eTk (T18.fre (_,.dK (dg (·.ins) ps)) (by simp))
inductive xM (K:PySem.W.Frag) (t:jL) (vs:List V) (H:Hp) (Q:VK) (E_:XK):Prop where
 | mk:∀(f n E G Kp D Rw l:Addr) (ed gd:List (Key×V)) (x:Str) (vs':List V) (g:Nat),vs=[.ref f,.str x]->pZ K t H f n E G Kp D Rw->H E=some (.dK ed)->H G=some (.dK gd)->cD ed (Sum.inr x)=some (.ref l)->cD gd (Sum.inr x)=some (.int g)->bK K H l vs'->Q (.int (vs'.length - g)) H->xM K t vs H Q E_
theorem w5 (T:Txt w K mg t):FO P w K mg base 1 t.tG ["self", "lane"] (xM K t):=by
 have sc:=T.pL.sc ["self", "lane"]
 refine T.pL.F.ok sc ln (fun _ _ _ _ H vs Q E hr h=>?_)
 obtain⟨f,n,E,G,Kp,D,Rw,l,ed,gd,x,vs',g,rfl,N,hE,hG,h3,h4,h5,k⟩:=h
 refine⟨_,(aA (aN (bA Es (bG cz (by rfl) T.gh dY (aa (cG hr.u1 (aQ (pv 0) rfl) (pv 1) (fun _ _=>rfl)) ak aF)) (cG hr.u1 (aQ (pv 0) rfl) (pv 1) (fun _ _=>rfl))))),?_⟩
 obtain⟨dx,fs,h1,h2⟩:=id N.ex
 refine⟨_,rfl,f,_,dx,fs,_,rfl,h1,T.aR.c,T.aR.na.2.1,h2.has ("ever",.ref E) (by simp),_,rfl,E,_,rfl,(by rw [<-h3];exact eE.k (k:=Sum.inr x) hE),?_⟩
 refine⟨.ref l,vs'.length,rfl,.inl ⟨vs',h5,rfl⟩,_,rfl,f,_,dx,fs,_,rfl,h1,T.aR.c,T.aR.na.2.2.1,h2.has ("gone",.ref G) (by simp),_,rfl,G,_,rfl,(by rw [<-h4];exact eE.k (k:=Sum.inr x) hG),?_⟩
 refine⟨_,_,rfl,rfl,?_⟩
 exact k
inductive sE (K:PySem.W.Frag) (t:jL) (vs:List V) (H:Hp) (Q:VK) (E_:XK):Prop where
 | mk:∀(f n E G Kp D Rw l:Addr) (ed gd:List (Key×V)) (x:Str) (vs':List V) (g:Nat),vs=[.ref f,.str x]->pZ K t H f n E G Kp D Rw->H E=some (.dK ed)->H G=some (.dK gd)->cD ed (Sum.inr x)=some (.ref l)->cD gd (Sum.inr x)=some (.int g)->bK K H l vs'->(∀p,H p=none->Q (.ref p) (upd H p (.lst (vs'.drop g))))->sE K t vs H Q E_
theorem Ay (T:Txt w K mg t):FO P w K mg base 1 t.oG ["self", "lane"] (sE K t):=by
 have sc:=T.oV.sc ["self", "lane"]
 refine T.oV.F.ok sc ln (fun _ _ _ _ H vs Q E hr h=>?_)
 obtain⟨f,n,E,G,Kp,D,Rw,l,ed,gd,x,vs',g,rfl,N,hE,hG,h3,h4,h5,k⟩:=h
 refine⟨_,(aA (aN (ji mQ (cG hr.u1 (aQ (pv 0) rfl) (pv 1) (fun _ _=>rfl)) (jK (cG hr.u1 (aQ (pv 0) rfl) (pv 1) (fun _ _=>rfl))) kZ))),?_⟩
 obtain⟨dx,fs,h1,h2⟩:=id N.ex
 refine⟨_,rfl,f,_,dx,fs,_,rfl,h1,T.aR.c,T.aR.na.2.1,h2.has ("ever",.ref E) (by simp),_,rfl,E,_,rfl,(by rw [<-h3];exact eE.k (k:=Sum.inr x) hE),?_⟩
 refine⟨_,rfl,f,_,dx,fs,_,rfl,h1,T.aR.c,T.aR.na.2.2.1,h2.has ("gone",.ref G) (by simp),_,rfl,G,_,rfl,(by rw [<-h4];exact eE.k (k:=Sum.inr x) hG),?_⟩
 refine⟨_,rfl,l,vs',rfl,h5,fun p hp=>?_⟩
 rw [uO]
 exact k p hp
inductive yW (K:PySem.W.Frag) (t:jL) (vs:List V) (H:Hp) (Q:VK) (E_:XK):Prop where
 | mk:∀(f n E G Kp D Rw l:Addr) (ed gd:List (Key×V)) (x:Str) (vs':List V) (g:Nat),vs=[.ref f,.str x]->pZ K t H f n E G Kp D Rw->H E=some (.dK ed)->H G=some (.dK gd)->cD ed (Sum.inr x)=some (.ref l)->cD gd (Sum.inr x)=some (.int g)->bK K H l vs'->Q ((vs'[g]?).getD .non) H->yW K t vs H Q E_
theorem JM (T:Txt w K mg t):FO P w K mg base 2 t.uK ["self", "lane"] (yW K t):=by
 have sc:=T.uI.sc ["self", "lane"]
 refine T.uI.F.ok sc ln (fun _ _ _ _ H vs Q E hr h=>?_)
 obtain⟨f,n,E,G,Kp,D,Rw,l,ed,gd,x,vs',g,rfl,N,hE,hG,h3,h4,h5,k⟩:=h
 refine⟨_,(aA (aN (vp (bF Ka (tD (pv 0) T.aR T.aR.me.2.1 (w5 T) T.pL hr (aa (pv 1) ak aj)) au (bR _)) (bf bw (cG hr.u1 (aQ (pv 0) rfl) (pv 1) (fun _ _=>rfl)) (cG hr.u1 (aQ (pv 0) rfl) (pv 1) (fun _ _=>rfl)) (fun _ _=>rfl)) Ba))),?_⟩
 obtain⟨dx,fs,h1,h2⟩:=id N.ex
 refine⟨_,rfl,f,dx,fs,rfl,h1,h2.no _ (by decide +kernel),_,rfl,f,n,E,G,Kp,D,Rw,l,ed,gd,x,vs',g,rfl,N,hE,hG,h3,h4,h5,?_⟩
 refine⟨_,_,rfl,rfl,_,rfl,kO (fun e=>?_) (fun e=>?_)⟩
 ·have e':g <vs'.length:=by have:=of_decide_eq_true e;omega
  refine⟨_,rfl,f,_,dx,fs,_,rfl,h1,T.aR.c,T.aR.na.2.1,h2.has ("ever",.ref E) (by simp),_,rfl,E,_,rfl,(by rw [<-h3];exact eE.k (k:=Sum.inr x) hE),?_⟩
  refine⟨_,rfl,f,_,dx,fs,_,rfl,h1,T.aR.c,T.aR.na.2.2.1,h2.has ("gone",.ref G) (by simp),_,rfl,G,_,rfl,(by rw [<-h4];exact eE.k (k:=Sum.inr x) hG),?_⟩
  rw [List.getElem?_eq_getElem e'] at k
  exact⟨l,vs',g,_,rfl,rfl,h5,aM (List.getElem?_eq_getElem e'),k⟩
 ·have e':¬g <vs'.length:=fun z=>e (decide_eq_true (by omega))
  rw [List.getElem?_eq_none (by omega)] at k
  exact k
inductive pW (K:PySem.W.Frag) (t:jL) (vs:List V) (H:Hp) (Q:VK):Prop where
 | mk:∀(f n E G Kp D Rw:Addr) (rd dd:List (Key×V)) (x:Str),vs=[.ref f,.str x]->pZ K t H f n E G Kp D Rw->H Rw=some (.dK rd)->H D=some (.dK dd)->(((cD rd (Sum.inr x)=none/\Q (.bl false) H)∨∃(l:Addr) (vs':List V) (g:Nat),cD rd (Sum.inr x)=some (.ref l)/\cD dd (Sum.inr x)=some (.int g)/\bK K H l vs'/\Q (.bl (decide (g=vs'.length))) H))->pW K t vs H Q
@[irreducible] noncomputable def fJ (K:PySem.W.Frag) (t:jL):Sp:=fun vs H Q _=>pW K t vs H Q
theorem za (T:Txt w K mg t):FO P w K mg base 1 t.lL ["self", "name"] (fJ K t):=by
 have sc:=T.lX.sc ["self", "name"]
 refine T.lX.F.ok sc (fun vs H Q E h=>?_) (fun cdv A outer s H vs Q E hr h=>?_)
 ·unfold fJ at h
  obtain⟨f,n,E,G,Kp,D,Rw,rd,dd,x,rfl,_⟩:=h
  rfl
 ·unfold fJ at h
  obtain⟨f,n,E,G,Kp,D,Rw,rd,dd,x,rfl,N,hR,hD,k⟩:=h
  refine⟨_,(aA (aN (yq (JF (Ax hr.u1 (pv 1) (aQ (pv 0) rfl))) (yd (uq iw (cG hr.u1 (aQ (pv 0) rfl) (pv 1) (fun _ _=>rfl)) (bG cz (by rfl) T.gh dY (aa (cG hr.u1 (aQ (pv 0) rfl) (pv 1) (fun _ _=>rfl)) ak aF)) (bR _)))))),?_⟩
  obtain⟨dx,fs,h1,h2⟩:=id N.ex
  refine⟨_,rfl,_,rfl,f,_,dx,fs,_,rfl,h1,T.aR.c,T.aR.na.2.2.2.2.2.1,h2.has ("rows",.ref Rw) (by simp),Rw,_,rfl,eE.k (k:=Sum.inr x) hR,?_⟩
  rcases k with ⟨k1,k⟩ | ⟨l,vs',g,k1,k2,k3,k⟩
  ·rw [k1]
   exact⟨_,rfl,fu k⟩
  ·rw [k1]
   refine⟨_,rfl,kJ ?_⟩
   refine⟨_,rfl,f,_,dx,fs,_,rfl,h1,T.aR.c,T.aR.na.2.2.2.2.1,h2.has ("done",.ref D) (by simp),_,rfl,D,_,rfl,(by rw [<-k2];exact eE.k (k:=Sum.inr x) hD),?_⟩
   refine⟨_,rfl,f,_,dx,fs,_,rfl,h1,T.aR.c,T.aR.na.2.2.2.2.2.1,h2.has ("rows",.ref Rw) (by simp),_,rfl,Rw,_,rfl,(by rw [<-k1];exact eE.k (k:=Sum.inr x) hR),?_⟩
   refine⟨.ref l,vs'.length,rfl,.inl ⟨vs',k3,rfl⟩,rfl,?_⟩
   rw [show decide (V.int (g:Int)=V.int (vs'.length:Int))=decide (g=vs'.length) by rw [decide_eq_decide,V.int.injEq];omega]
   exact k
inductive xx (K:PySem.W.Frag) (t:jL) (vs:List V) (H:Hp) (Q:VK) (E_:XK):Prop where
 | mk:∀(f n E G Kp D Rw p:Addr) (ed gd:List (Key×V)) (i:Nat) (nm:V) (ns os:List V) (xs:List Str) (hv:Str->V),vs=[.ref f,.ref p]->pZ K t H f n E G Kp D Rw->H E=some (.dK ed)->H G=some (.dK gd)->fL K t H p i nm ns (xs.map V.str) os->xs.length<=3->((∀x∈xs,∃(l:Addr) (vs':List V) (g:Nat),cD ed (Sum.inr x)=some (.ref l)/\cD gd (Sum.inr x)=some (.int g)/\bK K H l vs'/\hv x=(vs'[g]?).getD .non))->(∀d,H d=none->Q (.ref d) (upd H d (.lst (xs.map hv))))->xx K t vs H Q E_
theorem xF (T:Txt w K mg t):FO P w K mg base 3 t.uf ["self", "part"] (xx K t):=by
 have sc:=T.pH.sc ["self", "part"]
 refine T.pH.F.ok sc ln (fun _ _ _ _ H vs Q E hr h=>?_)
 obtain⟨f,n,E,G,Kp,D,Rw,p,ed,gd,i,nm,ns,os,xs,hv,rfl,N,hE,hG,hP,hx,hh,k⟩:=h
 refine⟨_,(aA (aN (gZ [0] ["self", "part"] (bc (inClass (top 15) 6)) rfl (HY (aQ (pv 1) rfl)) (fun _ _ _ _ _=>f9) (fun _ _ _ _ _=>(tD (pv 1) T.aR T.aR.me.2.2.2.1 (JM T) T.uI hr (aa (pv 0) ak aj)))))),?_⟩
 obtain⟨dx,fs,h1,h2⟩:=id N.ex
 obtain⟨dxp,tn,ti,to,p1,p2,p3,p4⟩:=id hP.ex
 have hz:sizeLine=16777216:=sizeLine_eq
 refine⟨_,rfl,p,_,dxp,_,_,rfl,p1,eN T i,tH T i,mZ _ _ _ _,ti,rfl,⟨_,p3⟩,?_⟩
 refine JZ (K:=K) (a:=ti) (xs:=xs.map V.str) (fun j ys H'=>H'=H/\ys=(xs.take j).map hv) (by simp;omega) ⟨rfl,rfl⟩ (fun j ys H' ⟨_,e⟩=>by rw [e];simp;omega) (fun j ys H' _ ⟨e,_⟩=>by rw [e];exact p3) ?_ ?_
 ·rintro j y ys H' hy ⟨rfl,rfl⟩
  rw [List.getElem?_map] at hy
  obtain⟨x,hq,rfl⟩:=Option.map_eq_some_iff.mp hy
  obtain⟨l,vs',g,g1,g2,g3,g4⟩:=hh x (List.mem_of_getElem? hq)
  refine yes ⟨_,rfl,f,dx,fs,rfl,h1,h2.no _ (by decide +kernel),_,rfl,f,n,E,G,Kp,D,Rw,l,ed,gd,x,vs',g,rfl,N,hE,hG,g1,g2,g3,rfl,?_⟩
  rw [List.take_succ,hq,Option.toList_some,List.map_append,<-g4]
  rfl
 ·rintro ys H' ⟨rfl,rfl⟩ d hd
  rw [lM,List.take_length]
  exact k d hd
theorem Rk (T:Txt w K mg t) (i:Nat):MethAt P w K mg base Ao 2 (cls t i) "lacks" (zN K t i):=match i with
 | 0=>⟨_,_,_,T.iT.c,(T.bJ.me T.iT.me.2.2.2.1),T.bJ.b,(dB T).imp fun _ _ _ _ h=>⟨_,h⟩⟩
 | 1=>⟨_,_,_,T.jc.c,(T.bJ.me T.jc.me.2.2.2.1),T.bJ.b,(dB T).imp fun _ _ _ _ h=>⟨_,h⟩⟩
 | 2=>⟨_,_,_,T.iH.c,(T.bJ.me T.iH.me.2.2.2.1),T.bJ.b,(dB T).imp fun _ _ _ _ h=>⟨_,h⟩⟩
 | 3=>⟨_,_,_,T.je.c,(T.bJ.me T.je.me.2.2.2.1),T.bJ.b,(dB T).imp fun _ _ _ _ h=>⟨_,h⟩⟩
 | 4=>⟨_,_,_,T.iQ.c,(T.bJ.me T.iQ.me.2.2.2.1),T.bJ.b,(dB T).imp fun _ _ _ _ h=>⟨_,h⟩⟩
 | 5=>⟨_,_,_,T.gH.c,(T.bJ.me T.gH.me.2.2.2.1),T.bJ.b,(dB T).imp fun _ _ _ _ h=>⟨_,h⟩⟩
 | 6=>⟨_,_,_,T.lC.c,(T.bJ.me T.lC.me.2.2.2.1),T.bJ.b,(dB T).imp fun _ _ _ _ h=>⟨_,h⟩⟩
 | 7=>⟨_,_,_,T.iR.c,(T.bJ.me T.iR.me.2.2.2.1),T.bJ.b,(dB T).imp fun _ _ _ _ h=>⟨_,h⟩⟩
 | 8=>⟨_,_,_,T.fM.c,(T.bJ.me T.fM.me.2.2.2.1),T.bJ.b,(dB T).imp fun _ _ _ _ h=>⟨_,h⟩⟩
 | 9=>⟨_,_,_,T.d9.c,(T.bJ.me T.d9.me.2.2.2.1),T.bJ.b,(dB T).imp fun _ _ _ _ h=>⟨_,h⟩⟩
 | n+10=>⟨_,_,_,T.fP.c,(T.bJ.me T.fP.me.2.2.2.1),T.bJ.b,(dB T).imp fun _ _ _ _ h=>⟨_,h⟩⟩
inductive uF (K:PySem.W.Frag) (t:jL) (vs:List V) (H:Hp) (Q:VK) (E:XK):Prop where
 | mk:∀(A:mG) (ls:List aG) (ps:List PD) (S:FS) (p:PD),vs=[.ref A.f,.str p.name]->fO K t H A.n ls ps->dO K t H A ls ps S->p∈ps->(∀H',aJ H H'->Q (jh p.kind p.ins (bx S p)) H')->uF K t vs H Q E
theorem Cr (T:Txt w K mg t):FO P w K mg base 4 t.p7 ["self", "name"] (uF K t):=by
 have sc:=T.qj.sc ["self", "name", "part", "place"]
 refine T.qj.F.ok sc ln (fun _ _ _ _ H vs Q E hr h=>?_)
 obtain⟨A,ls,ps,S,p,rfl,N,W,hp,k⟩:=h
 refine⟨_,(az (sN sc 2 (tD (aQ (pv 0) rfl) T.aU T.aU.me.2.2.2.2.2.2.2.2.2.1 (jz T) T.gM hr (aa (pv 1) ak aj)))
  (az (sN sc 3 (vI (CX:=Ao) (k:=2) (E:=E0) (pv 2) (hr.mono (by decide)) fQ (aa (tD (pv 0) T.aR T.aR.me.2.2.2.2.2.1 (xF T) T.pH hr (aa (pv 2) ak aj)) ak aO)))
  (aA (aN (vp (j4 (El (pv 3))) Ba (bf dN (aQ (pv 2) rfl) (pv 3) (fun _ _=>rfl))))))),?_⟩
 obtain⟨dxn,fsn,R,F,Pd,Gn,Tk,FL,PL,Wn⟩:=id N
 have F:=Wn.fit
 obtain⟨dx,fs,h1,h2⟩:=id W.at'.ex
 have hh1:∀{H':Hp},aJ H H'->(∀x∈p.ins,∃(l:Addr) (vs':List V) (g:Nat),cD (S9 A.ea ls) (Sum.inr x)=some (.ref l)/\cD (cM S.g ls) (Sum.inr x)=some (.int g)/\bK K H' l vs'/\jQ S x=(vs'[g]?).getD .non):=fun s x hx=>by
  obtain⟨l,hl,rfl⟩:=F.inL hp (List.mem_append.mpr (.inl hx))
  exact⟨A.ea l.name,_,S.g l.name,wH F.whole.nod hl,pR F.whole.nod hl,bK.of (s _ _ (W.lists l hl)),by unfold jQ;rw [List.getElem?_map]⟩
 refine⟨_,rfl,A.f,_,dx,fs,_,rfl,h1,T.aR.c,T.aR.na.1,h2.has ("net",.ref A.n) (by simp),A.n,dxn,fsn,rfl,Wn.obj,Wn.fl.no _ (by decide +kernel),_,rfl,A.n,ls,ps,p.name,rfl,N,.inl ⟨p,hp,rfl,fun H1 q s1 P1=>?_⟩⟩
 obtain⟨dxp,tn,ti,to,p1,p2,p3,p4⟩:=id P1.ex
 have W1:=W.same s1
 have hI:=(F.pok p hp).2.2.1
 have hO:=uM S p (F.pok p hp)
 refine⟨_,rfl,q,cls t p.kind,dxp,_,zN K t p.kind,rfl,p1,mK _ _ _ _ (by decide +kernel) (by decide +kernel) (by decide +kernel) (by decide +kernel),Rk T p.kind,?_⟩
 refine⟨_,rfl,A.f,dx,fs,rfl,s1 _ _ h1,h2.no _ (by decide +kernel),_,rfl,A.f,A.n,A.E,A.G,A.Kp,A.D,A.Rw,q,_,_,p.kind,_,_,_,p.ins,jQ S,rfl,W1.at',W1.ever,W1.gone,P1,(by have:=Hr p.kind;omega),hh1 s1,fun d hd=>?_⟩
 have s2:aJ H1 (upd H1 d (.lst (p.ins.map (jQ S)))):=aB hd
 refine⟨q,d,_,_,_,_,bx S p,rfl,P1.same s2,by rw [lM];exact hI,bK.of ao,hO,fun H3 s3=>?_⟩
 have s23:=s2.trans s3
 have k':=k H3 (s1.trans s23)
 have hlt:=lO hO
 unfold jh at k'
 unfold Nu
 cases hf:(places p.kind (bx S p)).find? (xf (bx S p)) with
 | none=>
  rw [hf] at k'
  exact⟨_,rfl,_,rfl,kJ k'⟩
 | some j=>
  rw [hf] at k'
  have hq:j <p.ins.length:=by have:=hlt j (List.mem_of_find?_eq_some hf);unfold bx at this;rwa [lM] at this
  have k':Q (V.str p.ins[j]) H3:=by simpa only [List.getElem?_eq_getElem hq,Option.map_some,Option.getD_some] using k'
  exact⟨_,rfl,_,rfl,fu ⟨_,rfl,q,_,dxp,_,_,rfl,s23 _ _ p1,eN T p.kind,tH T p.kind,mZ _ _ _ _,_,rfl,ti,p.ins.map V.str,j,_,rfl,rfl,s23.seqT p3,aM (j:=j) (by rw [List.getElem?_map,List.getElem?_eq_getElem hq];rfl),k'⟩⟩
theorem O2 (T:Txt w K mg t) {i:Nat} (hi:i <11):MethAt P w K mg base Ao 2 (cls t i) "worked" (fH K t i):=match i,hi with
 | 0,_=>⟨_,_,_,T.iT.c,(T.mJ.me T.iT.me.2.2.2.2.1),T.mJ.b,jB.mono (k:=2) (Dh T) (by decide)⟩
 | 1,_=>⟨_,_,_,T.jc.c,(T.mL.me T.jc.me.2.2.2.2.1),T.mL.b,jB.mono (k:=2) (Eo T) (by decide)⟩
 | 2,_=>⟨_,_,_,T.iH.c,(T.mO.me T.iH.me.2.2.2.2.1),T.mO.b,jB.mono (k:=2) (Do T) (by decide)⟩
 | 3,_=>⟨_,_,_,T.je.c,(T.mz.me T.je.me.2.2.2.2.1),T.mz.b,jB.mono (k:=2) (Df T) (by decide)⟩
 | 4,_=>⟨_,_,_,T.iQ.c,(T.mq.me T.iQ.me.2.2.2.2.1),T.mq.b,jB.mono (k:=2) (Fi T) (by decide)⟩
 | 5,_=>⟨_,_,_,T.gH.c,(T.mW.me T.gH.me.2.2.2.2.1),T.mW.b,jB.mono (k:=2) (Dn T) (by decide)⟩
 | 6,_=>⟨_,_,_,T.lC.c,(T.pK.me T.lC.me.2.2.2.2.1),T.pK.b,jB.mono (k:=2) (Gk T) (by decide)⟩
 | 7,_=>⟨_,_,_,T.iR.c,(T.mF.me T.iR.me.2.2.2.2.1),T.mF.b,jB.mono (k:=2) (Fz T) (by decide)⟩
 | 8,_=>⟨_,_,_,T.fM.c,(T.lB.me T.fM.me.2.2.2.2.1),T.lB.b,jB.mono (k:=2) (Cm T) (by decide)⟩
 | 9,_=>⟨_,_,_,T.d9.c,(T.jX.me T.d9.me.2.2.2.2.1),T.jX.b,jB.mono (k:=2) (Al T) (by decide)⟩
 | 10,_=>⟨_,_,_,T.fP.c,(T.lD.me T.fP.me.2.2.2.2.1),T.lD.b,jB.mono (k:=2) (Cp T) (by decide)⟩
theorem Ys (ns ws:List Int) (kp:Int):∀pv∈cU 0 ns ws kp,∃q:Nat,pv.1=(q:Int)/\q <cO 0:=by
 intro pv h
 simp [cU] at h
 subst h
 exact⟨0,rfl,by decide⟩
theorem YH (ns ws:List Int) (kp:Int):∀pv∈cU 1 ns ws kp,∃q:Nat,pv.1=(q:Int)/\q <cO 1:=by
 intro pv h
 simp [cU] at h
theorem Yi (ns ws:List Int) (kp:Int):∀pv∈cU 2 ns ws kp,∃q:Nat,pv.1=(q:Int)/\q <cO 2:=by
 intro pv h
 simp [cU] at h
 subst h
 exact⟨0,rfl,by decide⟩
theorem Yc (ns ws:List Int) (kp:Int):∀pv∈cU 3 ns ws kp,∃q:Nat,pv.1=(q:Int)/\q <cO 3:=by
 intro pv h
 simp [cU] at h
 rcases h with rfl | rfl
 ·exact⟨0,rfl,by decide⟩
 ·exact⟨1,rfl,by decide⟩
theorem Xn (ns ws:List Int) (kp:Int):∀pv∈cU 4 ns ws kp,∃q:Nat,pv.1=(q:Int)/\q <cO 4:=by
 intro pv h
 simp [cU] at h
 subst h
 exact⟨0,rfl,by decide⟩
theorem Yn (ns ws:List Int) (kp:Int):∀pv∈cU 5 ns ws kp,∃q:Nat,pv.1=(q:Int)/\q <cO 5:=by
 intro pv h
 simp [cU] at h
 subst h
 exact⟨0,rfl,by decide⟩
theorem Yk (ns ws:List Int) (kp:Int):∀pv∈cU 6 ns ws kp,∃q:Nat,pv.1=(q:Int)/\q <cO 6:=by
 intro pv h
 simp [cU] at h
 subst h
 exact⟨0,rfl,by decide⟩
theorem Yr (ns ws:List Int) (kp:Int):∀pv∈cU 7 ns ws kp,∃q:Nat,pv.1=(q:Int)/\q <cO 7:=by
 intro pv h
 simp [cU] at h
 subst h
 exact⟨0,rfl,by decide⟩
theorem Xu (ns ws:List Int) (kp:Int):∀pv∈cU 8 ns ws kp,∃q:Nat,pv.1=(q:Int)/\q <cO 8:=by
 intro pv h
 simp [cU] at h
 rcases h with rfl | rfl
 ·exact⟨0,rfl,by decide⟩
 ·exact⟨1,rfl,by decide⟩
theorem XN (ns ws:List Int) (kp:Int):∀pv∈cU 9 ns ws kp,∃q:Nat,pv.1=(q:Int)/\q <cO 9:=by
 intro pv h
 simp [cU] at h
 subst h
 exact⟨0,rfl,by decide⟩
theorem Wm (ns ws:List Int) (kp:Int):∀pv∈cU 10 ns ws kp,∃q:Nat,pv.1=(q:Int)/\q <cO 10:=by
 intro pv h
 simp [cU] at h
 subst h
 have h0:=Int.emod_nonneg (g0 ws) (show(2:Int)≠0 by decide)
 have h1:=Int.emod_lt_of_pos (g0 ws) (show(0:Int) <2 by decide)
 exact⟨(g0 ws % 2).toNat,by show g0 ws % 2=_;omega,by show(g0 ws % 2).toNat <2;omega⟩
theorem Jw {i:Nat} (hi:i<=10) (ns ws:List Int) (kp:Int):∀pv∈cU i ns ws kp,∃q:Nat,pv.1=(q:Int)/\q <cO i:=by
 match i,hi with
 | 0,_=>exact Ys ns ws kp
 | 1,_=>exact YH ns ws kp
 | 2,_=>exact Yi ns ws kp
 | 3,_=>exact Yc ns ws kp
 | 4,_=>exact Xn ns ws kp
 | 5,_=>exact Yn ns ws kp
 | 6,_=>exact Yk ns ws kp
 | 7,_=>exact Yr ns ws kp
 | 8,_=>exact Xu ns ws kp
 | 9,_=>exact XN ns ws kp
 | 10,_=>exact Wm ns ws kp
 | (n+11),z=>exact absurd z (by omega)
theorem Fj (i:Nat) (ns ws:List Int) (kp:Int):(cU i ns ws kp).length<=2:=match i with
 | 0=>by simp [cU]
 | 1=>by simp [cU]
 | 2=>by simp [cU]
 | 3=>by simp [cU]
 | 4=>by simp [cU]
 | 5=>by simp [cU]
 | 6=>by simp [cU]
 | 7=>by simp [cU]
 | 8=>by simp [cU]
 | 9=>by simp [cU]
 | n+10=>by simp [cU]
noncomputable def nameAt (xs:List Str) (q:Nat):V:=V.str ((xs[q]?).getD Str.empty)
theorem Vo {H:Hp} {Q:VK} {Ex:XK} {f n E G Kp D Rw:Addr} {rd dd:List (Key×V)} {y:Str} (N:pZ K t H f n E G Kp D Rw) (hR:H Rw=some (.dK rd)) (hD:H D=some (.dK dd))
  (k:(cD rd (Sum.inr y)=none/\Q (.bl false) H)∨∃(l:Addr) (vs':List V) (g:Nat),cD rd (Sum.inr y)=some (.ref l)/\cD dd (Sum.inr y)=some (.int g)/\bK K H l vs'/\Q (.bl (decide (g=vs'.length))) H):fJ K t [.ref f,.str y] H Q Ex:=by
 unfold fJ
 exact⟨f,n,E,G,Kp,D,Rw,rd,dd,y,rfl,N,hR,hD,k⟩
theorem XC {i:Nat} (h0:i≠0) (hi:i <11) (h9:i≠9):cV i=cI i:=by
 match i,h0,hi with
 | 1,_,_=>rfl
 | 2,_,_=>rfl
 | 3,_,_=>rfl
 | 4,_,_=>rfl
 | 5,_,_=>rfl
 | 6,_,_=>rfl
 | 7,_,_=>rfl
 | 8,_,_=>rfl
 | 9,_,_=>exact absurd rfl h9
 | 10,_,_=>rfl
theorem CK {S:FS} {p:PD} (ok:qb p) (hl:jh p.kind p.ins (bx S p)=.non):∀q∈places p.kind (bx S p),∃x n,p.ins[q]?=some x/\(bx S p)[q]?=some (.int n)/\(S.ev x)[S.g x]?=some n:=by
 have hO:=uM S p ok
 have hf:(places p.kind (bx S p)).find? (xf (bx S p))=none:=by
  cases hf:(places p.kind (bx S p)).find? (xf (bx S p)) with
  | none=>rfl
  | some j=>
   unfold jh at hl
   rw [hf] at hl
   have hq:j <p.ins.length:=by have:=lO hO j (List.mem_of_find?_eq_some hf);unfold bx at this;rwa [lM] at this
   simp only [List.getElem?_eq_getElem hq,Option.map_some,Option.getD_some] at hl
   cases hl
 intro q hq
 have h1:=List.find?_eq_none.mp hf q hq
 have hlt:=lO hO q hq
 have hlt':q <p.ins.length:=by unfold bx at hlt;rwa [lM] at hlt
 have e:(bx S p)[q]?=some (jQ S p.ins[q]):=by unfold bx;rw [List.getElem?_map,List.getElem?_eq_getElem hlt'];rfl
 refine⟨p.ins[q],?_⟩
 unfold xf at h1
 rw [e] at h1 ⊢
 unfold jQ at h1 ⊢
 cases h0:(S.ev p.ins[q])[S.g p.ins[q]]? with
 | none=>rw [h0] at h1;exact absurd (by simp) h1
 | some n=>exact⟨n,List.getElem?_eq_getElem hlt',by simp,rfl⟩
theorem RQ {b:Nat} {ls:List aG} {ps:List PD} {S:FS} (F:qF ls ps) (O:Jt b ls ps S) {p:PD} (hp:p∈ps) (hl:jh p.kind p.ins (bx S p)=.non) (he:yD S p=false):(vo S p).length=cV p.kind/\Xf (vo S p)/\
  (p.kind≠0->(places p.kind (bx S p)).map (fun q=>((bx S p)[q]?).getD .non)=(vo S p).map V.int)/\(p.kind=0->∃w,(S.r p.name)[S.d p.name]?=some w/\vo S p=[w]):=by
 have ok:=F.pok p hp
 have hn:=CK ok hl
 by_cases h0:p.kind=0
 ·have hd:=O.dl p hp h0
  have hlt:S.d p.name <(S.r p.name).length:=by
   unfold yD at he
   simp [h0] at he
   omega
  have e:=List.getElem?_eq_getElem hlt
  have ew:vo S p=[(S.r p.name)[S.d p.name]]:=by unfold vo;rw [if_pos h0,e];rfl
  refine⟨by rw [ew,h0];rfl,fun w hw=>?_,fun z=>absurd h0 z,fun _=>⟨_,e,ew⟩⟩
  rw [ew,List.mem_singleton] at hw
  subst hw
  exact O.rb p hp h0 _ (List.getElem_mem hlt)
 ·have ew:vo S p=(places p.kind (bx S p)).map fun q=>Vb (((bx S p)[q]?).getD .non):=by unfold vo;rw [if_neg h0]
  refine⟨?_,fun w hw=>?_,fun _=>?_,fun z=>absurd z h0⟩
  ·rw [ew,lM]
   by_cases h9:p.kind=9
   ·have h3:=hn
    unfold places at h3 ⊢
    rw [if_pos h9] at h3 ⊢
    split
    ·rw [h9];rfl
    ·rename_i hno
     obtain⟨x,n,_,h3,_⟩:=h3 0 (by split <;> simp)
     cases hs:bx S p with
     | nil=>rw [hs] at h3;cases h3
     | cons a r=>
      rw [hs] at h3
      have:a=.int n:=by simpa using h3
      exact absurd (by rw [hs,this]) (hno n r)
   ·unfold places
    rw [if_neg h9,List.length_range,(uM S p ok).1,XC h0 ok.1 h9]
  ·rw [ew] at hw
   obtain⟨q,hq,rfl⟩:=List.mem_map.mp hw
   obtain⟨x,n,hx,h3,h4⟩:=hn q hq
   rw [h3]
   show 0<=n/\n <1000000000
   obtain⟨l,hll,rfl⟩:=F.inL hp (List.mem_append.mpr (.inl (List.mem_of_getElem? hx)))
   exact O.vb l hll n (List.mem_of_getElem? h4)
  ·rw [ew,List.map_map]
   refine List.map_congr_left fun q hq=>?_
   obtain⟨x,n,_,h3,_⟩:=hn q hq
   show _=V.int (Vb _)
   rw [h3]
   rfl
theorem M6 {S:FS} {p:PD} (h:jh p.kind p.ins (bx S p)≠.non):fK S p=none:=by unfold fK;rw [if_pos h]
theorem O8 {S:FS} {p:PD} (h:yD S p=true):fK S p=none:=by unfold fK;split <;> simp [h]
inductive xQ (K:PySem.W.Frag) (t:jL) (vs:List V) (H:Hp) (Q:VK):Prop where
 | mk:∀(b:Nat) (A:mG) (ls:List aG) (ps:List PD) (S:FS) (p:PD),vs=[.ref A.f,.str p.name]->fO K t H A.n ls ps->dO K t H A ls ps S->p∈ps->Jt b ls ps S->((fK S p=none->∀H',aJ H H'->Q .non H'))->(∀dd,fK S p=some dd->∀H' U,aJ H H'->H U=none->oX (A.cells ls ps) H' U dd->Q (.ref U) H')->xQ K t vs H Q
@[irreducible] noncomputable def kY (K:PySem.W.Frag) (t:jL):Sp:=fun vs H Q _=>xQ K t vs H Q
noncomputable abbrev qU:List Str:=["self", "name", "part", "heads", "places", "values", "answer", "given"]
theorem Jp (T:Txt w K mg t):FO P w K mg base 5 t.wg ["self", "name"] (kY K t):=by
 have sc:=T.v9.sc qU
 refine T.v9.F.ok sc (fun vs H Q E h=>?_) (fun cdv A outer s H vs Q E hr h=>?_)
 ·unfold kY at h
  obtain⟨b,A,ls,ps,S,p,rfl,_⟩:=h
  rfl
 ·unfold kY at h
  obtain⟨b,A,ls,ps,S,p,rfl,N,W,hp,O,kn,k⟩:=h
  refine⟨_,(az (cC (PW.pt (wB (j4 (IW (tD (pv 0) T.aR T.aR.me.2.2.2.2.2.2.1 (Cr T) T.qj hr (aa (pv 1) ak aj)))) (qm (lg (tD (pv 0) T.aR T.aR.me.2.2.2.2.1 (za T) T.lX hr (aa (pv 1) ak aj))))))
    (aA (aN Ba))
    bL)
   (az (sN sc 2 (tD (aQ (pv 0) rfl) T.aU T.aU.me.2.2.2.2.2.2.2.2.2.1 (jz T) T.gM hr (aa (pv 1) ak aj)))
   (az (sN sc 3 (tD (pv 0) T.aR T.aR.me.2.2.2.2.2.1 (xF T) T.pH hr (aa (pv 2) ak aj)))
   (az (sN sc 4 (vI (CX:=Ao) (k:=1) (E:=E0) (pv 2) (hr.mono (by decide)) fQ (aa (pv 3) ak aj)))
   (az (jg (i:=5) [3] qU (bc (inClass (top 15) 9)) rfl sc.nd rfl (b8 (pv 4)) (fun _ _ _ _ _=>f9) (fun _ _ _ _ _=>(bf (Q6 (K:=K) rfl) (pv 1) (pv 0) (fun _ _=>rfl))))
   (az (iY (cC (j4 (Ax hr.u1 (pv 1) (aQ (pv 0) rfl)))
    (aA (sN sc 5 (bM (aa (bf bw (cG hr.u1 (aQ (pv 0) rfl) (pv 1) (fun _ _=>rfl)) (cG hr.u1 (aQ (pv 0) rfl) (pv 1) (fun _ _=>rfl)) (fun _ _=>rfl)) ak aF))))
    bL))
   (az (sN sc 6 (vI (CX:=Ao) (k:=2) (E:=E0) (pv 2) (hr.mono (by decide)) fQ (aa (pv 5) (aa (cG hr.u1 (aQ (pv 0) rfl) (pv 1) (fun _ _=>rfl)) ak aF) aj)))
   (az (Qo (i:=7) ["place", "value"] [2] qU (bc (inClass (top 15) 9)) rfl sc.nd rfl (b8 (bf dN (pv 6) au (fun _ _=>rfl))) (fun _ _ _ _ _=>yH (K:=K) (n:=2) rfl rfl (bU (jF (i:=0) (show(["place", "value", "part"]:List Str).Nodup by decide +kernel) rfl (Or.inl rfl) (.inr rfl)) (bU (jF (i:=1) (show(["place", "value", "part"]:List Str).Nodup by decide +kernel) rfl (Or.inl rfl) (.inr rfl)) jH))) (fun _ _ _ _ _=>f9) (fun _ _ _ _ _=>(cB (aa (bf (gw (K:=K) rfl) (uv (K:=K) rfl (pv 2) rfl) (pv 0) (fun _ _=>rfl)) (aa (pv 1) ak aj) aF))))
   (aA (aN (cB (aa (gZ [2] qU (bc (inClass (top 15) 9)) rfl (b8 (pv 4)) (fun _ _ _ _ _=>f9) (fun _ _ _ _ _=>(bf (gw (K:=K) rfl) (uv (K:=K) rfl (pv 1) rfl) (pv 0) (fun _ _=>rfl)))) (aa (pv 7) (aa (bf dN (pv 6) au (fun _ _=>rfl)) ak aF) aj) dX)))))))))))),?_⟩
  obtain⟨dxn,fsn,R,F,Pd,Gn,Tk,FL,PL,Wn⟩:=id N
  have F:=Wn.fit
  obtain⟨dx,fs,h1,h2⟩:=id W.at'.ex
  have ok:=F.pok p hp
  have hO:=uM S p ok
  have hI:=ok.2.2.1
  have hh1:∀{H':Hp},aJ H H'->(∀x∈p.ins,∃(l:Addr) (vs':List V) (g:Nat),cD (S9 A.ea ls) (Sum.inr x)=some (.ref l)/\cD (cM S.g ls) (Sum.inr x)=some (.int g)/\bK K H' l vs'/\jQ S x=(vs'[g]?).getD .non):=fun s x hx=>by
   obtain⟨l,hl,rfl⟩:=F.inL hp (List.mem_append.mpr (.inl hx))
   exact⟨A.ea l.name,_,S.g l.name,wH F.whole.nod hl,pR F.whole.nod hl,bK.of (s _ _ (W.lists l hl)),by unfold jQ;rw [List.getElem?_map]⟩
  have hz:sizeLine=16777216:=sizeLine_eq
  have hpl:(places p.kind (bx S p)).length<=3:=places_len hO
  refine⟨_,rfl,A.f,dx,fs,rfl,h1,h2.no _ (by decide +kernel),_,rfl,A,ls,ps,S,p,rfl,N,W,hp,fun H1 s1=>?_⟩
  by_cases hlk:jh p.kind p.ins (bx S p)≠.non
  ·have e:(!decide (jh p.kind p.ins (bx S p)=V.non))=true:=by simp [hlk]
   refine⟨_,rfl,?_⟩
   rw [e]
   exact kJ (kJ (kn (M6 hlk) H1 s1))
  have hlk:=Classical.not_not.mp hlk
  rw [hlk]
  have W1:=W.same s1
  refine⟨_,rfl,fu ⟨_,rfl,A.f,dx,fs,rfl,s1 _ _ h1,h2.no _ (by decide +kernel),_,rfl,?_⟩⟩
  have vd:=pN (k:=fun x=>(S.d x:Int)) F.pnd hp
  cases he:yD S p with
  | true=>
   have h0:p.kind=0/\S.d p.name=(S.r p.name).length:=by unfold yD at he;simpa using he
   refine Vo W1.at' W1.rows W1.done (.inr ⟨_,_,S.d p.name,vf F.pnd hp h0.1,vd,bK.of (W1.rlst p hp h0.1),?_⟩)
   rw [decide_eq_true (by rw [lM];exact h0.2)]
   exact⟨_,rfl,kJ (kn (O8 he) H1 s1)⟩
  | false=>
  obtain⟨lw,hB,hv,hw0⟩:=RQ F O hp hlk he
  have k':=k _ (show fK S p=some _ by unfold fK;rw [if_neg (by simp [hlk]),if_neg (by simp [he])])
  have hwl:=Jw (show p.kind<=10 by have:=ok.1;omega) p.nums (vo S p) (S.k p.name)
  have hw2:=Fj p.kind p.nums (vo S p) (S.k p.name)
  have pick:∀(Q':VK) (E':XK),Q' (.bl false) H1->fJ K t [.ref A.f,.str p.name] H1 Q' E':=by
   intro Q' E' z
   refine Vo W1.at' W1.rows W1.done ?_
   by_cases h0:p.kind=0
   ·refine .inr ⟨_,_,S.d p.name,vf F.pnd hp h0,vd,bK.of (W1.rlst p hp h0),?_⟩
    obtain⟨w,ew,_⟩:=hw0 h0
    have:=(List.getElem?_eq_some_iff.mp ew).1
    rw [decide_eq_false (by rw [lM];omega)]
    exact z
   ·exact .inl ⟨Nz F.pnd hp h0,z⟩
  refine pick _ _ ?_
  clear pick
  refine⟨_,rfl,fu ?_⟩
  have Wn1:=Wn.same s1
  refine⟨_,rfl,A.f,_,dx,fs,_,rfl,s1 _ _ h1,T.aR.c,T.aR.na.1,h2.has ("net",.ref A.n) (by simp),A.n,dxn,fsn,rfl,Wn1.obj,Wn1.fl.no _ (by decide +kernel),_,rfl,A.n,ls,ps,p.name,rfl,Wn1.s,.inl ⟨p,hp,rfl,fun H2 q s2' hP=>?_⟩⟩
  have s2:=s1.trans s2'
  have W2:=W.same s2
  obtain⟨dxp,tn,ti,to,p1,p2,p3,p4⟩:=id hP.ex
  clear s2' W1 Wn1
  refine⟨_,rfl,A.f,dx,fs,rfl,s2 _ _ h1,h2.no _ (by decide +kernel),_,rfl,A.f,A.n,A.E,A.G,A.Kp,A.D,A.Rw,q,_,_,p.kind,_,_,_,p.ins,jQ S,rfl,W2.at',W2.ever,W2.gone,hP,(by have:=Hr p.kind;omega),hh1 s2,fun d hd=>?_⟩
  have s3':=aB (o:=.lst (bx S p)) hd
  have ed3:(upd H2 d (.lst (p.ins.map (jQ S)))) d=some (.lst (bx S p)):=ao
  change aJ H2 (upd H2 d (.lst (p.ins.map (jQ S)))) at s3'
  generalize upd H2 d (.lst (p.ins.map (jQ S)))=H3 at s3' ed3 ⊢
  have s3:=s2.trans s3'
  refine⟨_,rfl,q,cls t p.kind,dxp,_,pM K t p.kind,rfl,s3' _ _ p1,mK _ _ _ _ (by decide +kernel) (by decide +kernel) (by decide +kernel) (by decide +kernel),Hv T p.kind,_,rfl,q,d,_,_,_,_,bx S p,rfl,hP.same s3',by rw [lM];exact hI,bK.of ed3,hO,fun H4 L s4' nL eL=>?_⟩
  have s24:=s3'.trans s4'
  have s4:=s3.trans s4'
  have ed4:=s4' _ _ ed3
  refine⟨_,rfl,L,rfl,⟨_,bK.of eL⟩,fW (K:=K) (a:=L) (xs:=(places p.kind (bx S p)).map nV) (fun j ys H'=>H'=H4/\ys=((places p.kind (bx S p)).take j).map (fun q=>((bx S p)[q]?).getD .non)) (by rw [lM];omega) ⟨rfl,rfl⟩ (fun j ys H' ⟨_,e⟩=>by rw [e,lM,List.length_take];omega) (fun j ys H' _ ⟨e,_⟩=>by rw [e];exact bK.of eL) ?_ ?_⟩
  ·rintro j v ys H' hv' ⟨e',rfl⟩
   subst e'
   rw [List.getElem?_map] at hv'
   obtain⟨r,hr',rfl⟩:=Option.map_eq_some_iff.mp hv'
   have hql:r <(bx S p).length:=lO hO r (List.mem_of_getElem? hr')
   refine yes ⟨_,rfl,_,rfl,d,bx S p,r,_,rfl,rfl,bK.of ed4,aM (j:=r) (List.getElem?_eq_getElem hql),rfl,?_⟩
   rw [List.take_succ,hr',Option.toList_some,List.map_append,List.map_cons,List.map_nil,List.getElem?_eq_getElem hql]
   rfl
  rintro ys H' ⟨e',rfl⟩ V1 hV1
  subst e'
  rw [lM,List.take_length]
  have s5':=aB (o:=.lst ((places p.kind (bx S p)).map fun q=>((bx S p)[q]?).getD .non)) hV1
  have eV:(upd H' V1 (.lst ((places p.kind (bx S p)).map fun q=>((bx S p)[q]?).getD .non))) V1=some (.lst ((places p.kind (bx S p)).map fun q=>((bx S p)[q]?).getD .non)):=ao
  generalize upd H' V1 (.lst ((places p.kind (bx S p)).map fun q=>((bx S p)[q]?).getD .non))=H5 at s5' eV ⊢
  have s25:=s24.trans s5'
  have s5:=s4.trans s5'
  have W5:=W.same s5
  refine⟨fun σ' H6=>∃V2,aJ H H6/\aJ H2 H6/\aJ H' H6/\σ'=[some (.ref A.f),some (.str p.name),some (.ref q),some (.ref d),some (.ref L),some (.ref V2),none,none]/\H6 V2=some (.lst ((vo S p).map V.int)),?_,?_⟩
  ·refine⟨_,rfl,_,rfl,A.f,_,dx,fs,_,rfl,s5 _ _ h1,T.aR.c,T.aR.na.2.2.2.2.2.1,h2.has ("rows",.ref A.Rw) (by simp),A.Rw,_,rfl,eE.k (k:=Sum.inr p.name) W5.rows,?_⟩
   by_cases h0:p.kind=0
   ·obtain⟨w,ew,eW⟩:=hw0 h0
    have v1:=vf (ra:=A.ra) F.pnd hp h0
    rw [v1,eW]
    refine⟨_,rfl,kJ ?_⟩
    refine⟨_,rfl,A.f,_,dx,fs,_,rfl,s5 _ _ h1,T.aR.c,T.aR.na.2.2.2.2.2.1,h2.has ("rows",.ref A.Rw) (by simp),_,rfl,A.Rw,_,rfl,(by rw [<-v1];exact eE.k (k:=Sum.inr p.name) W5.rows),?_⟩
    refine⟨_,rfl,A.f,_,dx,fs,_,rfl,s5 _ _ h1,T.aR.c,T.aR.na.2.2.2.2.1,h2.has ("done",.ref A.D) (by simp),_,rfl,A.D,_,rfl,(by rw [<-vd];exact eE.k (k:=Sum.inr p.name) W5.done),?_⟩
    refine⟨A.ra p.name,_,S.d p.name,_,rfl,rfl,bK.of (W5.rlst p hp h0),aM (j:=S.d p.name) (by rw [List.getElem?_map,ew];rfl),jt,fun V2 hV2=>?_⟩
    exact⟨V2,s5.trans (aB hV2),s25.trans (aB hV2),s5'.trans (aB hV2),rfl,ao⟩
   ·rw [Nz F.pnd hp h0]
    exact⟨_,rfl,fu ⟨V1,s5,s25,s5',rfl,by rw [<-hv h0];exact eV⟩⟩
  rintro σ' H6 ⟨V2,s6,s26,s46,rfl,eV2⟩
  clear W5 W2 s25 s24 s5 s5' s4 s3 s3' eV ed4 ed3
  have W6:=W.same s6
  have hkp:=pN (k:=S.k) F.pnd hp
  refine⟨_,rfl,q,cls t p.kind,dxp,_,fH K t p.kind,rfl,s26 _ _ p1,mK _ _ _ _ (by decide +kernel) (by decide +kernel) (by decide +kernel) (by decide +kernel),O2 T ok.1,_,rfl,_,rfl,A.f,_,dx,fs,_,rfl,s6 _ _ h1,T.aR.c,T.aR.na.2.2.2.1,h2.has ("kept",.ref A.Kp) (by simp),_,rfl,A.Kp,_,rfl,(by rw [<-hkp];exact eE.k (k:=Sum.inr p.name) W6.kept),?_⟩
  refine⟨q,V2,_,p.nums,_,_,vo S p,S.k p.name,rfl,hP.same s26,ok.2.1,bK.of eV2,lw,hB,fun H7 U0 L0 rs s7 nL0 eU0 eL0 tU=>?_⟩
  have s57:=s6.trans s7
  have s27:=s26.trans s7
  have eL7:=s7 _ _ (s46 _ _ eL)
  have hlr:rs.length=(cU p.kind p.nums (vo S p) (S.k p.name)).length:=by have:=Paired.length tU;unfold JS at this;rw [lM] at this;exact this
  clear W6
  refine⟨_,rfl,U0,_,0,_,rfl,rfl,fC.of eU0,aM (j:=0) rfl,L0,rfl,⟨_,bK.of eL0⟩,?_⟩
  refine xX (K:=K) (a:=L0) (xs:=rs.map V.ref) (fun j ys H8=>aJ H7 H8/\∃qs:List Addr,ys=qs.map V.ref/\jP H8 qs (((cU p.kind p.nums (vo S p) (S.k p.name)).take j).map fun pv=>[.str (strAt p.outs pv.1.toNat),.int pv.2])) (by rw [lM];omega) ⟨aJ.refl _,[],rfl,.nil⟩ ?_ (fun j ys H8 _ ⟨e,_⟩=>e.seq (bK.of eL0)) ?_ ?_
  ·rintro j ys H8 ⟨_,qs,rfl,tq⟩
   have:=Paired.length tq
   rw [lM,List.length_take] at this
   rw [lM]
   omega
  ·rintro j v ys H8 hj ⟨s8,qs,rfl,tq⟩
   rw [List.getElem?_map] at hj
   obtain⟨r,hr',rfl⟩:=Option.map_eq_some_iff.mp hj
   have hjl:j <(cU p.kind p.nums (vo S p) (S.k p.name)).length:=by have:=(List.getElem?_eq_some_iff.mp hr').1;omega
   obtain⟨pv,hpv⟩:∃pv,(cU p.kind p.nums (vo S p) (S.k p.name))[j]?=some pv:=⟨_,List.getElem?_eq_getElem hjl⟩
   have hr2:H7 r=some (.tup [.int pv.1,.int pv.2]):=by
    obtain⟨vs2,z1,z2⟩:=zF tU hr'
    unfold JS at z1
    rw [List.getElem?_map,hpv] at z1
    cases z1
    exact z2
   obtain⟨o,ho1,ho2⟩:=hwl _ (List.mem_of_getElem? hpv)
   have ho3:o <p.outs.length:=by rw [ok.2.2.2.1];exact ho2
   have hn:strAt p.outs o=p.outs[o]:=by unfold strAt;rw [List.getElem?_eq_getElem ho3];rfl
   refine⟨r,_,rfl,fC.of (s8 _ _ hr2),rfl,_,_,rfl,_,_,rfl,rfl,rfl,?_⟩
   refine yes ⟨_,rfl,q,_,dxp,_,_,rfl,s8 _ _ (s27 _ _ p1),eN T p.kind,wO T p.kind,sJ _ _ _ _,_,rfl,to,p.outs.map V.str,_,.str (strAt p.outs o),rfl,rfl,s8.seqT (s27.seqT p4),?_,_,rfl,jt,fun u hu=>⟨s8.trans (aB hu),qs ++ [u],by simp,?_⟩⟩
   ·rw [ho1,hn]
    exact aM (j:=o) (by rw [List.getElem?_map,List.getElem?_eq_getElem ho3];rfl)
   ·rw [List.take_succ,hpv,Option.toList_some,List.map_append]
    refine(jP.same (aB hu) tq).append (.cons ?_ .nil)
    show upd H8 u _ u=some (HO.tup [V.str (strAt p.outs pv.1.toNat),V.int pv.2])
    rw [ho1,Int.toNat_natCast]
    exact ao
  rintro ys H8 ⟨s8,qs,rfl,tq⟩ Lg hLg
  rw [lM,hlr,List.take_length] at tq
  have t9:=aB (o:=.lst (qs.map V.ref)) hLg
  have s9':=s8.trans t9
  have tq9:=jP.same t9 tq
  have eLg:(upd H8 Lg (.lst (qs.map V.ref))) Lg=some (.lst (qs.map V.ref)):=ao
  generalize upd H8 Lg (.lst (qs.map V.ref))=H9 at t9 s9' tq9 eLg ⊢
  have s9:=s57.trans s9'
  have s29:=s27.trans s9'
  have eL9:=s9' _ _ eL7
  have eU9:=s9' _ _ eU0
  refine⟨_,rfl,L,rfl,⟨_,bK.of eL9⟩,fW (K:=K) (a:=L) (xs:=(places p.kind (bx S p)).map nV) (fun j ys H'=>H'=H9/\ys=((places p.kind (bx S p)).take j).map (fun q=>V.str (strAt p.ins q))) (by rw [lM];omega) ⟨rfl,rfl⟩ (fun j ys H' ⟨_,e⟩=>by rw [e,lM,List.length_take];omega) (fun j ys H' _ ⟨e,_⟩=>by rw [e];exact bK.of eL9) ?_ ?_⟩
  ·rintro j v ys HX hv' ⟨e',rfl⟩
   subst e'
   rw [List.getElem?_map] at hv'
   obtain⟨r,hr',rfl⟩:=Option.map_eq_some_iff.mp hv'
   have hql:r <p.ins.length:=by have:=lO hO r (List.mem_of_getElem? hr');unfold bx at this;rwa [lM] at this
   have hn:strAt p.ins r=p.ins[r]:=by unfold strAt;rw [List.getElem?_eq_getElem hql];rfl
   refine yes ⟨_,rfl,q,_,dxp,_,_,rfl,s29 _ _ p1,eN T p.kind,tH T p.kind,mZ _ _ _ _,_,rfl,ti,p.ins.map V.str,r,.str (strAt p.ins r),rfl,rfl,s29.seqT p3,by rw [hn];exact aM (j:=r) (by rw [List.getElem?_map,List.getElem?_eq_getElem hql];rfl),rfl,?_⟩
   rw [List.take_succ,hr',Option.toList_some,List.map_append]
   rfl
  rintro ys H10 ⟨e',rfl⟩ La hLa
  subst e'
  rw [lM,List.take_length]
  have s10':=aB (o:=.lst ((places p.kind (bx S p)).map fun q=>V.str (strAt p.ins q))) hLa
  refine⟨_,rfl,_,rfl,U0,_,1,_,rfl,rfl,fC.of (s10' _ _ eU9),aM (j:=1) rfl,jt,fun U hU=>?_⟩
  refine k' _ U ((s9.trans s10').trans (aB hU)) ((s9.trans s10').free hU) ⟨La,Lg,qs,ao,?_,aB hU _ _ (s10' _ _ eLg),?_,W.cell (s9.free hLa),W.cell ((s57.trans s8).free hLg)⟩
  ·rw [List.map_map]
   exact aB hU _ _ ao
  ·rw [List.map_map]
   exact jP.same (s10'.trans (aB hU)) tq9
theorem O4 (g:Str->Nat) {ls:List aG} {x:Str} (hx:x∈ls.map (·.name)) (v:Nat):putK (cM g ls) (Sum.inr x) (.int (v:Nat))=cM (fun y=>if y=x then v else g y) ls:=by
 unfold putK
 rw [if_pos (by
  obtain⟨l,hl,rfl⟩:=List.mem_map.mp hx
  exact List.any_eq_true.mpr ⟨_,List.mem_map.mpr ⟨l,hl,rfl⟩,by simp⟩)]
 unfold cM
 rw [List.map_map]
 refine List.map_congr_left fun l _=>?_
 by_cases h:l.name=x
 ·simp [h]
 ·simp [h]
theorem GC (g:Str->Int) {ps:List PD} {x:Str} (hx:x∈ps.map (·.name)) (v:Int):putK (cP g ps) (Sum.inr x) (.int v)=cP (fun y=>if y=x then v else g y) ps:=by
 unfold putK
 rw [if_pos (by
  obtain⟨l,hl,rfl⟩:=List.mem_map.mp hx
  exact List.any_eq_true.mpr ⟨_,List.mem_map.mpr ⟨l,hl,rfl⟩,by simp⟩)]
 unfold cP
 rw [List.map_map]
 refine List.map_congr_left fun l _=>?_
 by_cases h:l.name=x
 ·simp [h]
 ·simp [h]
noncomputable def kW (S:FS) (x:Str) (dd:iW):FS:=⟨fun y=>S.ev y ++ (dd.gv.filter fun q=>decide (q.1=y)).map (·.2),fun y=>if y∈dd.tk then S.g y+1 else S.g y,fun y=>if y=x then dd.kv else S.k y,fun y=>if y=x then S.d y+1 else S.d y,S.r⟩
noncomputable def FW (M:List Addr) (H H':Hp):Prop:=∀b,b∉M->H' b=H b
structure Iu (ls:List aG) (dd:iW):Prop where
 ntk:dd.tk.Nodup
 tin:∀x∈dd.tk,x∈ls.map (·.name)
 gin:∀q∈dd.gv,q.1∈ls.map (·.name)
 g2:dd.gv.length<=2
inductive Bw (K:PySem.W.Frag) (t:jL) (vs:List V) (H:Hp) (Q:VK):Prop where
 | mk:∀(b:Nat) (A:mG) (ls:List aG) (ps:List PD) (S:FS) (p:PD) (U:Addr) (dd:iW),vs=[.ref A.f,.str p.name,.ref U]->qF ls ps->dO K t H A ls ps S->p∈ps->((∀l∈ls,(S.ev l.name).length<=b))->b<=100000->oX (A.cells ls ps) H U dd->Iu ls dd->(∀H',FW (A.cells ls ps) H H'->dO K t H' A ls ps (kW S p.name dd)->Q .non H')->Bw K t vs H Q
@[irreducible] noncomputable def qz (K:PySem.W.Frag) (t:jL):Sp:=fun vs H Q _=>Bw K t vs H Q
theorem Mr (T:Txt w K mg t):FO P w K mg base 1 t.zY ["self", "name", "deed"] (qz K t):=by
 have sc:=T.Ac.sc ["self", "name", "deed", "lane", "value"]
 refine T.Ac.F.ok sc (fun vs H Q E h=>?_) (fun cdv A outer s H vs Q E hr h=>?_)
 ·unfold qz at h
  obtain⟨b,A,ls,ps,S,p,U,dd,rfl,_⟩:=h
  rfl
 ·unfold qz at h
  obtain⟨b,A,ls,ps,S,p,U,dd,rfl,F,W,hp,O,hb,⟨La,Lg,rs,hU,hLa,hLg,hT,na,ng⟩,⟨ntk,hin,hout,hg2⟩,k⟩:=h
  refine⟨_,(az (d7 PassesOwn.never rfl (b8 (bf dN (pv 2) au (fun _ _=>rfl))) (gN sc 3)
    (aA (Od hr.u1 (aQ (pv 0) rfl) (pv 3) au Iz (fun _ _ _=>rfl))))
   (az (d7 PassesOwn.never rfl (b8 (bf dN (pv 2) au (fun _ _=>rfl))) (tE rfl (bU (gN sc 3) (bU (gN sc 4) jH)))
    (aA (bN (IK (cG hr.u1 (aQ (pv 0) rfl) (pv 3) (fun _ _=>rfl)) (aa (pv 4) ak aj)))))
   (az (gU hr.u1 (aQ (pv 0) rfl) (pv 1) (bf dN (pv 2) au (fun _ _=>rfl)) rfl)
   (aA (Od hr.u1 (aQ (pv 0) rfl) (pv 1) au Iz (fun _ _ _=>rfl)))))),?_⟩
  have hl:sizeLine=16777216:=sizeLine_eq
  have l24:=F.l24
  have p16:=F.p16
  obtain⟨dx,fs,h1,h2⟩:=id W.at'.ex
  have hG:=W.gone
  have hn:=W.nod
  unfold mG.cells at hn na ng
  simp only [List.nodup_cons,List.mem_cons,List.mem_append,not_or] at hn na ng
  obtain⟨⟨nEG,nEK,nED,nER,nEE,nE2⟩,⟨nGK,nGD,nGR,nGE,nG2⟩,⟨nKD,nKR,nKE,nK2⟩,⟨nDR,nDE,nD2⟩,⟨nRE,nR2⟩,nA⟩:=hn
  obtain⟨nE1,nR1,nER1⟩:=List.nodup_append.mp nA
  refine⟨_,rfl,U,_,0,_,rfl,rfl,fC.of hU,aM (j:=0) rfl,La,rfl,⟨_,bK.of hLa⟩,d8 (K:=K) (a:=La) (xs:=dd.tk.map V.str) (fun j σ H'=>H'=upd H A.G (.dK (cM (fun x=>if x∈dd.tk.take j then S.g x+1 else S.g x) ls))/\∃v3,σ=[some (.ref A.f),some (.str p.name),some (.ref U),v3,none]) ⟨?_,none,rfl⟩ ?_ ?_ ?_⟩
  ·have:cM (fun x=>if x∈dd.tk.take 0 then S.g x+1 else S.g x) ls=cM S.g ls:=by simp
   rw [this,JG hG]
  ·rintro j σ H' _ ⟨rfl,_⟩
   exact bK.of (jo hG hLa (by intro _ z;cases z))
  ·rintro j x σ H' hx ⟨rfl,v3,rfl⟩
   rw [List.getElem?_map] at hx
   obtain⟨y,hy,rfl⟩:=Option.map_eq_some_iff.mp hx
   have hym:=hin y (List.mem_of_getElem? hy)
   have nin:y∉dd.tk.take j:=by
    have:=nC (f:=id) (xs:=dd.tk) (by rw [List.map_id];exact ntk) hy
    rwa [List.map_id] at this
   have vg:cD (cM (fun x=>if x∈dd.tk.take j then S.g x+1 else S.g x) ls) (Sum.inr y)=some (.int ((S.g y:Nat):Int)):=by
    obtain⟨l,hl',rfl⟩:=List.mem_map.mp hym
    rw [pR F.whole.nod hl',if_neg nin]
   refine⟨_,rfl,A.f,_,dx,fs,_,rfl,jo hG h1 (by intro _ z;cases z),T.aR.c,T.aR.na.2.2.1,h2.has ("gone",.ref A.G) (by simp),_,rfl,A.G,.int ((S.g y:Nat):Int),rfl,(by rw [<-vg];exact eE.k (k:=Sum.inr y) ao),_,_,rfl,rfl,_,qD.k (k:=Sum.inr y) ao (by unfold cM;rw [lM];omega),?_,_,rfl⟩
   rw [tO]
   show upd H A.G (.dK (putK _ (Sum.inr y) (.int ((S.g y+1:Nat):Int))))=_
   rw [O4 _ hym (S.g y+1)]
   have:(fun z=>if z=y then S.g y+1 else if z∈dd.tk.take j then S.g z+1 else S.g z)=fun z=>if z∈dd.tk.take (j+1) then S.g z+1 else S.g z:=by
    funext z
    simp only [List.take_succ,hy,Option.toList_some,List.mem_append,List.mem_singleton]
    by_cases h3:z=y <;> by_cases h4:z∈dd.tk.take j <;> simp [h3,h4]
   rw [this]
  rintro σ H' ⟨rfl,v3,rfl⟩
  rw [lM,List.take_length]
  have m1:FW [A.G] H (upd H A.G (.dK (cM (kW S p.name dd).g ls))):=fun b hb=>aH (by simpa using hb)
  have gG:upd H A.G (.dK (cM (kW S p.name dd).g ls)) A.G=some (.dK (cM (kW S p.name dd).g ls)):=ao
  change zr _ _ _ _ (upd H A.G (.dK (cM (kW S p.name dd).g ls)))
  generalize upd H A.G (.dK (cM (kW S p.name dd).g ls))=H1 at m1 gG ⊢
  have g1:∀{b:Addr} {u:HO},H b=some u->(∀ks,u≠.dK ks)->H1 b=some u:=fun {b u} h hu=>by
   rw [m1 b (by rw [List.mem_singleton];rintro rfl;rw [hG] at h;exact hu _ (Option.some.inj h).symm)]
   exact h
  have hlr:rs.length=dd.gv.length:=by have:=Paired.length hT;rw [lM] at this;exact this
  have eE1:H1 A.E=some (.dK (S9 A.ea ls)):=by rw [m1 A.E (by simpa using nEG)];exact W.ever
  have lists1:∀l∈ls,H1 (A.ea l.name)=some (.lst ((S.ev l.name).map V.int)):=fun l hl=>g1 (W.lists l hl) (by intro _ z;cases z)
  have nM:∀{b:Addr} {u:HO},H1 b=some u->(∀ks,u≠.lst ks)->b∉ls.map (fun l=>A.ea l.name):=fun {b u} h hu hm=>by
   obtain⟨l,hl,rfl⟩:=List.mem_map.mp hm
   rw [lists1 l hl] at h
   exact hu _ (Option.some.inj h).symm
  refine⟨_,rfl,U,_,1,_,rfl,rfl,fC.of (g1 hU (by intro _ z;cases z)),aM (j:=1) rfl,Lg,rfl,⟨_,bK.of (g1 hLg (by intro _ z;cases z))⟩,d8 (K:=K) (a:=Lg) (xs:=rs.map V.ref) (fun j σ H'=>(FW (ls.map (fun l=>A.ea l.name)) H1 H'/\∀l∈ls,H' (A.ea l.name)=some (.lst ((S.ev l.name ++ ((dd.gv.take j).filter fun q=>decide (q.1=l.name)).map (·.2)).map V.int)))/\∃v3 v4,σ=[some (.ref A.f),some (.str p.name),some (.ref U),v3,v4]) ⟨⟨fun _ _=>rfl,fun l hl=>?_⟩,v3,none,rfl⟩ ?_ ?_ ?_⟩
  ·rw [lists1 l hl]
   simp
  ·rintro j σ H' _ ⟨⟨m2,_⟩,_⟩
   exact bK.of (by rw [m2 Lg ng.2.2.2.2.2.1];exact g1 hLg (by intro _ z;cases z))
  ·rintro j x σ H' hx ⟨⟨m2,l2⟩,v3,v4,rfl⟩
   rw [List.getElem?_map] at hx
   obtain⟨r,hr',rfl⟩:=Option.map_eq_some_iff.mp hx
   obtain⟨vs2,z1,z2⟩:=zF hT hr'
   rw [List.getElem?_map] at z1
   obtain⟨w,ew,rfl⟩:=Option.map_eq_some_iff.mp z1
   have hj:=(List.getElem?_eq_some_iff.mp ew).1
   have er:=g1 z2 (by intro _ z;cases z)
   have er':H' r=some (.tup [.str w.1,.int w.2]):=by rw [m2 r (nM er (by intro _ z;cases z))];exact er
   have fe:H' A.f=some (.ins t.cL dx fs):=by
    have e1:=g1 h1 (by intro _ z;cases z)
    rw [m2 A.f (nM e1 (by intro _ z;cases z))]
    exact e1
   have ee:H' A.E=some (.dK (S9 A.ea ls)):=by rw [m2 A.E nEE];exact eE1
   obtain⟨l,hl',hln⟩:=List.mem_map.mp (hout w (List.mem_of_getElem? ew))
   have va:=wH (ea:=A.ea) F.whole.nod hl'
   have ea:=l2 _ hl'
   rw [hln] at va
   refine⟨r,_,rfl,fC.of er',rfl,_,_,rfl,_,_,rfl,rfl,?_⟩
   refine⟨_,rfl,A.f,_,dx,fs,_,rfl,fe,T.aR.c,T.aR.na.2.1,h2.has ("ever",.ref A.E) (by simp),_,rfl,A.E,.ref (A.ea w.1),rfl,(by rw [<-va];exact eE.k (k:=Sum.inr w.1) ee),.inl ⟨rfl,_,bK.of (by rw [<-hln];exact ea)⟩,?_⟩
   refine⟨_,rfl,A.ea w.1,_,.int w.2,rfl,rfl,by rw [<-hln];exact ea,?_,⟨fun b hb=>?_,fun l1 hl1=>?_⟩,some (.str w.1),some (.int w.2),rfl⟩
   ·have h3:=O l hl'
    have h4:=List.length_filter_le (fun q:Str×Int=>decide (q.1=l.name)) (dd.gv.take j)
    rw [List.length_take] at h4
    rw [lM,lP,lM]
    omega
   ·rw [aH (fun z=>hb (by rw [z,<-hln];exact List.mem_map.mpr ⟨l,hl',rfl⟩))]
    exact m2 b hb
   ·rw [List.take_succ,ew,Option.toList_some,List.filter_append,List.map_append]
    by_cases h:w.1=l1.name
    ·have e:l1=l:=by
      have a1:=find_name F.whole.nod hl1
      have a2:=find_name F.whole.nod hl'
      rw [<-h,<-hln,a2] at a1
      exact(Option.some.inj a1).symm
     subst e
     rw [<-hln,ao]
     simp [h]
    ·have hne:A.ea l1.name≠A.ea w.1:=fun z=>by
      rw [<-hln] at z
      have:=qw nE1 hl1 hl' z
      exact h (by rw [this,hln])
     rw [aH hne,l2 l1 hl1]
     simp [h]
  rintro σ H2 ⟨⟨m2,l2⟩,v5,v6,rfl⟩
  rw [lM,hlr,List.take_length] at l2
  have fe:H2 A.f=some (.ins t.cL dx fs):=by
   have e1:=g1 h1 (by intro _ z;cases z)
   rw [m2 A.f (nM e1 (by intro _ z;cases z))]
   exact e1
  have uE:H2 U=some (.tup [.ref La,.ref Lg,.int dd.kv]):=by
   have e1:=g1 hU (by intro _ z;cases z)
   rw [m2 U (nM e1 (by intro _ z;cases z))]
   exact e1
  have kE:H2 A.Kp=some (.dK (cP S.k ps)):=by rw [m2 A.Kp nKE,m1 A.Kp (by simpa using Ne.symm nGK)];exact W.kept
  have dE:H2 A.D=some (.dK (cP (fun x=>(S.d x:Int)) ps)):=by rw [m2 A.D nDE,m1 A.D (by simpa using Ne.symm nGD)];exact W.done
  have lk:∀k1:Str->Int,(cP k1 ps).length <sizeLine:=fun k1=>by unfold cP;rw [lM];omega
  have hpn:p.name∈ps.map (·.name):=List.mem_map.mpr ⟨p,hp,rfl⟩
  refine⟨_,rfl,U,_,2,_,rfl,rfl,fC.of uE,aM (j:=2) rfl,_,rfl,A.f,_,dx,fs,_,rfl,fe,T.aR.c,T.aR.na.2.2.2.1,h2.has ("kept",.ref A.Kp) (by simp),_,rfl,A.Kp,_,rfl,qD.k (k:=Sum.inr p.name) kE (lk _),?_⟩
  rw [GC S.k hpn]
  have m3:FW [A.Kp] H2 (upd H2 A.Kp (.dK (cP (fun y=>if y=p.name then dd.kv else S.k y) ps))):=fun b hb=>aH (by simpa using hb)
  have kE3:upd H2 A.Kp (.dK (cP (fun y=>if y=p.name then dd.kv else S.k y) ps)) A.Kp=some (.dK (cP (fun y=>if y=p.name then dd.kv else S.k y) ps)):=ao
  generalize upd H2 A.Kp (.dK (cP (fun y=>if y=p.name then dd.kv else S.k y) ps))=H3 at m3 kE3 ⊢
  have fe3:H3 A.f=some (.ins t.cL dx fs):=by rw [m3 A.f (by simpa using uC fe kE (by intro z;cases z))];exact fe
  have dE3:H3 A.D=some (.dK (cP (fun x=>(S.d x:Int)) ps)):=by rw [m3 A.D (by simpa using Ne.symm nKD)];exact dE
  have vd:=pN (k:=fun x=>(S.d x:Int)) F.pnd hp
  refine⟨_,rfl,A.f,_,dx,fs,_,rfl,fe3,T.aR.c,T.aR.na.2.2.2.2.1,h2.has ("done",.ref A.D) (by simp),_,rfl,A.D,.int (S.d p.name:Int),rfl,(by rw [<-vd];exact eE.k (k:=Sum.inr p.name) dE3),_,_,rfl,rfl,_,qD.k (k:=Sum.inr p.name) dE3 (lk _),?_⟩
  rw [GC (fun x=>(S.d x:Int)) hpn]
  have eD:(fun y=>if y=p.name then(S.d p.name:Int)+1 else(S.d y:Int))=fun x=>(((kW S p.name dd).d x:Nat):Int):=by
   funext y
   unfold kW
   by_cases h:y=p.name
   ·subst h;simp
   ·simp [h]
  change Q .non (upd H3 A.D (.dK (cP (fun y=>if y=p.name then(S.d p.name:Int)+1 else(S.d y:Int)) ps)))
  rw [eD]
  have m4:FW [A.D] H3 (upd H3 A.D (.dK (cP (fun x=>(((kW S p.name dd).d x:Nat):Int)) ps))):=fun b hb=>aH (by simpa using hb)
  have dE4:upd H3 A.D (.dK (cP (fun x=>(((kW S p.name dd).d x:Nat):Int)) ps)) A.D=some (.dK (cP (fun x=>(((kW S p.name dd).d x:Nat):Int)) ps)):=ao
  generalize upd H3 A.D (.dK (cP (fun x=>(((kW S p.name dd).d x:Nat):Int)) ps))=H4 at m4 dE4 ⊢
  have mv:∀b,b≠A.D->b≠A.Kp->H4 b=H2 b:=fun b a1 a2=>by rw [m4 b (by simpa using a1),m3 b (by simpa using a2)]
  have fe4:H4 A.f=some (.ins t.cL dx fs):=by rw [m4 A.f (by simpa using uC fe3 dE3 (by intro z;cases z))];exact fe3
  refine k H4 (fun b hb=>?_) ⟨⟨dx,fs,fe4,h2⟩,?_,?_,?_,?_,dE4,?_,?_,W.nod⟩
  ·unfold mG.cells at hb
   simp only [List.mem_cons,List.mem_append,not_or] at hb
   rw [mv b hb.2.2.2.1 hb.2.2.1,m2 b hb.2.2.2.2.2.1,m1 b (by simpa using hb.2.1)]
  ·rw [mv A.E nED nEK,m2 A.E nEE,eE1]
  ·intro l hl
   have a2:=l2 l hl
   rw [mv _ (uC a2 dE (by intro z;cases z)) (uC a2 kE (by intro z;cases z))]
   exact a2
  ·rw [mv A.G nGD nGK,m2 A.G nGE,gG]
  ·rw [m4 A.Kp (by simpa using nKD)]
   exact kE3
  ·rw [mv A.Rw (Ne.symm nDR) (Ne.symm nKR),m2 A.Rw nRE,m1 A.Rw (by simpa using Ne.symm nGR)]
   exact W.rows
  ·intro p' hp' h0
   have hm:A.ra p'.name∈(gf ps).map (fun p=>A.ra p.name):=List.mem_map.mpr ⟨p',List.mem_filter.mpr ⟨hp',by simp [h0]⟩,rfl⟩
   rw [mv _ (fun z=>nD2 (by rw [<-z];exact hm)) (fun z=>nK2 (by rw [<-z];exact hm)),m2 _ (fun z=>nER1 _ z _ hm rfl),m1 _ (by simpa using fun z=>nG2 (by rw [<-z];exact hm))]
   exact W.rlst p' hp' h0
theorem SJ (T:Txt w K mg t) (i:Nat):MethAt P w K mg base Ao 1 (cls t i) "start" (vh K t i):=match i with
 | 0=>⟨_,_,_,T.iT.c,(T.bO.me T.iT.me.2.2.2.2.2.1),T.bO.b,(dW T).imp fun _ _ _ _ h=>⟨_,by omega,h⟩⟩
 | 1=>⟨_,_,_,T.jc.c,(T.bO.me T.jc.me.2.2.2.2.2.1),T.bO.b,(dW T).imp fun _ _ _ _ h=>⟨_,by omega,h⟩⟩
 | 2=>⟨_,_,_,T.iH.c,(T.bO.me T.iH.me.2.2.2.2.2.1),T.bO.b,(dW T).imp fun _ _ _ _ h=>⟨_,by omega,h⟩⟩
 | 3=>⟨_,_,_,T.je.c,(T.bO.me T.je.me.2.2.2.2.2.1),T.bO.b,(dW T).imp fun _ _ _ _ h=>⟨_,by omega,h⟩⟩
 | 4=>⟨_,_,_,T.iQ.c,(T.bO.me T.iQ.me.2.2.2.2.2.1),T.bO.b,(dW T).imp fun _ _ _ _ h=>⟨_,by omega,h⟩⟩
 | 5=>⟨_,_,_,T.gH.c,(T.o8.me T.gH.me.2.2.2.2.2.1),T.o8.b,FT T⟩
 | 6=>⟨_,_,_,T.lC.c,(T.bO.me T.lC.me.2.2.2.2.2.1),T.bO.b,(dW T).imp fun _ _ _ _ h=>⟨_,by omega,h⟩⟩
 | 7=>⟨_,_,_,T.iR.c,(T.bO.me T.iR.me.2.2.2.2.2.1),T.bO.b,(dW T).imp fun _ _ _ _ h=>⟨_,by omega,h⟩⟩
 | 8=>⟨_,_,_,T.fM.c,(T.bO.me T.fM.me.2.2.2.2.2.1),T.bO.b,(dW T).imp fun _ _ _ _ h=>⟨_,by omega,h⟩⟩
 | 9=>⟨_,_,_,T.d9.c,(T.bO.me T.d9.me.2.2.2.2.2.1),T.bO.b,(dW T).imp fun _ _ _ _ h=>⟨_,by omega,h⟩⟩
 | n+10=>⟨_,_,_,T.fP.c,(T.bO.me T.fP.me.2.2.2.2.2.1),T.bO.b,(dW T).imp fun _ _ _ _ h=>⟨_,by omega,h⟩⟩
theorem Uy:∀i,i <11->cT i= "give" ->i=0:=by decide +kernel
theorem Py (p:PD) (h:qb p):Im p.kind (p.nums.map V.int)=.int (uU p):=by
 unfold Im uU
 by_cases h5:p.kind=5
 ·rw [if_pos h5,if_pos h5]
  have hl:p.nums.length=1:=by rw [h.2.1,h5];rfl
  match p.nums,hl with
  | [m],_=>rfl
 ·rw [if_neg h5,if_neg h5]
noncomputable def Lq (ls:List aG) (x:Str):List Int:=((ls.find? fun l=>decide (l.name=x)).map (·.first)).getD []
theorem vy {ls:List aG} (nd:(ls.map (·.name)).Nodup) {l:aG} (hl:l∈ls):Lq ls l.name=l.first:=by
 unfold Lq
 rw [find_name nd hl]
 rfl
noncomputable def jR (RW:List (Str×Addr×List Int)):List (Key×V):=RW.map fun q=>((Sum.inr q.1:Key),V.ref q.2.1)
noncomputable def qH (RW:List (Str×Addr×List Int)) (x:Str):List Int:=((RW.find? fun q=>decide (q.1=x)).map (·.2.2)).getD []
structure nZ (H:Hp) (rw:Addr) (RW:List (Str×Addr×List Int)):Prop where
 dict:H rw=some (.dK (jR RW))
 lists:∀q∈RW,H q.2.1=some (.lst (q.2.2.map V.int))
 nd:(RW.map (·.1)).Nodup
 len:∀q∈RW,q.2.2.length<=300
theorem nZ.same {H H':Hp} {rw:Addr} {RW:List (Str×Addr×List Int)} (h:nZ H rw RW) (s:aJ H H'):nZ H' rw RW:=⟨s _ _ h.dict,fun q hq=>s _ _ (h.lists q hq),h.nd,h.len⟩
theorem yo (RW:List (Str×Addr×List Int)):(jR RW).map (·.1)=(RW.map (·.1)).map (fun x=>(Sum.inr x:Key)):=by unfold jR;rw [List.map_map,List.map_map];rfl
theorem nZ.get {H:Hp} {rw:Addr} {RW:List (Str×Addr×List Int)} (h:nZ H rw RW) (x:Str):(cD (jR RW) (Sum.inr x)=none/\qH RW x=[])∨∃a,cD (jR RW) (Sum.inr x)=some (.ref a)/\H a=some (.lst ((qH RW x).map V.int))/\(qH RW x).length<=300:=by
 by_cases hx:x∈RW.map (·.1)
 ·obtain⟨q,hq,rfl⟩:=List.mem_map.mp hx
  have e:qH RW q.1=q.2.2:=by unfold qH;rw [find_name (f:=fun q:Str×Addr×List Int=>q.1) h.nd hq];rfl
  refine .inr ⟨q.2.1,ju (by rw [yo];exact ik h.nd) (List.mem_map.mpr ⟨q,hq,rfl⟩),?_,?_⟩
  ·rw [e];exact h.lists q hq
  ·rw [e];exact h.len q hq
 ·refine .inl ⟨ig (by rw [yo];intro z;obtain⟨b,hb,e⟩:=List.mem_map.mp z;cases e;exact hx hb),?_⟩
  unfold qH
  rw [List.find?_eq_none.mpr fun q hq=>by simpa using fun e=>hx (List.mem_map.mpr ⟨q,hq,e⟩)]
  rfl
noncomputable def fB (ls:List aG) (ps:List PD) (RW:List (Str×Addr×List Int)):FS:=⟨Lq ls,fun _=>0,fD ps,fun _=>0,qH RW⟩
noncomputable def J6 (RW:List (Str×Addr×List Int)) (RL:List (PD×Addr)):List (Addr×HO):=RL.map fun q=>(q.2,HO.lst ((qH RW q.1.name).map V.int))
theorem Mt {ps:List PD} (h:∀p∈ps,qb p):(ps.filter fun p=>decide (cT p.kind= "give"))=gf ps:=by
 unfold gf
 refine List.filter_congr fun p hp=>?_
 by_cases h0:p.kind=0
 ·rw [h0];rfl
 ·have:¬cT p.kind= "give" :=fun z=>h0 (Uy _ (h p hp).1 z)
  simp [h0,this]
noncomputable def u9 {α:Type} (f:α->Str) (L:List (α×Addr)) (x:Str):Addr:=((L.find? fun q=>decide (f q.1=x)).map (·.2)).getD 0
theorem m8 {α:Type} {f:α->Str} {L:List (α×Addr)} (nd:(L.map fun q=>f q.1).Nodup) {q:α×Addr} (hq:q∈L):u9 f L (f q.1)=q.2:=by
 unfold u9
 rw [find_name (f:=fun q:α×Addr=>f q.1) nd hq]
 rfl
theorem GP {α:Type} {f:α->Str} {L:List (α×Addr)} (nd:(L.map fun q=>f q.1).Nodup):(L.map (·.1)).map (fun a=>u9 f L (f a))=L.map (·.2):=by
 rw [List.map_map]
 exact List.map_congr_left fun q hq=>m8 nd hq
inductive qO (K:PySem.W.Frag) (t:jL) (vs:List V) (H:Hp) (Q:VK):Prop where
 | mk:∀(H0:Hp) (f dx n rw:Addr) (ls:List aG) (ps:List PD) (RW:List (Str×Addr×List Int)),vs=[.ref f,.ref n,.ref rw]->H f=some (.ins t.cL dx [])->aJ H0 H->H0 f=none->fO K t H0 n ls ps->nZ H0 rw RW->(∀H' A,A.f=f->A.n=n->m5 f H H'->dO K t H' A ls ps (fB ls ps RW)->(∀a∈A.cells ls ps,H a=none)->Q .non H')->qO K t vs H Q
@[irreducible] noncomputable def iB (K:PySem.W.Frag) (t:jL):Sp:=fun vs H Q _=>qO K t vs H Q
theorem z7 (T:Txt w K mg t):FO P w K mg base 4 t.oM ["self", "net", "rows"] (iB K t):=by
 have sc:=T.jY.sc ["self", "net", "rows", "lane", "name", "door"]
 refine T.jY.F.ok sc (fun vs H Q E h=>?_) (fun cdv A outer s H vs Q E hr h=>?_)
 ·unfold iB at h
  obtain⟨H0,f,dx,n,rw,ls,ps,RW,rfl,_⟩:=h
  rfl
 ·unfold iB at h
  obtain⟨H0,f,dx,n,rw,ls,ps,RW,rfl,hf,s0,nf0,N,hrw,k⟩:=h
  refine⟨_,(az (jq (pv 0) (pv 1) rfl)
   (az (jq (pv 0) il rfl)
   (az (jq (pv 0) il rfl)
   (az (d7 PassesOwn.never rfl (b8 (J5 (pv 1) T.aU T.aU.me.2.1 (lE T) T.iD hr)) (gN sc 3)
    (az (gU hr.u1 (aQ (pv 0) rfl) (pv 3) (tD (pv 1) T.aU T.aU.me.2.2.2.2.2.2.2.2.1 (Cq T) T.qx hr (aa (pv 3) ak aj)) rfl)
    (aA (gU hr.u1 (aQ (pv 0) rfl) (pv 3) au rfl))))
   (az (jq (pv 0) il rfl)
   (az (jq (pv 0) il rfl)
   (az (d7 PassesOwn.never rfl (b8 (J5 (pv 1) T.aU T.aU.me.2.2.1 (jr T) T.fV hr)) (gN sc 4)
    (az (gU hr.u1 (aQ (pv 0) rfl) (pv 4) (wG (CX:=Ao) (k:=1) (E:=E0) (tD (pv 1) T.aU T.aU.me.2.2.2.2.2.2.2.2.2.1 (jz T) T.gM hr (aa (pv 4) ak aj)) (hr.mono (by decide)) fQ) rfl)
    (aA (gU hr.u1 (aQ (pv 0) rfl) (pv 4) au rfl))))
   (az (jq (pv 0) il rfl)
   (aA (d7 PassesOwn.never rfl (b8 (J5 (pv 1) T.aU T.aU.me.2.2.2.2.1 (pA T) T.kI hr)) (gN sc 5)
    (aA (gU hr.u1 (aQ (pv 0) rfl) (pv 5) (cW iJ (by rfl) T.j7 iK (aa (Le hr.u1 (pv 2) (pv 5) (bM ak) ⟨rfl,rfl,rfl,rfl⟩) ak aO)) rfl)))))))))))),?_⟩
  obtain⟨dxn,fsn,R,F,Pd,Gn,Tk,FL,PL,W⟩:=id N
  have hl:sizeLine=16777216:=sizeLine_eq
  have l24:=W.fit.l24
  have p16:=W.fit.p16
  have sk:∀{Hk:Hp},m5 f H Hk->aJ H0 Hk:=fun b x o e=>b x o (aD e nf0) (s0 x o e)
  have T0:=Tr.start hf
  refine⟨_,rfl,_,rfl,f,_,dx,[],rfl,hf,T.aR.c,T.aR.na.1,by show 0 <1000;decide,?_⟩
  have T1:=T0.put (L1:=[]) (L2:=[]) (o':=.ins t.cL dx (aK "net" (.ref n) []))
  generalize upd H f (.ins t.cL dx (aK "net" (.ref n) []))=H1 at T1 ⊢
  refine fun E nE=>?_
  have T2:=T1.new (o:=.dK []) nE
  generalize upd H1 E (.dK [])=H2 at T2 ⊢
  refine⟨_,rfl,f,_,dx,_,rfl,T2.all (f,_) (.head _),T.aR.c,T.aR.na.2.1,Nat.lt_of_le_of_lt (jj (Nat.zero_le 0)) (by decide),?_⟩
  have T3:=T2.put (L1:=[]) (o':=.ins t.cL dx (aK "ever" (.ref E) (aK "net" (.ref n) [])))
  generalize upd H2 f (.ins t.cL dx (aK "ever" (.ref E) (aK "net" (.ref n) [])))=H3 at T3 ⊢
  refine fun G nG=>?_
  have T4:=T3.new (o:=.dK []) nG
  generalize upd H3 G (.dK [])=H4 at T4 ⊢
  refine⟨_,rfl,f,_,dx,_,rfl,T4.all (f,_) (.head _),T.aR.c,T.aR.na.2.2.1,Nat.lt_of_le_of_lt (jj (jj (Nat.zero_le 0))) (by decide),?_⟩
  have T5:=T4.put (L1:=[]) (o':=.ins t.cL dx (aK "gone" (.ref G) (aK "ever" (.ref E) (aK "net" (.ref n) []))))
  generalize upd H4 f (.ins t.cL dx (aK "gone" (.ref G) (aK "ever" (.ref E) (aK "net" (.ref n) []))))=H5 at T5 ⊢
  have W5:=W.same (sk T5.but)
  refine⟨_,rfl,n,dxn,fsn,rfl,W5.obj,W5.fl.no _ (by decide +kernel),n,ls,ps,rfl,W5.s,fun l nl=>?_⟩
  have T6:Tr H f ((f,.ins t.cL dx (aK "gone" (.ref G) (aK "ever" (.ref E) (aK "net" (.ref n) [])))):: (E,.dK (bQ [])):: (G,.dK (cM (fun _=>0) [])):: (l,.lst (ls.map fun x:aG=>V.str x.name)):: lK []) (upd H5 l (.lst (ls.map fun x:aG=>V.str x.name))):=T5.new nl
  generalize upd H5 l (.lst (ls.map fun x:aG=>V.str x.name))=H6 at T6 ⊢
  clear T0 T1 T2 T3 T4 T5 W5
  refine⟨l,rfl,⟨_,bK.of (T6.all (l,.lst (ls.map fun x:aG=>V.str x.name)) (by simp))⟩,d8 (K:=K) (a:=l) (xs:=ls.map fun x:aG=>V.str x.name) (fun j σ H'=>(∃v3,σ=[some (.ref f),some (.ref n),some (.ref rw),v3,none,none])/\∃EL:List (aG×Addr),EL.map (·.1)=ls.take j/\Tr H f ((f,.ins t.cL dx (aK "gone" (.ref G) (aK "ever" (.ref E) (aK "net" (.ref n) [])))):: (E,.dK (bQ EL)):: (G,.dK (cM (fun _=>0) (ls.take j))):: (l,.lst (ls.map fun x:aG=>V.str x.name)):: lK EL) H') ⟨⟨none,rfl⟩,[],rfl,T6⟩ (fun j σ H' _ ⟨_,_,_,T'⟩=>bK.of (T'.all (l,.lst (ls.map fun x:aG=>V.str x.name)) (by simp))) ?_ ?_⟩
  ·rintro j x σ H' hx ⟨⟨v3,rfl⟩,EL,eEL,T7⟩
   rw [List.getElem?_map] at hx
   obtain⟨ln,hlj,rfl⟩:=Option.map_eq_some_iff.mp hx
   have hm:=List.mem_of_getElem? hlj
   have hj:=(List.getElem?_eq_some_iff.mp hlj).1
   have nin:=nC W.fit.whole.nod hlj
   have vE:cD (bQ EL) (Sum.inr ln.name)=none:=ig (by rw [ul,eEL];intro z;obtain⟨b,hb,e⟩:=List.mem_map.mp z;cases e;exact nin hb)
   have vG:cD (cM (fun _=>0) (ls.take j)) (Sum.inr ln.name)=none:=ig (by rw [yt];intro z;obtain⟨b,hb,e⟩:=List.mem_map.mp z;cases e;exact nin hb)
   have tk:ls.take (j+1)=ls.take j ++ [ln]:=by rw [List.take_succ,hlj];rfl
   have lEL:EL.length<=24:=by have:=congrArg List.length eEL;rw [lM,List.length_take] at this;omega
   have W7:=W.same (sk T7.but)
   refine⟨_,rfl,n,dxn,fsn,rfl,W7.obj,W7.fl.no _ (by decide +kernel),_,rfl,n,ls,ps,ln.name,rfl,W7.s,.inl ⟨ln,hm,rfl,fun H8 le s8 nle ele=>?_⟩⟩
   have T8:Tr H f ((f,.ins t.cL dx (aK "gone" (.ref G) (aK "ever" (.ref E) (aK "net" (.ref n) [])))):: (E,.dK (bQ EL)):: (G,.dK (cM (fun _=>0) (ls.take j))):: (l,.lst (ls.map fun x:aG=>V.str x.name)):: lK (EL ++ [(ln,le)])) H8:=by
    unfold lK
    rw [List.map_append]
    exact T7.got s8 nle ele
   refine⟨_,rfl,f,_,dx,_,_,rfl,T8.all (f,_) (.head _),T.aR.c,T.aR.na.2.1,(by (repeat first | (rw [aC,if_pos rfl];done) | rw [aC,if_neg (by decide +kernel)])),_,rfl,E,_,rfl,qD.k (k:=Sum.inr ln.name) (T8.all (E,.dK (bQ EL)) (by simp)) (by unfold bQ;rw [lM];omega),?_⟩
   have e8:putK (bQ EL) (Sum.inr ln.name) (.ref le)=bQ (EL ++ [(ln,le)]):=by rw [jO _ vE];unfold bQ;rw [List.map_append];rfl
   rw [e8]
   have T9:=T8.put (L1:=[_]) (o':=.dK (bQ (EL ++ [(ln,le)])))
   generalize upd H8 E (.dK (bQ (EL ++ [(ln,le)])))=H9 at T9 ⊢
   refine⟨_,rfl,f,_,dx,_,_,rfl,T9.all (f,_) (.head _),T.aR.c,T.aR.na.2.2.1,(by (repeat first | (rw [aC,if_pos rfl];done) | rw [aC,if_neg (by decide +kernel)])),_,rfl,G,_,rfl,qD.k (k:=Sum.inr ln.name) (T9.all (G,.dK (cM (fun _=>0) (ls.take j))) (by simp)) (by unfold cM;rw [lM,List.length_take];omega),?_⟩
   have e9:putK (cM (fun _=>0) (ls.take j)) (Sum.inr ln.name) (.int 0)=cM (fun _=>0) (ls.take (j+1)):=by rw [jO _ vG,tk];unfold cM;rw [List.map_append];rfl
   rw [e9]
   have TA:=T9.put (L1:=[_,_]) (o':=.dK (cM (fun _=>0) (ls.take (j+1))))
   exact⟨⟨_,rfl⟩,EL ++ [(ln,le)],by rw [List.map_append,eEL,tk];rfl,TA⟩
  rintro σ H7 ⟨⟨v3,rfl⟩,EL,eEL,T7⟩
  rw [lM,List.take_length] at eEL T7
  have T7:Tr H f ((f,.ins t.cL dx (aK "gone" (.ref G) (aK "ever" (.ref E) (aK "net" (.ref n) [])))):: (E,.dK (bQ EL)):: (G,.dK (cM (fun _=>0) ls)):: lK EL) H7:=T7.sub (.cons₂ _ (.cons₂ _ (.cons₂ _ (.cons _ (List.Sublist.refl _))))) ⟨_,.head _⟩
  clear T6
  refine fun Kp nKp=>?_
  have T8:Tr H f ((f,.ins t.cL dx (aK "gone" (.ref G) (aK "ever" (.ref E) (aK "net" (.ref n) [])))):: (E,.dK (bQ EL)):: (G,.dK (cM (fun _=>0) ls)):: (Kp,.dK []):: lK EL) (upd H7 Kp (.dK [])):=(T7.new nKp).perm (.cons _ (.cons _ (.cons _ (List.perm_append_singleton _ _))))
  generalize upd H7 Kp (.dK [])=H8 at T8 ⊢
  refine⟨_,rfl,f,_,dx,_,rfl,T8.all (f,_) (.head _),T.aR.c,T.aR.na.2.2.2.1,Nat.lt_of_le_of_lt (jj (jj (jj (Nat.zero_le 0)))) (by decide),?_⟩
  have T9:=T8.put (L1:=[]) (o':=.ins t.cL dx (aK "kept" (.ref Kp) (aK "gone" (.ref G) (aK "ever" (.ref E) (aK "net" (.ref n) [])))))
  generalize upd H8 f (.ins t.cL dx (aK "kept" (.ref Kp) (aK "gone" (.ref G) (aK "ever" (.ref E) (aK "net" (.ref n) [])))))=H9 at T9 ⊢
  refine fun D nD=>?_
  have TA:Tr H f ((f,.ins t.cL dx (aK "kept" (.ref Kp) (aK "gone" (.ref G) (aK "ever" (.ref E) (aK "net" (.ref n) []))))):: (E,.dK (bQ EL)):: (G,.dK (cM (fun _=>0) ls)):: (Kp,.dK []):: (D,.dK []):: lK EL) (upd H9 D (.dK [])):=(T9.new nD).perm (.cons _ (.cons _ (.cons _ (.cons _ (List.perm_append_singleton _ _)))))
  generalize upd H9 D (.dK [])=HA at TA ⊢
  refine⟨_,rfl,f,_,dx,_,rfl,TA.all (f,_) (.head _),T.aR.c,T.aR.na.2.2.2.2.1,Nat.lt_of_le_of_lt (jj (jj (jj (jj (Nat.zero_le 0))))) (by decide),?_⟩
  have TB:=TA.put (L1:=[]) (o':=.ins t.cL dx (aK "done" (.ref D) (aK "kept" (.ref Kp) (aK "gone" (.ref G) (aK "ever" (.ref E) (aK "net" (.ref n) []))))))
  generalize upd HA f (.ins t.cL dx (aK "done" (.ref D) (aK "kept" (.ref Kp) (aK "gone" (.ref G) (aK "ever" (.ref E) (aK "net" (.ref n) []))))))=HB at TB ⊢
  have WB:=W.same (sk TB.but)
  refine⟨_,rfl,n,dxn,fsn,rfl,WB.obj,WB.fl.no _ (by decide +kernel),n,ls,ps,rfl,WB.s,fun m nm=>?_⟩
  have TC:Tr H f ((f,.ins t.cL dx (aK "done" (.ref D) (aK "kept" (.ref Kp) (aK "gone" (.ref G) (aK "ever" (.ref E) (aK "net" (.ref n) [])))))):: (E,.dK (bQ EL)):: (G,.dK (cM (fun _=>0) ls)):: (Kp,.dK (cP (fD ps) [])):: (D,.dK (cP (fun _=>0) [])):: (m,.lst (ps.map fun x:PD=>V.str x.name)):: lK EL) (upd HB m (.lst (ps.map fun x:PD=>V.str x.name))):=(TB.new nm).perm (.cons _ (.cons _ (.cons _ (.cons _ (.cons _ (List.perm_append_singleton _ _))))))
  generalize upd HB m (.lst (ps.map fun x:PD=>V.str x.name))=HC at TC ⊢
  clear T7 T8 T9 TA TB WB
  refine⟨m,rfl,⟨_,bK.of (TC.all (m,.lst (ps.map fun x:PD=>V.str x.name)) (by simp))⟩,d8 (K:=K) (a:=m) (xs:=ps.map fun x:PD=>V.str x.name) (fun j σ H'=>(∃v4,σ=[some (.ref f),some (.ref n),some (.ref rw),v3,v4,none])/\Tr H f ((f,.ins t.cL dx (aK "done" (.ref D) (aK "kept" (.ref Kp) (aK "gone" (.ref G) (aK "ever" (.ref E) (aK "net" (.ref n) [])))))):: (E,.dK (bQ EL)):: (G,.dK (cM (fun _=>0) ls)):: (Kp,.dK (cP (fD ps) (ps.take j))):: (D,.dK (cP (fun _=>0) (ps.take j))):: (m,.lst (ps.map fun x:PD=>V.str x.name)):: lK EL) H') ⟨⟨none,rfl⟩,TC⟩ (fun j σ H' _ ⟨_,T'⟩=>bK.of (T'.all (m,.lst (ps.map fun x:PD=>V.str x.name)) (by simp))) ?_ ?_⟩
  ·rintro j x σ H' hx ⟨⟨v4,rfl⟩,T7⟩
   rw [List.getElem?_map] at hx
   obtain⟨p,hpj,rfl⟩:=Option.map_eq_some_iff.mp hx
   have hm:=List.mem_of_getElem? hpj
   have hj:=(List.getElem?_eq_some_iff.mp hpj).1
   have nin:=nC W.fit.pnd hpj
   have vK:∀k0:Str->Int,cD (cP k0 (ps.take j)) (Sum.inr p.name)=none:=fun k0=>ig (by rw [Dk];intro z;obtain⟨b,hb,e⟩:=List.mem_map.mp z;cases e;exact nin hb)
   have tk:ps.take (j+1)=ps.take j ++ [p]:=by rw [List.take_succ,hpj];rfl
   have so:fD ps p.name=uU p:=by unfold fD uU;rw [find_name W.fit.pnd hm];rfl
   have W7:=W.same (sk T7.but)
   refine⟨_,rfl,n,dxn,fsn,rfl,W7.obj,W7.fl.no _ (by decide +kernel),_,rfl,n,ls,ps,p.name,rfl,W7.s,.inl ⟨p,hm,rfl,fun H8 q s8 P8=>?_⟩⟩
   have T8:=T7.same s8
   obtain⟨dxp,tn,ti,to,p1,p2,p3,p4⟩:=id P8.ex
   refine⟨q,cls t p.kind,dxp,_,vh K t p.kind,rfl,p1,mK _ _ _ _ (by decide +kernel) (by decide +kernel) (by decide +kernel) (by decide +kernel),SJ T p.kind,q,_,_,_,_,rfl,P8,by rw [lM];exact(W.fit.pok p hm).2.1,?_⟩
   rw [Py p (W.fit.pok p hm),<-so]
   refine⟨_,rfl,f,_,dx,_,_,rfl,T8.all (f,_) (.head _),T.aR.c,T.aR.na.2.2.2.1,(by (repeat first | (rw [aC,if_pos rfl];done) | rw [aC,if_neg (by decide +kernel)])),_,rfl,Kp,_,rfl,qD.k (k:=Sum.inr p.name) (T8.all (Kp,.dK (cP (fD ps) (ps.take j))) (by simp)) (by unfold cP;rw [lM,List.length_take];omega),?_⟩
   have e8:∀k0:Str->Int,putK (cP k0 (ps.take j)) (Sum.inr p.name) (.int (k0 p.name))=cP k0 (ps.take (j+1)):=fun k0=>by rw [jO _ (vK k0),tk];unfold cP;rw [List.map_append];rfl
   rw [e8]
   have T9:=T8.put (L1:=[_,_,_]) (o':=.dK (cP (fD ps) (ps.take (j+1))))
   generalize upd H8 Kp (.dK (cP (fD ps) (ps.take (j+1))))=H9 at T9 ⊢
   refine⟨_,rfl,f,_,dx,_,_,rfl,T9.all (f,_) (.head _),T.aR.c,T.aR.na.2.2.2.2.1,(by (repeat first | (rw [aC,if_pos rfl];done) | rw [aC,if_neg (by decide +kernel)])),_,rfl,D,_,rfl,qD.k (k:=Sum.inr p.name) (T9.all (D,.dK (cP (fun _=>0) (ps.take j))) (by simp)) (by unfold cP;rw [lM,List.length_take];omega),?_⟩
   rw [e8 fun _=>0]
   exact⟨⟨_,rfl⟩,T9.put (L1:=[_,_,_,_])⟩
  rintro σ HD ⟨⟨v4,rfl⟩,TD⟩
  rw [lM,List.take_length] at TD
  have TD:Tr H f ((f,.ins t.cL dx (aK "done" (.ref D) (aK "kept" (.ref Kp) (aK "gone" (.ref G) (aK "ever" (.ref E) (aK "net" (.ref n) [])))))):: (E,.dK (bQ EL)):: (G,.dK (cM (fun _=>0) ls)):: (Kp,.dK (cP (fD ps) ps)):: (D,.dK (cP (fun _=>0) ps)):: lK EL) HD:=TD.sub (.cons₂ _ (.cons₂ _ (.cons₂ _ (.cons₂ _ (.cons₂ _ (.cons _ (List.Sublist.refl _))))))) ⟨_,.head _⟩
  clear TC
  refine fun Rw nRw=>?_
  have TE:Tr H f ((f,.ins t.cL dx (aK "done" (.ref D) (aK "kept" (.ref Kp) (aK "gone" (.ref G) (aK "ever" (.ref E) (aK "net" (.ref n) [])))))):: (E,.dK (bQ EL)):: (G,.dK (cM (fun _=>0) ls)):: (Kp,.dK (cP (fD ps) ps)):: (D,.dK (cP (fun _=>0) ps)):: (Rw,.dK []):: lK EL) (upd HD Rw (.dK [])):=(TD.new nRw).perm (.cons _ (.cons _ (.cons _ (.cons _ (.cons _ (List.perm_append_singleton _ _))))))
  generalize upd HD Rw (.dK [])=HE at TE ⊢
  refine⟨_,rfl,f,_,dx,_,rfl,TE.all (f,_) (.head _),T.aR.c,T.aR.na.2.2.2.2.2.1,Nat.lt_of_le_of_lt (jj (jj (jj (jj (jj (Nat.zero_le 0)))))) (by decide),?_⟩
  have TF:=TE.put (L1:=[]) (o':=.ins t.cL dx (aK "rows" (.ref Rw) (aK "done" (.ref D) (aK "kept" (.ref Kp) (aK "gone" (.ref G) (aK "ever" (.ref E) (aK "net" (.ref n) [])))))))
  generalize upd HE f (.ins t.cL dx (aK "rows" (.ref Rw) (aK "done" (.ref D) (aK "kept" (.ref Kp) (aK "gone" (.ref G) (aK "ever" (.ref E) (aK "net" (.ref n) [])))))))=HF at TF ⊢
  have WF:=W.same (sk TF.but)
  refine⟨_,rfl,n,dxn,fsn,rfl,WF.obj,WF.fl.no _ (by decide +kernel),n,ls,ps,rfl,WF.s,fun d nd=>?_⟩
  have TG:Tr H f ((f,.ins t.cL dx (aK "rows" (.ref Rw) (aK "done" (.ref D) (aK "kept" (.ref Kp) (aK "gone" (.ref G) (aK "ever" (.ref E) (aK "net" (.ref n) []))))))):: (E,.dK (bQ EL)):: (G,.dK (cM (fun _=>0) ls)):: (Kp,.dK (cP (fD ps) ps)):: (D,.dK (cP (fun _=>0) ps)):: (Rw,.dK []):: (d,.lst (dH ps "give")):: lK EL) (upd HF d (.lst (dH ps "give"))):=(TF.new nd).perm (.cons _ (.cons _ (.cons _ (.cons _ (.cons _ (.cons _ (List.perm_append_singleton _ _)))))))
  generalize upd HF d (.lst (dH ps "give"))=HG at TG ⊢
  clear TD TE TF WF
  have lgv:=sV ps "give"
  have ndg:((ps.filter fun p=>decide (cT p.kind= "give")).map (·.name)).Nodup:=W.fit.pnd.sublist ((List.filter_sublist).map _)
  rw [Mt W.fit.pok] at ndg
  have ePg:dH ps "give" =(gf ps).map fun p=>V.str p.name:=by unfold dH;rw [Mt W.fit.pok]
  rw [ePg] at TG
  have lgP:(gf ps).length<=16:=by have:=List.length_filter_le (fun p:PD=>decide (p.kind=0)) ps;unfold gf;omega
  have TG:Tr H f ((f,.ins t.cL dx (aK "rows" (.ref Rw) (aK "done" (.ref D) (aK "kept" (.ref Kp) (aK "gone" (.ref G) (aK "ever" (.ref E) (aK "net" (.ref n) []))))))):: (E,.dK (bQ EL)):: (G,.dK (cM (fun _=>0) ls)):: (Kp,.dK (cP (fD ps) ps)):: (D,.dK (cP (fun _=>0) ps)):: (Rw,.dK []):: (d,.lst ((gf ps).map fun p=>V.str p.name)):: (lK EL ++ J6 RW [])) HG:=by
   unfold J6
   rw [List.map_nil,List.append_nil]
   exact TG
  refine⟨d,rfl,⟨_,bK.of (TG.all (d,.lst ((gf ps).map fun p=>V.str p.name)) (by simp))⟩,d8 (K:=K) (a:=d) (xs:=(gf ps).map fun p=>V.str p.name) (fun j σ H'=>(∃v5,σ=[some (.ref f),some (.ref n),some (.ref rw),v3,v4,v5])/\∃RL:List (PD×Addr),RL.map (·.1)=(gf ps).take j/\Tr H f ((f,.ins t.cL dx (aK "rows" (.ref Rw) (aK "done" (.ref D) (aK "kept" (.ref Kp) (aK "gone" (.ref G) (aK "ever" (.ref E) (aK "net" (.ref n) []))))))):: (E,.dK (bQ EL)):: (G,.dK (cM (fun _=>0) ls)):: (Kp,.dK (cP (fD ps) ps)):: (D,.dK (cP (fun _=>0) ps)):: (Rw,.dK (RL.map fun q=>((Sum.inr q.1.name:Key),V.ref q.2))):: (d,.lst ((gf ps).map fun p=>V.str p.name)):: (lK EL ++ J6 RW RL)) H') ⟨⟨none,rfl⟩,[],rfl,TG⟩ (fun j σ H' _ ⟨_,_,_,T7⟩=>bK.of (T7.all (d,.lst ((gf ps).map fun p=>V.str p.name)) (by simp))) ?_ ?_⟩
  ·rintro j x σ H' hx ⟨⟨v5,rfl⟩,RL,eRL,T7⟩
   rw [List.getElem?_map] at hx
   obtain⟨p,hpj,rfl⟩:=Option.map_eq_some_iff.mp hx
   have nin:=nC ndg hpj
   have tk:(gf ps).take (j+1)=(gf ps).take j ++ [p]:=by rw [List.take_succ,hpj];rfl
   have vR:cD (RL.map fun q=>((Sum.inr q.1.name:Key),V.ref q.2)) (Sum.inr p.name)=none:=ig (by
    rw [List.map_map]
    intro z
    obtain⟨q,hq,e⟩:=List.mem_map.mp z
    have hm:q.1∈RL.map (·.1):=List.mem_map.mpr ⟨q,hq,rfl⟩
    rw [eRL] at hm
    exact nin (List.mem_map.mpr ⟨q.1,hm,by injection e⟩))
   have lRL:RL.length<=16:=by
    have:=congrArg List.length eRL
    rw [lM,List.length_take] at this
    omega
   have rw7:=hrw.same (sk T7.but)
   refine⟨_,rfl,rw,rfl,.inl ⟨_,.inl rw7.dict⟩,_,rfl,jt,fun u nu=>?_⟩
   have tu:=aB (o:=.lst []) nu
   have xu:upd H' u (.lst []) u=some (.lst []):=ao
   generalize upd H' u (.lst [])=H8 at tu xu ⊢
   have rw8:=rw7.same tu
   refine⟨_,eE.k (k:=Sum.inr p.name) rw8.dict,?_⟩
   obtain⟨y,ey,hy⟩:∃y:Addr,(cD (jR RW) (Sum.inr p.name)).getD (V.ref u)=.ref y/\H8 y=some (.lst ((qH RW p.name).map V.int)):=by
    rcases rw8.get p.name with ⟨e1,e2⟩ | ⟨a,e1,e2,_⟩
    ·rw [e1,e2]
     exact⟨u,rfl,xu⟩
    ·rw [e1]
     exact⟨a,rfl,e2⟩
   refine⟨y,(qH RW p.name).map V.int,by rw [ey],.inl (bK.of hy),fun r nr=>?_⟩
   have T9:Tr H f ((f,.ins t.cL dx (aK "rows" (.ref Rw) (aK "done" (.ref D) (aK "kept" (.ref Kp) (aK "gone" (.ref G) (aK "ever" (.ref E) (aK "net" (.ref n) []))))))):: (E,.dK (bQ EL)):: (G,.dK (cM (fun _=>0) ls)):: (Kp,.dK (cP (fD ps) ps)):: (D,.dK (cP (fun _=>0) ps)):: (Rw,.dK (RL.map fun q=>((Sum.inr q.1.name:Key),V.ref q.2))):: (d,.lst ((gf ps).map fun p=>V.str p.name)):: (lK EL ++ J6 RW (RL ++ [(p,r)]))) (upd H8 r (.lst ((qH RW p.name).map V.int))):=by
    unfold J6
    rw [List.map_append,<-List.append_assoc]
    exact(T7.same tu).new nr
   generalize upd H8 r (.lst ((qH RW p.name).map V.int))=H9 at T9 ⊢
   refine⟨_,rfl,f,_,dx,_,_,rfl,T9.all (f,_) (.head _),T.aR.c,T.aR.na.2.2.2.2.2.1,(by (repeat first | (rw [aC,if_pos rfl];done) | rw [aC,if_neg (by decide +kernel)])),_,rfl,Rw,_,rfl,qD.k (k:=Sum.inr p.name) (T9.all (Rw,.dK (RL.map fun q=>((Sum.inr q.1.name:Key),V.ref q.2))) (by simp)) (by rw [lM];omega),?_⟩
   rw [jO _ vR]
   refine⟨⟨_,rfl⟩,RL ++ [(p,r)],by rw [List.map_append,eRL,tk];rfl,?_⟩
   rw [List.map_append]
   exact T9.put (L1:=[_,_,_,_,_])
  rintro σ HH ⟨⟨v5,rfl⟩,RL,eRL,TH⟩
  rw [lM,List.take_length] at eRL
  have eo:=TH.all (f,.ins t.cL dx (aK "rows" (.ref Rw) (aK "done" (.ref D) (aK "kept" (.ref Kp) (aK "gone" (.ref G) (aK "ever" (.ref E) (aK "net" (.ref n) []))))))) (.head _)
  have nod:=TH.nod
  have fre:=TH.fre
  have nE:(EL.map fun q=>q.1.name).Nodup:=by
   have:(EL.map (·.1)).map (·.name)=EL.map fun q=>q.1.name:=by rw [List.map_map];rfl
   rw [<-this,eEL]
   exact W.fit.whole.nod
  have nR:(RL.map fun q=>q.1.name).Nodup:=by
   have:(RL.map (·.1)).map (·.name)=RL.map fun q=>q.1.name:=by rw [List.map_map];rfl
   rw [<-this,eRL]
   exact ndg
  let A:mG:=⟨f,n,E,G,Kp,D,Rw,u9 (·.name) EL,u9 (·.name) RL⟩
  have mE:ls.map (fun l=>A.ea l.name)=EL.map (·.2):=by rw [<-eEL];exact GP nE
  have mR:(gf ps).map (fun p=>A.ra p.name)=RL.map (·.2):=by rw [<-eRL];exact GP nR
  have eC:A.cells ls ps=E:: G:: Kp:: D:: Rw:: (EL.map (·.2) ++ RL.map (·.2)):=by unfold mG.cells;rw [mE,mR]
  have e2:(lK EL ++ J6 RW RL).map Prod.fst=EL.map (·.2) ++ RL.map (·.2):=by unfold lK J6;rw [List.map_append,List.map_map,List.map_map];rfl
  refine k HH A rfl rfl TH.but ⟨⟨dx,_,eo,⟨?_,?_⟩⟩,?_,fun l hl=>?_,TH.all (G,.dK (cM (fun _=>0) ls)) (by simp),TH.all (Kp,.dK (cP (fD ps) ps)) (by simp),TH.all (D,.dK (cP (fun _=>0) ps)) (by simp),?_,fun p hp h0=>?_,?_⟩ ?_
  ·intro q hq
   simp only [List.mem_cons,List.not_mem_nil,or_false] at hq
   rcases hq with rfl | rfl | rfl | rfl | rfl | rfl <;> (dsimp only;(repeat first | (rw [aC,if_pos rfl];done) | rw [aC,if_neg (by decide +kernel)]))
  ·intro m hm
   have hne:∀m∈(["holds", "held_now", "gone_by", "row_left", "head", "heads", "lacking", "row_ended", "deed", "do"]:List Str),∀g∈(["rows", "done", "kept", "gone", "ever", "net"]:List Str),¬m=g:=by decide +kernel
   have h:=hne m hm
   rw [aC,if_neg (h _ (by simp)),aC,if_neg (h _ (by simp)),aC,if_neg (h _ (by simp)),aC,if_neg (h _ (by simp)),aC,if_neg (h _ (by simp)),aC,if_neg (h _ (by simp))]
   rfl
  ·have:S9 A.ea ls=bQ EL:=by
    unfold S9 bQ
    rw [<-eEL,List.map_map]
    refine List.map_congr_left fun q hq=>?_
    show((Sum.inr q.1.name:Key),V.ref (A.ea q.1.name))=_
    rw [show A.ea q.1.name=q.2 from m8 nE hq]
   rw [this]
   exact TH.all (E,.dK (bQ EL)) (by simp)
  ·rw [<-eEL] at hl
   obtain⟨q,hq,rfl⟩:=List.mem_map.mp hl
   rw [show A.ea q.1.name=q.2 from m8 nE hq]
   have hm:q.1∈ls:=by rw [<-eEL];exact List.mem_map.mpr ⟨q,hq,rfl⟩
   show HH q.2=some (.lst ((Lq ls q.1.name).map V.int))
   rw [vy W.fit.whole.nod hm]
   exact TH.all (q.2,.lst (q.1.first.map V.int)) (GX (List.mem_append.mpr (.inl (List.mem_map.mpr ⟨q,hq,rfl⟩))))
  ·have:qI A.ra ps=RL.map fun q=>((Sum.inr q.1.name:Key),V.ref q.2):=by
    unfold qI
    rw [<-eRL,List.map_map]
    refine List.map_congr_left fun q hq=>?_
    show((Sum.inr q.1.name:Key),V.ref (A.ra q.1.name))=_
    rw [show A.ra q.1.name=q.2 from m8 nR hq]
   rw [this]
   exact TH.all (Rw,.dK (RL.map fun q=>((Sum.inr q.1.name:Key),V.ref q.2))) (by simp)
  ·have hm:p∈RL.map (·.1):=by rw [eRL];exact List.mem_filter.mpr ⟨hp,by simp [h0]⟩
   obtain⟨q,hq,rfl⟩:=List.mem_map.mp hm
   rw [show A.ra q.1.name=q.2 from m8 nR hq]
   exact TH.all (q.2,.lst ((qH RW q.1.name).map V.int)) (GX (List.mem_append.mpr (.inr (List.mem_map.mpr ⟨q,hq,rfl⟩))))
  ·rw [eC,<-e2]
   exact nod.sublist (List.Sublist.cons _ (.cons₂ _ (.cons₂ _ (.cons₂ _ (.cons₂ _ (.cons₂ _ (.cons _ (List.Sublist.refl _))))))))
  ·intro a ha
   rw [eC,<-e2] at ha
   have h2:a∈(((E,.dK (bQ EL)):: (G,.dK (cM (fun _=>0) ls)):: (Kp,.dK (cP (fD ps) ps)):: (D,.dK (cP (fun _=>0) ps)):: (Rw,.dK (RL.map fun q=>((Sum.inr q.1.name:Key),V.ref q.2))):: (d,.lst ((gf ps).map fun p=>V.str p.name)):: (lK EL ++ J6 RW RL):List (Addr×HO))).map Prod.fst:=
    (List.Sublist.cons₂ E (.cons₂ G (.cons₂ Kp (.cons₂ D (.cons₂ Rw (.cons d (List.Sublist.refl _))))))).subset ha
   have hne:a≠f:=fun z=>by
    rw [List.map_cons,List.nodup_cons] at nod
    exact nod.1 (by rw [<-z];exact h2)
   obtain⟨q,hq,hqa⟩:=List.mem_map.mp h2
   have:=fre q (List.mem_cons_of_mem _ hq)
   rw [hqa] at this
   exact this.resolve_left hne
theorem O3 {α:Type} {p:α->Bool} {xs:List α} {j:Nat} {x:α} (h:(xs.take j).find? p=none) (hx:xs[j]?=some x):if p x=true then xs.find? p=some x else(xs.take (j+1)).find? p=none:=by
 split
 ·rename_i e
  have hj:=(List.getElem?_eq_some_iff.mp hx)
  have e2:xs=xs.take j ++ x:: xs.drop (j+1):=by
   rw [<-hj.2,<-List.drop_eq_getElem_cons hj.1,List.take_append_drop]
  rw [e2,List.find?_append,h,List.find?_cons_of_pos e]
  rfl
 ·rename_i e
  rw [List.take_succ,hx,Option.toList_some,List.find?_append,h,List.find?_cons_of_neg e]
  rfl
noncomputable def roomF (ls:List aG) (x:Str):Int:=((ls.find? fun l=>decide (l.name=x)).map (·.room)).getD 0
theorem Lj {ls:List aG} (nd:(ls.map (·.name)).Nodup) {l:aG} (hl:l∈ls):roomF ls l.name=l.room:=by
 unfold roomF
 rw [find_name nd hl]
 rfl
noncomputable def rA (ls:List aG) (S:FS) (q:Str×Int):Bool:=decide (roomF ls q.1<=((S.ev q.1).length:Int) - (S.g q.1:Int))
noncomputable def sy (ls:List aG) (S:FS) (dd:iW):V:=match dd.gv.find? (rA ls S) with
 | some q=>.str q.1
 | none=>.non
inductive sY (K:PySem.W.Frag) (t:jL) (vs:List V) (H:Hp) (Q:VK) (E:XK):Prop where
 | mk:∀(r:Addr) (n:Nat) (A:mG) (ls:List aG) (ps:List PD) (S:FS) (M:List Addr) (U:Addr) (dd:iW),vs=[.ref r,.ref U]->mj t H r A.n A.f n->fO K t H A.n ls ps->dO K t H A ls ps S->oX M H U dd->((∀q∈dd.gv,q.1∈ls.map (·.name)))->(∀H',aJ H H'->Q (sy ls S dd) H')->sY K t vs H Q E
theorem z8 (T:Txt w K mg t):FO P w K mg base 4 t.oA ["self", "deed"] (sY K t):=by
 have sc:=T.oW.sc ["self", "deed", "lane", "value"]
 refine T.oW.F.ok sc ln (fun _ _ _ _ H vs Q E hr h=>?_)
 obtain⟨r,n,A,ls,ps,S,M,U,dd,rfl,hR,N,W,⟨La,Lg,rs,hU,_,hLg,hT,_,_⟩,hout,k⟩:=h
 refine⟨_,(az (d7 PassesOwn.never rfl (b8 (bf dN (pv 1) au (fun _ _=>rfl))) (tE rfl (bU (gN sc 2) (bU (gN sc 3) jH)))
   (aA (cC (bF XF (tD (aQ (pv 0) rfl) T.aR T.aR.me.2.1 (w5 T) T.pL hr (aa (pv 2) ak aj)) (tD (aQ (pv 0) rfl) T.aU T.aU.me.2.2.2.2.2.2.2.1 (uY T) T.mU hr (aa (pv 2) ak aj)) (bR _))
    (aA (aN (pv 2)))
    bL)))
  (aA (aN Ba))),?_⟩
 have hl:sizeLine=16777216:=sizeLine_eq
 have hlr:rs.length=dd.gv.length:=by have:=Paired.length hT;rw [lM] at this;exact this
 refine⟨_,rfl,U,_,1,_,rfl,rfl,fC.of hU,aM (j:=1) rfl,Lg,rfl,⟨_,bK.of hLg⟩,d8 (K:=K) (a:=Lg) (xs:=rs.map V.ref) (fun j σ H'=>aJ H H'/\(∃v2 v3,σ=[some (.ref r),some (.ref U),v2,v3])/\(dd.gv.take j).find? (rA ls S)=none) ⟨aJ.refl _,⟨_,_,rfl⟩,rfl⟩ (fun j σ H' _ h=>bK.of (h.1 _ _ hLg)) ?_ ?_⟩
 ·rintro j x σ H1 hx ⟨s1,⟨v2,v3,rfl⟩,hf⟩
  rw [List.getElem?_map] at hx
  obtain⟨u,hu,rfl⟩:=Option.map_eq_some_iff.mp hx
  obtain⟨vs2,z1,z2⟩:=zF hT hu
  rw [List.getElem?_map] at z1
  obtain⟨w,ew,rfl⟩:=Option.map_eq_some_iff.mp z1
  have ft:=O3 hf ew
  obtain⟨dxn,fsn,R,F0,Pd,Gn,Tk,FL,PL,Wn⟩:=N.same s1
  have F:=Wn.fit
  obtain⟨dxr,fsr,R1⟩:=hR.same s1
  have W1:=W.same s1
  obtain⟨dx,fs,h1,h2⟩:=id W1.at'.ex
  obtain⟨l,hl',hln⟩:=List.mem_map.mp (hout w (List.mem_of_getElem? ew))
  have va:=wH (ea:=A.ea) F.whole.nod hl'
  have vg:=pR (g:=S.g) F.whole.nod hl'
  have fb:rA ls S w=decide (l.room<=((S.ev l.name).length:Int) - (S.g l.name:Int)):=by unfold rA;rw [<-hln,Lj F.whole.nod hl']
  rw [hln] at va vg
  refine⟨u,_,rfl,fC.of (s1 _ _ z2),rfl,_,_,rfl,_,_,rfl,rfl,?_⟩
  refine⟨_,rfl,r,_,dxr,fsr,_,rfl,R1.1.1,T.bB.c,T.bB.na.2.1,R1.2.has ("flow",.ref A.f) (by simp),A.f,dx,fs,rfl,h1,h2.no _ (by decide +kernel),_,rfl,A.f,A.n,A.E,A.G,A.Kp,A.D,A.Rw,A.ea w.1,_,_,w.1,_,S.g w.1,rfl,W1.at',W1.ever,W1.gone,va,vg,bK.of (by rw [<-hln];exact W1.lists l hl'),?_⟩
  refine⟨_,rfl,r,_,dxr,fsr,_,rfl,R1.1.1,T.bB.c,T.bB.na.1,R1.2.has ("net",.ref A.n) (by simp),A.n,dxn,fsn,rfl,Wn.obj,Wn.fl.no _ (by decide +kernel),_,rfl,A.n,ls,ps,w.1,rfl,Wn.s,.inl ⟨l,hl',hln,fun H2 s2=>?_⟩⟩
  refine⟨_,_,rfl,rfl,_,rfl,?_⟩
  have e2:decide (l.room<=((((S.ev l.name).map V.int).length:Nat):Int) - ((S.g w.1:Nat):Int))=rA ls S w:=by rw [fb,lM,hln]
  rw [e2]
  cases hb:rA ls S w with
  | true=>
   rw [if_pos hb] at ft
   refine kJ ⟨_,rfl,?_⟩
   have k':=k H2 (s1.trans s2)
   unfold sy at k'
   rw [ft] at k'
   exact k'
  | false=>
   rw [if_neg (by simp [hb])] at ft
   exact fu ⟨s1.trans s2,⟨_,_,rfl⟩,ft⟩
 rintro σ H1 ⟨s1,⟨v2,v3,rfl⟩,hf⟩
 rw [lM,hlr,List.take_length] at hf
 have k':=k H1 s1
 unfold sy at k'
 rw [hf] at k'
 exact k'
theorem U7 {H:Hp} {Q:VK} {Ex:XK} {b:Nat} {A:mG} {ls:List aG} {ps:List PD} {S:FS} {p:PD} (N:fO K t H A.n ls ps) (W:dO K t H A ls ps S) (hp:p∈ps) (O:Jt b ls ps S) (kn:fK S p=none->∀H',aJ H H'->Q .non H')
  (k:∀dd,fK S p=some dd->∀H' U,aJ H H'->H U=none->oX (A.cells ls ps) H' U dd->Q (.ref U) H'):kY K t [.ref A.f,.str p.name] H Q Ex:=by
 unfold kY
 exact⟨b,A,ls,ps,S,p,rfl,N,W,hp,O,kn,k⟩
noncomputable def gO (ls:List aG) (S:FS) (p:PD):Option iW:=match fK S p with
 | none=>none
 | some dd=>if sy ls S dd=.non then some dd else none
theorem jx {S:FS} {p:PD} {dd:iW} (h:fK S p=some dd):jh p.kind p.ins (bx S p)=.non/\yD S p=false/\dd=⟨(places p.kind (bx S p)).map (strAt p.ins),(cU p.kind p.nums (vo S p) (S.k p.name)).map fun pv=>(strAt p.outs pv.1.toNat,pv.2),gB p.kind (vo S p) (S.k p.name)⟩:=by
 unfold fK at h
 split at h
 ·cases h
 ·rename_i h1
  split at h
  ·cases h
  ·rename_i h2
   exact⟨Classical.not_not.mp h1,by simpa using h2,(Option.some.inj h).symm⟩
theorem Aa {xs:List Str} {q:Nat} (h:q <xs.length):strAt xs q∈xs:=by unfold strAt;rw [List.getElem?_eq_getElem h];exact List.getElem_mem h
theorem Eu {xs:List Str} {q:Nat} (h:q <xs.length):strAt xs q=xs[q]:=by unfold strAt;rw [List.getElem?_eq_getElem h];rfl
theorem PJ {i:Nat} {hs:List V}:(places i hs).Nodup:=by
 unfold places
 split
 ·split
  ·rename_i n _
   have h0:=Int.emod_nonneg n (show(2:Int)≠0 by decide)
   simp
   omega
  ·simp
 ·exact List.nodup_range
theorem UJ {xs:List Str} (nd:xs.Nodup) {l:List Nat} (hl:l.Nodup) (h:∀q∈l,q <xs.length):(l.map (strAt xs)).Nodup:=by
 unfold List.Nodup at hl ⊢
 rw [List.pairwise_map]
 refine hl.imp_of_mem fun {a b} ha hb hne e=>hne ?_
 rw [Eu (h a ha),Eu (h b hb)] at e
 exact(List.getElem_inj nd).mp e
theorem Ig {f:PD->List Str}:∀{ps:List PD},(ps.flatMap f).Nodup->∀{p:PD},p∈ps->(f p).Nodup
 | q:: r,nd,p,hp=>by
  rw [List.flatMap_cons,List.nodup_append] at nd
  rcases List.mem_cons.mp hp with h | h
  ·rw [h];exact nd.1
  ·exact Ig nd.2.1 h
theorem zU {ls:List aG} {ps:List PD} {S:FS} (F:qF ls ps) {p:PD} (hp:p∈ps) {dd:iW} (h:fK S p=some dd):Iu ls dd:=by
 obtain⟨hl,he,rfl⟩:=jx h
 have ok:=F.pok p hp
 have hO:=uM S p ok
 have hlt:∀q∈places p.kind (bx S p),q <p.ins.length:=fun q hq=>by
  have:=lO hO q hq
  unfold bx at this
  rwa [lM] at this
 have inL:∀x∈p.ins ++ p.outs,x∈ls.map (·.name):=fun x hx=>by
  obtain⟨l,hl,rfl⟩:=F.inL hp hx
  exact List.mem_map.mpr ⟨l,hl,rfl⟩
 refine⟨?_,fun x hx=>?_,fun q hq=>?_,?_⟩
 ·exact UJ (Ig (F.whole.ins.nodup_iff.mpr F.whole.nod) hp) PJ hlt
 ·obtain⟨q,hq,rfl⟩:=List.mem_map.mp hx
  exact inL _ (List.mem_append.mpr (.inl (Aa (hlt q hq))))
 ·obtain⟨pv,hpv,rfl⟩:=List.mem_map.mp hq
  obtain⟨o,ho1,ho2⟩:=Jw (show p.kind<=10 by have:=ok.1;omega) _ _ _ _ hpv
  refine inL _ (List.mem_append.mpr (.inr (Aa ?_)))
  rw [ho1,Int.toNat_natCast,ok.2.2.2.1]
  exact ho2
 ·show(List.map _ _).length<=2
  rw [lM]
  exact Fj ..
inductive qZ (K:PySem.W.Frag) (t:jL) (vs:List V) (H:Hp) (Q:VK):Prop where
 | mk:∀(b:Nat) (r:Addr) (n:Nat) (A:mG) (ls:List aG) (ps:List PD) (S:FS) (p:PD),vs=[.ref r,.str p.name]->mj t H r A.n A.f n->fO K t H A.n ls ps->dO K t H A ls ps S->Jt b ls ps S->p∈ps->((gO ls S p=none->∀H',aJ H H'->Q .non H'))->(∀dd,gO ls S p=some dd->∀H' U,aJ H H'->H U=none->oX (A.cells ls ps) H' U dd->Q (.ref U) H')->qZ K t vs H Q
@[irreducible] noncomputable def iu (K:PySem.W.Frag) (t:jL):Sp:=fun vs H Q _=>qZ K t vs H Q
theorem Ae (T:Txt w K mg t):FO P w K mg base 6 t.oJ ["self", "name"] (iu K t):=by
 have sc:=T.n6.sc ["self", "name", "deed"]
 refine T.n6.F.ok sc (fun vs H Q E h=>?_) (fun cdv A outer s H vs Q E hr h=>?_)
 ·unfold iu at h
  obtain⟨b,r,n,A,ls,ps,S,p,rfl,_⟩:=h
  rfl
 ·unfold iu at h
  obtain⟨b,r,n,A,ls,ps,S,p,rfl,hR,N,W,O,hp,kn,k⟩:=h
  refine⟨_,(az (sN sc 2 (tD (aQ (pv 0) rfl) T.aR T.aR.me.2.2.2.2.2.2.2.1 (Jp T) T.v9 hr (aa (pv 1) ak aj)))
   (aA (aN (vp (PW.pt (wB (j4 (El (pv 2))) (qm (j4 (IW (tD (pv 0) T.bB T.bB.me.2.1 (z8 T) T.oW hr (aa (pv 2) ak aj))))))) Ba (pv 2))))),?_⟩
  obtain⟨dxr,fsr,R0⟩:=id hR
  obtain⟨dx,fs,h1,h2⟩:=id W.at'.ex
  have F:qF ls ps:=by obtain⟨_,_,_,_,_,_,_,_,_,Wn⟩:=N;exact Wn.fit
  refine⟨_,rfl,r,_,dxr,fsr,_,rfl,R0.1.1,T.bB.c,T.bB.na.2.1,R0.2.has ("flow",.ref A.f) (by simp),A.f,dx,fs,rfl,h1,h2.no _ (by decide +kernel),_,rfl,?_⟩
  refine U7 N W hp O (fun hd H1 s1=>?_) (fun dd hd H1 U s1 nU DA=>?_)
  ·exact⟨_,rfl,_,rfl,kJ (kJ (kn (by unfold gO;rw [hd]) _ s1))⟩
  ·obtain⟨dxr,fsr,R1⟩:=hR.same s1
   have nx:gO ls S p=if sy ls S dd=.non then some dd else none:=by unfold gO;rw [hd]
   refine⟨_,rfl,_,rfl,fu ?_⟩
   refine⟨_,rfl,r,dxr,fsr,rfl,R1.1.1,R1.2.no _ (by decide +kernel),_,rfl,r,n,A,ls,ps,S,_,U,dd,rfl,⟨dxr,fsr,R1⟩,N.same s1,W.same s1,DA,(zU F hp hd).gin,fun H2 s2=>?_⟩
   by_cases hf:sy ls S dd=.non
   ·rw [hf]
    exact⟨_,rfl,fu ⟨_,rfl,k dd (by rw [nx,if_pos hf]) H2 U (s1.trans s2) nU (DA.same s2)⟩⟩
   ·rw [decide_eq_false hf]
    exact⟨_,rfl,kJ (kn (by rw [nx,if_neg hf]) H2 (s1.trans s2))⟩
inductive yJ (K:PySem.W.Frag) (t:jL) (vs:List V) (H:Hp) (Q:VK) (E:XK):Prop where
 | mk:∀(r:Addr) (n:Nat) (A:mG) (ls:List aG) (ps:List PD) (S:FS) (p:PD),vs=[.ref r,.str p.name]->mj t H r A.n A.f n->fO K t H A.n ls ps->dO K t H A ls ps S->p∈ps->(∀H',aJ H H'->Q (.int (S.d p.name:Int)) H')->yJ K t vs H Q E
theorem zf (T:Txt w K mg t):FO P w K mg base 3 t.wz ["self", "name"] (yJ K t):=by
 have sc:=T.qN.sc ["self", "name"]
 refine T.qN.F.ok sc ln (fun _ _ _ _ H vs Q E hr h=>?_)
 obtain⟨r,n,A,ls,ps,S,p,rfl,hR,N,W,hp,k⟩:=h
 refine⟨_,(az (bN (tD (aQ (pv 0) rfl) T.aU T.aU.me.2.2.2.2.2.2.2.2.2.1 (jz T) T.gM hr (aa (pv 1) ak aj)))
  (aA (aN (cG hr.u1 (aQ (aQ (pv 0) rfl) rfl) (pv 1) (fun _ _=>rfl))))),?_⟩
 obtain⟨dxn,fsn,R,F0,Pd,Gn,Tk,FL,PL,Wn⟩:=id N
 obtain⟨dxr,fsr,R0⟩:=id hR
 refine⟨_,rfl,r,_,dxr,fsr,_,rfl,R0.1.1,T.bB.c,T.bB.na.1,R0.2.has ("net",.ref A.n) (by simp),A.n,dxn,fsn,rfl,Wn.obj,Wn.fl.no _ (by decide +kernel),_,rfl,A.n,ls,ps,p.name,rfl,N,.inl ⟨p,hp,rfl,fun H1 q s1 _=>?_⟩⟩
 obtain⟨dxr,fsr,R1⟩:=hR.same s1
 have W1:=W.same s1
 obtain⟨dx,fs,h1,h2⟩:=id W1.at'.ex
 have vd:=pN (k:=fun x=>(S.d x:Int)) Wn.fit.pnd hp
 exact⟨_,rfl,r,_,dxr,fsr,_,rfl,R1.1.1,T.bB.c,T.bB.na.2.1,R1.2.has ("flow",.ref A.f) (by simp),A.f,_,dx,fs,_,rfl,h1,T.aR.c,T.aR.na.2.2.2.2.1,h2.has ("done",.ref A.D) (by simp),_,rfl,A.D,_,rfl,(by rw [<-vd];exact eE.k (k:=Sum.inr p.name) W1.done),k _ s1⟩
inductive uy (K:PySem.W.Frag) (t:jL) (vs:List V) (H:Hp) (Q:VK) (E:XK):Prop where
 | mk:∀(r:Addr) (n:Nat) (A:mG) (ls:List aG) (ps:List PD) (S:FS) (l:aG),vs=[.ref r,.str l.name]->mj t H r A.n A.f n->fO K t H A.n ls ps->dO K t H A ls ps S->l∈ls->(∀H' p,aJ H H'->H p=none->H' p=some (.lst (((S.ev l.name).drop (S.g l.name)).map V.int))->Q (.ref p) H')->uy K t vs H Q E
theorem jn (T:Txt w K mg t):FO P w K mg base 3 t.qt ["self", "name"] (uy K t):=by
 have sc:=T.fX.sc ["self", "name"]
 refine T.fX.F.ok sc ln (fun _ _ _ _ H vs Q E hr h=>?_)
 obtain⟨r,n,A,ls,ps,S,l,rfl,hR,N,W,hl,k⟩:=h
 refine⟨_,(az (bN (tD (aQ (pv 0) rfl) T.aU T.aU.me.2.2.2.2.2.2.1 (fY T) T.dJ hr (aa (pv 1) ak aj)))
  (aA (aN (tD (aQ (pv 0) rfl) T.aR T.aR.me.2.2.1 (Ay T) T.oV hr (aa (pv 1) ak aj))))),?_⟩
 obtain⟨dxn,fsn,R,F0,Pd,Gn,Tk,FL,PL,Wn⟩:=id N
 obtain⟨dxr,fsr,R0⟩:=id hR
 refine⟨_,rfl,r,_,dxr,fsr,_,rfl,R0.1.1,T.bB.c,T.bB.na.1,R0.2.has ("net",.ref A.n) (by simp),A.n,dxn,fsn,rfl,Wn.obj,Wn.fl.no _ (by decide +kernel),_,rfl,A.n,ls,ps,l.name,rfl,N,.inl ⟨List.mem_map.mpr ⟨l,hl,rfl⟩,fun H1 s1=>?_⟩⟩
 obtain⟨dxr,fsr,R1⟩:=hR.same s1
 have W1:=W.same s1
 obtain⟨dx,fs,h1,h2⟩:=id W1.at'.ex
 refine⟨_,rfl,r,_,dxr,fsr,_,rfl,R1.1.1,T.bB.c,T.bB.na.2.1,R1.2.has ("flow",.ref A.f) (by simp),A.f,dx,fs,rfl,h1,h2.no _ (by decide +kernel),_,rfl,A.f,A.n,A.E,A.G,A.Kp,A.D,A.Rw,A.ea l.name,_,_,l.name,_,_,rfl,W1.at',W1.ever,W1.gone,wH Wn.fit.whole.nod hl,pR Wn.fit.whole.nod hl,bK.of (W1.lists l hl),fun p hp=>?_⟩
 rw [<-List.map_drop]
 exact k _ p (s1.trans (aB hp)) (s1.free hp) ao
inductive Bg (t:jL) (vs:List V) (H:Hp) (Q:VK) (E:XK):Prop where
 | mk:∀(r a f:Addr) (n:Nat),vs=[.ref r]->mj t H r a f n->Q (.int (n:Nat)) H->Bg t vs H Q E
theorem J3 (T:Txt w K mg t):FO P w K mg base 1 t.xV ["self"] (Bg t):=by
 have sc:=T.ym.sc ["self"]
 refine T.ym.F.ok sc ln (fun _ _ _ _ H vs Q E hr h=>?_)
 obtain⟨r,a,f,n,rfl,⟨dxr,fsr,R0⟩,k⟩:=h
 refine⟨_,(aA (aN (aQ (pv 0) rfl))),?_⟩
 exact⟨_,rfl,r,_,dxr,fsr,_,rfl,R0.1.1,T.bB.c,T.bB.na.2.2.1,R0.2.has ("turns",.int (n:Nat)) (by simp),k⟩
theorem Rm {x:V} {xs:List V} (h:x∈xs) (f:JR x x=true):inV x xs=true:=List.any_eq_true.mpr ⟨x,h,f⟩
inductive qQ (K:PySem.W.Frag) (t:jL) (vs:List V) (H:Hp) (Q:VK) (E:XK):Prop where
 | mk:∀(r:Addr) (n:Nat) (A:mG) (ls:List aG) (ps:List PD) (S:FS) (L:Addr) (xs:List Str),vs=[.ref r,.ref L]->mj t H r A.n A.f n->fO K t H A.n ls ps->dO K t H A ls ps S->bK K H L (xs.map V.str)->((∀x∈xs,V.str x∈dH ps "give" ++ dH ps "take"))->(∀H',aJ H H'->Q .non H')->qQ K t vs H Q E
theorem zg (T:Txt w K mg t):FO P w K mg base 4 t.lZ ["self", "names"] (qQ K t):=by
 have sc:=T.lU.sc ["self", "names", "doors", "name"]
 refine T.lU.F.ok sc ln (fun _ _ _ _ H vs Q E hr h=>?_)
 obtain⟨r,n,A,ls,ps,S,L,xs,rfl,hR,N,W,hL,hx,k⟩:=h
 refine⟨_,(az (sN sc 2 (bA RC (J5 (aQ (pv 0) rfl) T.aU T.aU.me.2.2.2.2.1 (pA T) T.kI hr) (J5 (aQ (pv 0) rfl) T.aU T.aU.me.2.2.2.2.2.1 (Ip T) T.vB hr)))
  (aA (d7 PassesOwn.never rfl (b8 (pv 1)) (gN sc 3)
   (aA (cC (bF lA (pv 3) (pv 2) (by with_unfolding_all rfl))
    (aA eY)
    bL))))),?_⟩
 have hz:sizeLine=16777216:=sizeLine_eq
 obtain⟨dxn,fsn,R,F0,Pd,Gn,Tk,FL,PL,Wn⟩:=id N
 have p16:=Wn.fit.p16
 obtain⟨dxr,fsr,R0⟩:=id hR
 have g1:=sV ps "give"
 have g2:=sV ps "take"
 refine⟨_,rfl,r,_,dxr,fsr,_,rfl,R0.1.1,T.bB.c,T.bB.na.1,R0.2.has ("net",.ref A.n) (by simp),A.n,dxn,fsn,rfl,Wn.obj,Wn.fl.no _ (by decide +kernel),A.n,ls,ps,rfl,N,fun l nl=>?_⟩
 have s1:=aB (o:=.lst (dH ps "give")) nl
 obtain⟨dxr,fsr,R1⟩:=hR.same s1
 have Wn1:=Wn.same s1
 refine⟨_,rfl,r,_,dxr,fsr,_,rfl,R1.1.1,T.bB.c,T.bB.na.1,R1.2.has ("net",.ref A.n) (by simp),A.n,dxn,fsn,rfl,Wn1.obj,Wn1.fl.no _ (by decide +kernel),A.n,ls,ps,rfl,Wn1.s,fun l2 nl2=>?_⟩
 have s2:=aB (o:=.lst (dH ps "take")) nl2
 have e1:=s2 _ _ (ao (H:=H) (a:=l) (o:=.lst (dH ps "give")))
 refine⟨l,l2,_,_,rfl,rfl,e1,ao,by omega,fun l3 nl3=>?_⟩
 have s13:=s1.trans (s2.trans (aB (o:=.lst (dH ps "give" ++ dH ps "take")) nl3))
 have e3:upd (upd (upd H l (.lst (dH ps "give"))) l2 (.lst (dH ps "take"))) l3 (.lst (dH ps "give" ++ dH ps "take")) l3=some (.lst (dH ps "give" ++ dH ps "take")):=ao
 generalize upd (upd (upd H l (.lst (dH ps "give"))) l2 (.lst (dH ps "take"))) l3 (.lst (dH ps "give" ++ dH ps "take"))=H3 at s13 e3 ⊢
 have fl:(dH ps "give" ++ dH ps "take").all qC=true:=by
  rw [List.all_eq_true]
  intro v hv
  rcases List.mem_append.mp hv with h | h <;> (obtain⟨p,_,rfl⟩:=List.mem_map.mp h;rfl)
 refine⟨_,rfl,L,rfl,⟨_,s13.seq hL⟩,d8 (K:=K) (a:=L) (xs:=xs.map V.str) (fun j σ H'=>H'=H3/\∃v3,σ=[some (.ref r),some (.ref L),some (.ref l3),v3]) ⟨rfl,none,rfl⟩ (fun j σ H' _ ⟨e,_⟩=>by rw [e];exact s13.seq hL) ?_ ?_⟩
 ·rintro j x σ H' hx' ⟨rfl,v3,rfl⟩
  rw [List.getElem?_map] at hx'
  obtain⟨y,hy,rfl⟩:=Option.map_eq_some_iff.mp hx'
  refine⟨_,rfl,_,rfl,l3,_,rfl,.inl (bK.of e3),rfl,fl,_,rfl,?_⟩
  rw [Rm (hx y (List.mem_of_getElem? hy)) (by simp [JR])]
  exact fu ⟨rfl,_,rfl⟩
 ·rintro σ H' ⟨rfl,v3,rfl⟩
  exact k _ s13
theorem Uc {H:Hp} {Q:VK} {Ex:XK} {b:Nat} {r:Addr} {n:Nat} {A:mG} {ls:List aG} {ps:List PD} {S:FS} {p:PD} (hR:mj t H r A.n A.f n) (N:fO K t H A.n ls ps) (W:dO K t H A ls ps S) (O:Jt b ls ps S) (hp:p∈ps) (kn:gO ls S p=none->∀H',aJ H H'->Q .non H')
  (k:∀dd,gO ls S p=some dd->∀H' U,aJ H H'->H U=none->oX (A.cells ls ps) H' U dd->Q (.ref U) H'):iu K t [.ref r,.str p.name] H Q Ex:=by
 unfold iu
 exact⟨b,r,n,A,ls,ps,S,p,rfl,hR,N,W,O,hp,kn,k⟩
theorem Um (y:Str) (xs:List Str):inV (.str y) (xs.map V.str)=decide (y∈xs):=by
 rw [Bool.eq_iff_iff,decide_eq_true_iff]
 unfold inV
 rw [List.any_eq_true]
 constructor
 ·rintro⟨v,hv,e⟩
  obtain⟨z,hz,rfl⟩:=List.mem_map.mp hv
  have:z=y:=by simpa [JR] using e
  rw [<-this];exact hz
 ·intro h
  exact⟨.str y,List.mem_map.mpr ⟨y,h,rfl⟩,by simp [JR]⟩
noncomputable def kj (xs:List Str) (p:PD):Bool:=!decide (p.name∈xs)
noncomputable def j0 (ls:List aG) (ps:List PD) (S:FS) (xs:List Str):List (PD×iW):=(ps.filter (kj xs)).filterMap fun p=>(gO ls S p).map fun dd=>(p,dd)
noncomputable def ir (S:FS) (ws:List (PD×iW)):FS:=ws.foldl (fun S w=>kW S w.1.name w.2) S
noncomputable def jf (ls:List aG) (ps:List PD) (S:FS) (xs:List Str):FS:=ir S (j0 ls ps S xs)
theorem MF (S:FS) (ws:List (PD×iW)) (w:PD×iW):ir S (ws ++ [w])=kW (ir S ws) w.1.name w.2:=by unfold ir;rw [List.foldl_append];rfl
theorem Aw {S:FS} {b:Nat} {x:Str}:∀{ws:List (PD×iW)},(S.ev x).length<=b->(∀w∈ws,w.2.gv.length<=2)->((ir S ws).ev x).length<=b+2 * ws.length
 | [],h,_=>by simpa [ir] using h
 | w:: r,h,g=>by
  have h1:=g w List.mem_cons_self
  have h2:((kW S w.1.name w.2).ev x).length<=b+2:=by
   unfold kW
   rw [lP,lM]
   have:=List.length_filter_le (fun q:Str×Int=>decide (q.1=x)) w.2.gv
   omega
  have h3:=Aw (S:=kW S w.1.name w.2) (ws:=r) h2 (fun w' hw=>g w' (List.mem_cons_of_mem _ hw))
  show((ir (kW S w.1.name w.2) r).ev x).length<=_
  rw [List.length_cons]
  omega
theorem Fl {α β:Type} {F:α->β->Prop}:∀{xs:List α} {ys:List β} {j:Nat} {x:α},Paired F xs ys->xs[j]?=some x->∃y,ys[j]?=some y/\F x y
 | _,_,_,_,.nil,e=>by simp at e
 | _,_,0,_,.cons h _,e=>by simp at e;subst e;exact⟨_,rfl,h⟩
 | _,_,j+1,_,.cons _ r,e=>by
  obtain⟨y,h1,h2⟩:=Fl (j:=j) r (by simpa using e)
  exact⟨y,by simpa using h1,h2⟩
theorem Gr {α β:Type} {F:α->β->Prop}:∀{xs:List α} {ys:List β} {y:β},Paired F xs ys->y∈ys->∃x,F x y
 | _,_,_,.nil,e=>by simp at e
 | _,_,_,.cons h r,e=>by
  rcases List.mem_cons.mp e with rfl | e
  ·exact⟨_,h⟩
  ·exact Gr r e
theorem dO.ncell {H:Hp} {A:mG} {ls:List aG} {ps:List PD} {S:FS} (W:dO K t H A ls ps S) {a:Addr} {u:HO} (h:H a=some u) (h1:∀ks,u≠.dK ks) (h2:∀ks,u≠.lst ks):a∉A.cells ls ps:=by
 intro z
 have no:∀{b:Addr} {v:HO},H b=some v->a=b->u=v:=fun e q=>by rw [<-q,h] at e;exact Option.some.inj e
 unfold mG.cells at z
 simp only [List.mem_cons,List.mem_append,List.mem_map] at z
 rcases z with z | z | z | z | z | ⟨l,hl,z⟩ | ⟨p,hp,z⟩
 ·exact h1 _ (no W.ever z)
 ·exact h1 _ (no W.gone z)
 ·exact h1 _ (no W.kept z)
 ·exact h1 _ (no W.done z)
 ·exact h1 _ (no W.rows z)
 ·exact h2 _ (no (W.lists l hl) z.symm)
 ·have hf:=List.mem_filter.mp hp
  exact h2 _ (no (W.rlst p hf.1 (by simpa using hf.2)) z.symm)
theorem dO.tupMov {H H':Hp} {A:mG} {ls:List aG} {ps:List PD} {S:FS} (W:dO K t H A ls ps S) (m:FW (A.cells ls ps) H H') {a:Addr} {xs:List V} (h:H a=some (.tup xs)):H' a=some (.tup xs):=by
 rw [m a (W.ncell h (by intro _ z;cases z) (by intro _ z;cases z))]
 exact h
theorem oX.mov {H H':Hp} {A:mG} {ls:List aG} {ps:List PD} {S:FS} {U:Addr} {dd:iW} (h:oX (A.cells ls ps) H U dd) (W:dO K t H A ls ps S) (m:FW (A.cells ls ps) H H'):oX (A.cells ls ps) H' U dd:=by
 obtain⟨La,Lg,rs,a,b,c,d,e,f⟩:=h
 exact⟨La,Lg,rs,W.tupMov m a,by rw [m La e];exact b,by rw [m Lg f];exact c,Paired.mapP d fun _ _ z=>W.tupMov m z,e,f⟩
theorem mj.mov {H H':Hp} {r a f:Addr} {n:Nat} {M:List Addr} (h:mj t H r a f n) (nr:r∉M) (m:FW M H H'):mj t H' r a f n:=by
 obtain⟨dx,fs,h1,h2⟩:=h
 exact⟨dx,fs,⟨by rw [m r nr];exact h1.1,h1.2⟩,h2⟩
theorem Xh {H:Hp} {Q:VK} {Ex:XK} {b:Nat} {A:mG} {ls:List aG} {ps:List PD} {S:FS} {p:PD} {U:Addr} {dd:iW} (F:qF ls ps) (W:dO K t H A ls ps S) (hp:p∈ps) (hl:∀l∈ls,(S.ev l.name).length<=b) (hb:b<=100000) (d:oX (A.cells ls ps) H U dd) (o:Iu ls dd)
  (k:∀H',FW (A.cells ls ps) H H'->dO K t H' A ls ps (kW S p.name dd)->Q .non H'):qz K t [.ref A.f,.str p.name,.ref U] H Q Ex:=by
 unfold qz
 exact⟨b,A,ls,ps,S,p,U,dd,rfl,F,W,hp,hl,hb,d,o,k⟩
theorem mj.turned {H:Hp} {r a f:Addr} {n:Nat} {dx:Addr} {fs:List (Str×V)} (h:(H r=some (.ins t.oY dx fs)/\fs.length<=n+3)/\UV ["step", "need_doors", "next_deed", "full_lane", "can_work", "works", "lane_now", "turn", "had", "rows_left", "part_now", "net_now"] [("net",.ref a),("flow",.ref f),("turns",.int (n:Nat))] fs):
  mj t (upd H r (.ins t.oY dx (aK "turns" (.int ((n:Int)+1)) fs))) r a f (n+1):=by
 refine⟨dx,_,⟨ao,?_⟩,⟨?_,?_⟩⟩
 ·exact Nat.le_trans (jj h.1.2) (by omega)
 ·intro q hq
  simp only [List.mem_cons,List.not_mem_nil,or_false] at hq
  rcases hq with rfl | rfl | rfl
  ·dsimp only
   rw [aC,if_neg (by decide +kernel)]
   exact h.2.has ("net",.ref a) (by simp)
  ·dsimp only
   rw [aC,if_neg (by decide +kernel)]
   exact h.2.has ("flow",.ref f) (by simp)
  ·dsimp only
   rw [aC,if_pos rfl]
   rfl
 ·intro m hm
  have hne:∀m∈(["step", "need_doors", "next_deed", "full_lane", "can_work", "works", "lane_now", "turn", "had", "rows_left", "part_now", "net_now"]:List Str),¬m= "turns" :=by decide +kernel
  rw [aC,if_neg (hne m hm)]
  exact h.2.no m hm
theorem dO.ins {H:Hp} {A:mG} {ls:List aG} {ps:List PD} {S:FS} (W:dO K t H A ls ps S) {x:Addr} (nx:x∉A.cells ls ps) {o:HO} (nf:x≠A.f):dO K t (upd H x o) A ls ps S:=by
 have st:∀a,a∈A.cells ls ps->upd H x o a=H a:=fun a ha=>aH fun z=>nx (by rw [<-z];exact ha)
 obtain⟨dx,fs,h1,h2⟩:=W.at'.ex
 refine⟨⟨dx,fs,by rw [aH (Ne.symm nf)];exact h1,h2⟩,?_,fun l hl=>?_,?_,?_,?_,?_,fun p hp h0=>?_,W.nod⟩
 ·rw [st _ (by simp [mG.cells])];exact W.ever
 ·rw [st _ (by unfold mG.cells;simp only [List.mem_cons,List.mem_append,List.mem_map];exact .inr (.inr (.inr (.inr (.inr (.inl ⟨l,hl,rfl⟩))))))];exact W.lists l hl
 ·rw [st _ (by simp [mG.cells])];exact W.gone
 ·rw [st _ (by simp [mG.cells])];exact W.kept
 ·rw [st _ (by simp [mG.cells])];exact W.done
 ·rw [st _ (by simp [mG.cells])];exact W.rows
 ·rw [st _ (by unfold mG.cells;simp only [List.mem_cons,List.mem_append,List.mem_map];exact .inr (.inr (.inr (.inr (.inr (.inr ⟨p,List.mem_filter.mpr ⟨hp,by simp [h0]⟩,rfl⟩))))))];exact W.rlst p hp h0
inductive Hw (M:List Addr) (ls:List aG) (S:FS) (H:Hp) (q:PD×Addr):Prop where
 | mk:∀u,H q.2=some (.tup [.str q.1.name,u])->(((gO ls S q.1=none/\u=.non)∨∃dd U,gO ls S q.1=some dd/\u=.ref U/\oX M H U dd))->Hw M ls S H q
theorem Hw.same {M:List Addr} {ls:List aG} {S:FS} {H H':Hp} {q:PD×Addr} (h:Hw M ls S H q) (s:aJ H H'):Hw M ls S H' q:=by
 obtain⟨u,h1,h2⟩:=h
 refine⟨u,s _ _ h1,?_⟩
 rcases h2 with h2 | ⟨dd,U,a,b,c⟩
 ·exact .inl h2
 ·exact .inr ⟨dd,U,a,b,c.same s⟩
theorem Ru {ls:List aG} {S:FS}:∀{qs:List (PD×Addr)},(qs.map (·.1)).filterMap (fun p=>(gO ls S p).map fun dd=>(p,dd))=(qs.filter fun q=>(gO ls S q.1).isSome).filterMap (fun q=>(gO ls S q.1).map fun dd=>(q.1,dd))
 | []=>rfl
 | q:: r=>by
  rw [List.map_cons,List.filterMap_cons,List.filter_cons,Ru (qs:=r)]
  cases h:gO ls S q.1 with
  | none=>simp
  | some dd=>simp [List.filterMap_cons,h]
theorem gY {ls:List aG} {S:FS} {p:PD} {dd:iW} (h:gO ls S p=some dd):fK S p=some dd/\sy ls S dd=.non:=by
 unfold gO at h
 split at h
 ·cases h
 ·rename_i d hd
  split at h
  ·rename_i hf
   cases h
   exact⟨hd,hf⟩
  ·cases h
structure oO (K:PySem.W.Frag) (t:jL) (H:Hp) (r:Addr) (n:Nat) (A:mG) (ls:List aG) (ps:List PD) (S:FS):Prop where
 run:mj t H r A.n A.f n
 net:fO K t (aX (r:: A.cells ls ps) H) A.n ls ps
 flow:dO K t H A ls ps S
 ne:r≠A.f
theorem oO.netH {H:Hp} {r:Addr} {n:Nat} {A:mG} {ls:List aG} {ps:List PD} {S:FS} (h:oO K t H r n A ls ps S):fO K t H A.n ls ps:=h.net.same bu
theorem mj.cell {H:Hp} {r:Addr} {n:Nat} {A:mG} {ls:List aG} {ps:List PD} {S:FS} {a f:Addr} (hR:mj t H r a f n) (W:dO K t H A ls ps S):r∉A.cells ls ps:=by
 obtain⟨dx,fs,⟨h1,_⟩,_⟩:=hR
 intro z
 have no:∀{b:Addr} {u:HO},H b=some u->(∀C dx fs,u≠.ins C dx fs)->r=b->False:=fun e h q=>by rw [<-q,h1] at e;exact h _ _ _ (Option.some.inj e).symm
 unfold mG.cells at z
 simp only [List.mem_cons,List.mem_append,List.mem_map] at z
 rcases z with z | z | z | z | z | ⟨l,hl,z⟩ | ⟨p,hp,z⟩
 ·exact no W.ever (by intro _ _ _ z;cases z) z
 ·exact no W.gone (by intro _ _ _ z;cases z) z
 ·exact no W.kept (by intro _ _ _ z;cases z) z
 ·exact no W.done (by intro _ _ _ z;cases z) z
 ·exact no W.rows (by intro _ _ _ z;cases z) z
 ·exact no (W.lists l hl) (by intro _ _ _ z;cases z) z.symm
 ·have hf:=List.mem_filter.mp hp
  exact no (W.rlst p hf.1 (by simpa using hf.2)) (by intro _ _ _ z;cases z) z.symm
theorem V7 {ws:List Int} (h:Xf ws):0<=g0 ws/\g0 ws <1000000000:=by
 unfold g0
 match ws,h with
 | [],_=>exact⟨by decide,by decide⟩
 | w:: r,h=>exact h w List.mem_cons_self
theorem Wx {ws:List Int} (h:Xf ws):0<=g1 ws/\g1 ws <1000000000:=by
 unfold g1
 match ws,h with
 | [],_=>exact⟨by decide,by decide⟩
 | [w],_=>exact⟨Int.le_refl 0,by show(0:Int) <1000000000;decide⟩
 | w:: v:: r,h=>exact h v (by simp)
theorem CN (n:Int):0<=n % 1000000000/\n % 1000000000 <1000000000:=⟨Int.emod_nonneg _ (by decide),Int.emod_lt_of_pos _ (by decide)⟩
theorem K5 {i:Nat} (hi:i <11) (ns:List Int) {ws:List Int} (kp:Int) (h:Xf ws):∀pv∈cU i ns ws kp,0<=pv.2/\pv.2 <1000000000:=by
 have a0:=V7 h
 have a1:=Wx h
 match i,hi with
 | 0,_=>simp [cU];exact a0
 | 1,_=>simp [cU]
 | 2,_=>simp [cU];exact a0
 | 3,_=>simp [cU];exact a0
 | 4,_=>simp [cU];exact CN _
 | 5,_=>simp [cU];exact CN _
 | 6,_=>simp [cU];exact CN _
 | 7,_=>simp [cU];split <;> decide
 | 8,_=>simp [cU];constructor <;> split <;> omega
 | 9,_=>simp [cU];exact a1
 | 10,_=>simp [cU];exact a1
theorem Ej (x:Str):∀(ws:List (PD×iW)) (S:FS),(ir S ws).ev x=S.ev x ++ ws.flatMap fun w=>(w.2.gv.filter fun q=>decide (q.1=x)).map (·.2)
 | [],S=>by simp [ir]
 | w:: r,S=>by
  show(ir (kW S w.1.name w.2) r).ev x=_
  rw [Ej x r,List.flatMap_cons,<-List.append_assoc]
  rfl
theorem yS:∀(ws:List (PD×iW)) (S:FS),(ir S ws).r=S.r
 | [],_=>rfl
 | w:: r,S=>by show(ir (kW S w.1.name w.2) r).r=_;rw [yS r];rfl
theorem Iv (x:Str):∀(ws:List (PD×iW)) (S:FS),(ir S ws).d x=S.d x+(ws.filter fun w=>decide (w.1.name=x)).length
 | [],S=>by simp [ir]
 | w:: r,S=>by
  show(ir (kW S w.1.name w.2) r).d x=_
  rw [Iv x r,List.filter_cons]
  show(if x=w.1.name then S.d x+1 else S.d x)+_=_
  by_cases h:x=w.1.name
  ·rw [if_pos h,if_pos (by simp [h])]
   simp
   omega
  ·rw [if_neg h,if_neg (by simpa using fun e=>h e.symm)]
theorem Jo (x:Str):∀(ws:List (PD×iW)) (S:FS),(ir S ws).g x=S.g x+(ws.filter fun w=>decide (x∈w.2.tk)).length
 | [],S=>by simp [ir]
 | w:: r,S=>by
  show(ir (kW S w.1.name w.2) r).g x=_
  rw [Jo x r,List.filter_cons]
  show(if x∈w.2.tk then S.g x+1 else S.g x)+_=_
  by_cases h:x∈w.2.tk
  ·rw [if_pos h,if_pos (by simp [h])]
   simp
   omega
  ·rw [if_neg h,if_neg (by simp [h])]
theorem jE {ls:List aG} {ps:List PD} {S:FS} {xs:List Str} {w:PD×iW} (h:w∈j0 ls ps S xs):w.1∈ps/\kj xs w.1=true/\gO ls S w.1=some w.2:=by
 obtain⟨p,hp,e⟩:=List.mem_filterMap.mp h
 obtain⟨dd,hd,rfl⟩:=Option.map_eq_some_iff.mp e
 obtain⟨h1,h2⟩:=List.mem_filter.mp hp
 exact⟨h1,h2,hd⟩
theorem pQ {ls:List aG} {S:FS}:∀{qs:List PD},((qs.filterMap fun p=>(gO ls S p).map fun dd=>(p,dd)).map (·.1)).Sublist qs
 | []=>by simp
 | q:: r=>by
  rw [List.filterMap_cons]
  cases gO ls S q with
  | none=>exact pQ.cons _
  | some dd=>exact pQ.cons₂ _
theorem Mj {ls:List aG} {ps:List PD} {S:FS} {xs:List Str} (nd:(ps.map (·.name)).Nodup):((j0 ls ps S xs).map fun w=>w.1.name).Nodup:=by
 have h:((j0 ls ps S xs).map (·.1)).Sublist ps:=(pQ (qs:=ps.filter (kj xs))).trans List.filter_sublist
 have e:(j0 ls ps S xs).map (fun w=>w.1.name)=((j0 ls ps S xs).map (·.1)).map (·.name):=by rw [List.map_map];rfl
 rw [e]
 exact nd.sublist (h.map _)
theorem Ti {ls:List aG} {ps:List PD} {S:FS} {xs:List Str}:(j0 ls ps S xs).length<=ps.length:=by
 have h:((j0 ls ps S xs).map (·.1)).Sublist ps:=(pQ (qs:=ps.filter (kj xs))).trans List.filter_sublist
 have:=h.length_le
 rwa [lM] at this
theorem Jb {α:Type} {f:α->Str} {x:Str}:∀{l:List α},(l.map f).Nodup->(l.filter fun a=>decide (f a=x)).length<=1
 | [],_=>by simp
 | a:: r,nd=>by
  rw [List.map_cons,List.nodup_cons] at nd
  rw [List.filter_cons]
  by_cases h:f a=x
  ·rw [if_pos (by simp [h]),List.filter_eq_nil_iff.mpr fun b hb=>by simpa using fun e=>nd.1 (List.mem_map.mpr ⟨b,hb,by rw [e,h]⟩)]
   simp
  ·rw [if_neg (by simp [h])]
   exact Jb nd.2
theorem Jr {b:Nat} {ls:List aG} {ps:List PD} {S:FS} (F:qF ls ps) (O:Jt b ls ps S) (xs:List Str):Jt (b+32) ls ps (jf ls ps S xs):=by
 have dk:∀w∈j0 ls ps S xs,Iu ls w.2:=fun w hw=>zU F (jE hw).1 (gY (jE hw).2.2).1
 refine⟨fun l hl v hv=>?_,fun p hp h0=>?_,fun p hp h0=>?_,fun l hl=>?_,fun p hp h0=>?_⟩
 ·unfold jf at hv
  rw [Ej] at hv
  rcases List.mem_append.mp hv with h | h
  ·exact O.vb l hl v h
  ·obtain⟨w,hw,hv⟩:=List.mem_flatMap.mp h
   obtain⟨q,hq,rfl⟩:=List.mem_map.mp hv
   obtain⟨h1,_,h3⟩:=jE hw
   obtain⟨e1,e2,e3⟩:=jx (gY h3).1
   have hq':=(List.mem_filter.mp hq).1
   rw [e3] at hq'
   obtain⟨pv,hpv,rfl⟩:=List.mem_map.mp hq'
   exact K5 (F.pok _ h1).1 _ _ (RQ F O h1 e1 e2).2.1 pv hpv
 ·unfold jf
  rw [yS]
  exact O.rb p hp h0
 ·unfold jf
  rw [yS,Iv]
  have h1:=Jb (x:=p.name) (Mj (ls:=ls) (S:=S) (xs:=xs) F.pnd)
  have h2:=O.dl p hp h0
  by_cases hm:∃w∈j0 ls ps S xs,w.1.name=p.name
  ·obtain⟨w,hw,e⟩:=hm
   obtain⟨a1,_,a3⟩:=jE hw
   have ew:w.1=p:=qw F.pnd a1 hp e
   obtain⟨_,e2,_⟩:=jx (gY a3).1
   rw [ew] at e2
   unfold yD at e2
   simp [h0] at e2
   omega
  ·rw [List.filter_eq_nil_iff.mpr fun w hw=>by simpa using fun e=>hm ⟨w,hw,e⟩]
   simpa using h2
 ·have h1:=Aw (O.len l hl) fun w hw=>(dk w hw).g2
  have h2:=Ti (ls:=ls) (ps:=ps) (S:=S) (xs:=xs)
  have:=F.p16
  unfold jf
  omega
 ·unfold jf
  rw [yS]
  exact O.rl p hp h0
inductive yP (K:PySem.W.Frag) (t:jL) (vs:List V) (H:Hp) (Q:VK):Prop where
 | mk:∀(b:Nat) (r:Addr) (n:Nat) (A:mG) (ls:List aG) (ps:List PD) (S:FS) (L:Addr) (xs:List Str),vs=[.ref r,.ref L]->oO K t H r n A ls ps S->Jt b ls ps S->b<=90000->n<=900->bK K H L (xs.map V.str)->L∉A.cells ls ps->((∀x∈xs,V.str x∈dH ps "give" ++ dH ps "take"))->(∀H' p,aJ (aX (r:: A.cells ls ps) H) (aX (r:: A.cells ls ps) H')->oO K t H' r (n+1) A ls ps (jf ls ps S xs)->H p=none->H' p=some (.lst ((j0 ls ps S xs).map fun w=>V.str w.1.name))->Q (.ref p) H')->yP K t vs H Q
@[irreducible] noncomputable def mY (K:PySem.W.Frag) (t:jL):Sp:=fun vs H Q _=>yP K t vs H Q
noncomputable abbrev ud:List Str:=["self", "held", "back", "deeds", "due", "name", "deed"]
theorem uW (T:Txt w K mg t):FO P w K mg base 7 t.xY ["self", "held"] (mY K t):=by
 have sc:gm ud ["self", "held"] (bc (inClass (top 62) 1)):=J4
 refine T.jZ.F.ok sc (fun vs H Q E h=>?_) (fun cdv A outer s H vs Q E hr h=>?_)
 ·unfold mY at h
  obtain⟨b,r,n,A,ls,ps,S,L,xs,rfl,_⟩:=h
  rfl
 ·unfold mY at h
  obtain⟨b,r,n,A,ls,ps,S,L,xs,rfl,⟨hR,Nc,W,nrf⟩,O,hb,hn,hL,nL,hx,k⟩:=h
  refine⟨_,(az (sN sc 2 (vp (j4 (El (pv 1))) (bM ak) (pv 1)))
   (az (bN (tD (pv 0) T.bB T.bB.me.2.2.2.1 (zg T) T.lU hr (aa (pv 2) ak aj)))
   (az (jg (i:=3) [0,2] ud (bc (inClass (top 62) 1)) rfl sc.nd rfl (b8 (J5 (aQ (pv 0) rfl) T.aU T.aU.me.2.2.1 (jr T) T.fV hr)) (fun _ _ _ _ _=>(vV (bF (FZ (K:=K) rfl) (pv 0) (pv 2) (by with_unfolding_all rfl)))) (fun _ _ _ _ _=>(cB (aa (pv 0) (aa (tD (pv 1) T.bB T.bB.me.2.2.1 (Ae T) T.n6 hr (aa (pv 0) ak aj)) ak aO) aj))))
   (az (jg (i:=4) [] ud (bc (inClass (top 62) 1)) rfl sc.nd rfl (b8 (pv 3)) (fun _ _ _ _ _=>(vV (j4 (IW (bf (gw (K:=K) rfl) (pv 0) au (fun _ _=>rfl)))))) (fun _ _ _ _ _=>(pv 0)))
   (az (d7 PassesOwn.never rfl (b8 (pv 4)) (tE rfl (bU (gN sc 5) (bU (gN sc 6) jH)))
    (aA (bN (tD (aQ (pv 0) rfl) T.aR T.aR.me.2.2.2.2.2.2.2.2.1 (Mr T) T.Ac hr (aa (pv 5) (aa (pv 6) ak aj) aj)))))
   (az (Qa (pv 0) au Iz)
   (aA (aN (yZ ["name", "deed"] [] ud (bc (inClass (top 62) 1)) rfl (b8 (pv 4)) (fun _ _ _ _ _=>yH (K:=K) (n:=2) rfl rfl (bU (jF (i:=0) (show(["name", "deed"]:List Str).Nodup by decide +kernel) rfl (Or.inl rfl) (.inr rfl)) (bU (jF (i:=1) (show(["name", "deed"]:List Str).Nodup by decide +kernel) rfl (Or.inl rfl) (.inr rfl)) jH))) (fun _ _ _ _ _=>f9) (fun _ _ _ _ _=>(pv 0))))))))))),?_⟩
  have hz:sizeLine=16777216:=sizeLine_eq
  have N:fO K t H A.n ls ps:=Nc.same bu
  obtain⟨dxn,fsn,R,F0,Pd,Gn,Tk,FL,PL,Wn⟩:=id N
  have F:=Wn.fit
  have p16:=F.p16
  obtain⟨dxr,fsr,R0⟩:=id hR
  refine⟨_,rfl,_,rfl,fu ⟨_,rfl,?_⟩⟩
  refine⟨_,rfl,r,dxr,fsr,rfl,R0.1.1,R0.2.no _ (by decide +kernel),_,rfl,r,n,A,ls,ps,S,L,xs,rfl,hR,N,W,hL,hx,fun H1 s1=>?_⟩
  obtain⟨dxr,fsr,R1⟩:=hR.same s1
  have Wn1:=Wn.same s1
  refine⟨_,rfl,r,_,dxr,fsr,_,rfl,R1.1.1,T.bB.c,T.bB.na.1,R1.2.has ("net",.ref A.n) (by simp),A.n,dxn,fsn,rfl,Wn1.obj,Wn1.fl.no _ (by decide +kernel),A.n,ls,ps,rfl,Wn1.s,fun l nl=>?_⟩
  have s2:=s1.trans (aB (o:=.lst (ps.map fun x=>V.str x.name)) nl)
  have el:(upd H1 l (.lst (ps.map fun x=>V.str x.name))) l=some (.lst (ps.map fun x=>V.str x.name)):=ao
  generalize upd H1 l (.lst (ps.map fun x=>V.str x.name))=H2 at s2 el ⊢
  have hflat:(xs.map V.str).all qC=true:=by simp [qC]
  refine⟨l,rfl,⟨_,bK.of el⟩,fW (K:=K) (a:=l) (xs:=ps.map fun x=>V.str x.name) (fun j ys H'=>aJ H2 H'/\∃qs:List (PD×Addr),ys=qs.map (fun q=>V.ref q.2)/\qs.map (·.1)=(ps.take j).filter (kj xs)/\∀q∈qs,Hw (A.cells ls ps) ls S H' q) (by rw [lM];omega) ⟨aJ.refl _,[],rfl,rfl,by simp⟩ ?_ (fun j ys H' _ h=>h.1.seq (bK.of el)) ?_ ?_⟩
  ·rintro j ys H' ⟨_,qs,rfl,e,_⟩
   have h1:=congrArg List.length e
   have h2:=List.length_filter_le (kj xs) (ps.take j)
   rw [lM] at h1
   rw [List.length_take] at h2
   rw [lM]
   omega
  ·rintro j x ys H' hj ⟨s3',qs,rfl,eq,hq⟩
   rw [List.getElem?_map] at hj
   obtain⟨p,hp,rfl⟩:=Option.map_eq_some_iff.mp hj
   have hpm:=List.mem_of_getElem? hp
   have s3:=s2.trans s3'
   obtain⟨dxr,fsr,R2⟩:=hR.same s3
   refine⟨_,rfl,_,rfl,L,_,rfl,.inl (s3.seq hL),rfl,hflat,_,rfl,?_⟩
   rw [Um]
   have tk:(ps.take (j+1)).filter (kj xs)=(ps.take j).filter (kj xs) ++ if kj xs p=true then [p] else []:=by
    rw [List.take_succ,hp,Option.toList_some,List.filter_append,List.filter_cons]
    rfl
   refine kO (fun e=>?_) (fun e=>?_)
   ·have e':kj xs p=true:=e
    rw [e',if_pos rfl] at tk
    refine⟨_,rfl,_,rfl,r,dxr,fsr,rfl,R2.1.1,R2.2.no _ (by decide +kernel),_,rfl,?_⟩
    refine Uc (hR.same s3) (N.same s3) (W.same s3) O hpm (fun hd H4 s4=>?_) (fun dd hd H4 U s4 nU DA=>?_)
    ·refine⟨jt,fun q nq=>⟨s3'.trans (s4.trans (aB nq)),qs ++ [(p,q)],by simp,by rw [List.map_append,eq,tk];rfl,fun q' hq'=>?_⟩⟩
     rcases List.mem_append.mp hq' with h | h
     ·exact(hq q' h).same (s4.trans (aB nq))
     ·rw [List.mem_singleton] at h
      subst h
      exact⟨.non,ao,.inl ⟨hd,rfl⟩⟩
    ·refine⟨jt,fun q nq=>⟨s3'.trans (s4.trans (aB nq)),qs ++ [(p,q)],by simp,by rw [List.map_append,eq,tk];rfl,fun q' hq'=>?_⟩⟩
     rcases List.mem_append.mp hq' with h | h
     ·exact(hq q' h).same (s4.trans (aB nq))
     ·rw [List.mem_singleton] at h
      subst h
      exact⟨.ref U,ao,.inr ⟨dd,U,hd,rfl,DA.same (aB nq)⟩⟩
   ·have e':¬kj xs p=true:=e
    rw [if_neg e',List.append_nil] at tk
    exact⟨s3',qs,rfl,by rw [eq,tk],hq⟩
  rintro ys H3 ⟨s3',qs,rfl,eq,hq⟩ D1 nD1
  rw [lM,List.take_length] at eq
  have s4':=aB (o:=.lst (qs.map fun q=>V.ref q.2)) nD1
  have s4:=(s2.trans s3').trans s4'
  have eD1:(upd H3 D1 (.lst (qs.map fun q=>V.ref q.2))) D1=some (.lst (qs.map fun q=>V.ref q.2)):=ao
  replace hq:=fun q h=>(hq q h).same s4'
  generalize upd H3 D1 (.lst (qs.map fun q=>V.ref q.2))=H4 at s4 s4' eD1 hq ⊢
  clear s4' nD1 s3' nl el
  have lq:qs.length<=16:=by
   have h1:=congrArg List.length eq
   have h2:=List.length_filter_le (kj xs) ps
   rw [lM] at h1
   omega
  let fS:PD×Addr->Bool:=fun q=>(gO ls S q.1).isSome
  refine⟨_,rfl,D1,rfl,⟨_,bK.of eD1⟩,fW (K:=K) (a:=D1) (xs:=qs.map fun q=>V.ref q.2) (fun j ys H'=>H'=H4/\ys=((qs.take j).filter fS).map fun q=>V.ref q.2) (by rw [lM];omega) ⟨rfl,rfl⟩ (fun j ys H' ⟨_,e⟩=>by rw [e,lM];exact Nat.le_trans (List.length_filter_le _ _) (by rw [List.length_take];omega)) (fun j ys H' _ ⟨e,_⟩=>by rw [e];exact bK.of eD1) ?_ ?_⟩
  ·rintro j x ys H' hj ⟨rfl,rfl⟩
   rw [List.getElem?_map] at hj
   obtain⟨q,hqj,rfl⟩:=Option.map_eq_some_iff.mp hj
   obtain⟨u,h1,h2⟩:=hq q (List.mem_of_getElem? hqj)
   refine⟨_,rfl,q.2,_,1,_,rfl,rfl,fC.of h1,aM (j:=1) rfl,?_⟩
   rw [List.take_succ,hqj,Option.toList_some,List.filter_append,List.filter_cons,List.map_append]
   rcases h2 with ⟨h2,rfl⟩ | ⟨dd,U,h2,rfl,_⟩
   ·exact⟨_,rfl,fu ⟨rfl,by simp [fS,h2]⟩⟩
   ·exact⟨_,rfl,kJ ⟨_,rfl,rfl,by simp [fS,h2]⟩⟩
  rintro ys H' ⟨rfl,rfl⟩ D2 nD2
  rw [lM,List.take_length]
  obtain⟨ws,hws⟩:∃ws:List (PD×iW),ws=j0 ls ps S xs:=⟨_,rfl⟩
  have ewq:ws=(qs.filter fS).filterMap (fun q=>(gO ls S q.1).map fun dd=>(q.1,dd)):=by rw [hws];unfold j0;rw [<-eq,Ru]
  have hW:Paired (fun(q:PD×Addr) (w:PD×iW)=>q.1=w.1/\gO ls S w.1=some w.2/\w.1∈ps/\∃U,H' q.2=some (.tup [.str w.1.name,.ref U])/\oX (A.cells ls ps) H' U w.2) (qs.filter fS) ws:=by
   rw [ewq]
   have hall:∀q∈qs.filter fS,Hw (A.cells ls ps) ls S H' q/\q.1∈ps/\fS q=true:=fun q h=>by
    have h':=List.mem_filter.mp h
    refine⟨hq q h'.1,?_,h'.2⟩
    have:q.1∈qs.map (·.1):=List.mem_map.mpr ⟨q,h'.1,rfl⟩
    rw [eq] at this
    exact(List.mem_filter.mp this).1
   generalize qs.filter fS=rs at hall
   clear ewq
   induction rs with
   | nil=>exact .nil
   | cons q r ih=>
    obtain⟨⟨u,h1,h2⟩,hp,hf⟩:=hall q List.mem_cons_self
    rcases h2 with ⟨h2,_⟩ | ⟨dd,U,h2,rfl,h3⟩
    ·simp only [fS,h2] at hf
     cases hf
    ·rw [List.filterMap_cons,h2]
     exact .cons ⟨rfl,h2,hp,U,h1,h3⟩ (ih fun q' hq'=>hall q' (List.mem_cons_of_mem _ hq'))
  have lw:(qs.filter fS).length=ws.length:=Paired.length hW
  have lw16:ws.length<=16:=by have:=List.length_filter_le fS qs;omega
  have s5':=aB (o:=.lst ((qs.filter fS).map fun q=>V.ref q.2)) nD2
  have s5:=s4.trans s5'
  have nD2':=(W.same s4).cell nD2
  have eD2:(upd H' D2 (.lst ((qs.filter fS).map fun q=>V.ref q.2))) D2=some (.lst ((qs.filter fS).map fun q=>V.ref q.2)):=ao
  generalize upd H' D2 (.lst ((qs.filter fS).map fun q=>V.ref q.2))=H5 at s5 s5' eD2 ⊢
  generalize qs.filter fS=rs at hW lw eD2 ⊢
  have g2:∀w∈ws,w.2.gv.length<=2:=fun w hw=>by
   obtain⟨q,_,h2,h3,_⟩:=Gr hW hw
   exact(zU F h3 (gY h2).1).g2
  have W5:=W.same s5
  have R5:=hR.same s5
  have nr:=R5.cell W5
  refine⟨_,rfl,D2,rfl,⟨_,bK.of eD2⟩,d8 (K:=K) (a:=D2) (xs:=rs.map fun q=>V.ref q.2) (fun j σ H6=>FW (A.cells ls ps) H5 H6/\dO K t H6 A ls ps (ir S (ws.take j))/\∃v5 v6,σ=[some (.ref r),some (.ref L),some (.ref L),some (.ref D1),some (.ref D2),v5,v6]) ⟨fun _ _=>rfl,by simpa [ir] using W5,none,none,rfl⟩ (fun j σ H6 _ h=>bK.of (by rw [h.1 D2 nD2'];exact eD2)) ?_ ?_⟩
  ·rintro j x σ H6 hj ⟨m6,W6,v5,v6,rfl⟩
   rw [List.getElem?_map] at hj
   obtain⟨q,hqj,rfl⟩:=Option.map_eq_some_iff.mp hj
   obtain⟨w,hwj,_,h2,hp,U,t1,d1⟩:=Fl hW hqj
   have t6:=W5.tupMov m6 (s5' _ _ t1)
   have d6:=(d1.same s5').mov W5 m6
   obtain⟨dxr,fsr,R3⟩:=R5.mov nr m6
   obtain⟨dxg,fsg,y1,y2⟩:=id W6.at'.ex
   refine⟨q.2,_,rfl,fC.of t6,rfl,_,_,rfl,_,_,rfl,rfl,?_⟩
   refine⟨_,rfl,r,_,dxr,fsr,_,rfl,R3.1.1,T.bB.c,T.bB.na.2.1,R3.2.has ("flow",.ref A.f) (by simp),A.f,dxg,fsg,rfl,y1,y2.no _ (by decide +kernel),_,rfl,_,rfl,?_⟩
   refine Xh F W6 hp (b:=b+2 * (ws.take j).length) (fun l hl=>Aw (O.len l hl) fun w' hw'=>g2 w' (List.mem_of_mem_take hw')) (by rw [List.length_take];omega) d6 (zU F hp (gY h2).1) fun H7 m7 W7=>⟨fun a ha=>by rw [m7 a ha,m6 a ha],?_,_,_,rfl⟩
   rw [List.take_succ,hwj,Option.toList_some,MF]
   exact W7
  rintro σ H6 ⟨m6,W6,v5,v6,rfl⟩
  rw [lM,lw,List.take_length] at W6
  obtain⟨dxr,fsr,R3⟩:=R5.mov nr m6
  refine⟨_,rfl,r,_,dxr,fsr,.int (n:Nat),rfl,R3.1.1,T.bB.c,T.bB.na.2.2.1,R3.2.has ("turns",.int (n:Nat)) (by simp),_,_,rfl,rfl,dxr,fsr,R3.1.1,by have:=R3.1.2;omega,?_⟩
  have R7:=mj.turned R3
  have W7:=W6.ins (x:=r) nr (o:=.ins t.oY dxr (aK "turns" (.int ((n:Int)+1)) fsr)) nrf
  have m7:∀a,a≠r->a∉A.cells ls ps->upd H6 r (.ins t.oY dxr (aK "turns" (.int ((n:Int)+1)) fsr)) a=H5 a:=fun a h1 h2=>by rw [aH h1,m6 a h2]
  generalize upd H6 r (.ins t.oY dxr (aK "turns" (.int ((n:Int)+1)) fsr))=H7 at R7 W7 m7 ⊢
  have nD2r:D2≠r:=fun z=>by
   obtain⟨_,_,y1,_⟩:=R5
   rw [<-z,eD2] at y1
   cases y1.1
  have eD7:H7 D2=some (.lst (rs.map fun q=>V.ref q.2)):=by rw [m7 D2 nD2r nD2'];exact eD2
  have t7:∀{a:Addr} {vs:List V},H5 a=some (.tup vs)->H7 a=some (.tup vs):=fun {a vs} h=>by
   rw [m7 a (fun z=>by obtain⟨_,_,y1,_⟩:=R5;rw [<-z,h] at y1;cases y1.1) (W5.ncell h (by intro _ z;cases z) (by intro _ z;cases z))]
   exact h
  have c7:aJ (aX (r:: A.cells ls ps) H) (aX (r:: A.cells ls ps) H7):=fun a o e=>by
   have hn:a∉r:: A.cells ls ps:=fun z=>by unfold aX at e;rw [if_pos z] at e;cases e
   have e':=s5 _ _ (bu a o e)
   unfold aX
   rw [if_neg hn,m7 a (fun z=>hn (by rw [z];exact List.mem_cons_self)) (fun z=>hn (List.mem_cons_of_mem _ z))]
   exact e'
  refine⟨_,rfl,D2,rfl,⟨_,bK.of eD7⟩,?_⟩
  refine xX (K:=K) (a:=D2) (xs:=rs.map fun q=>V.ref q.2) (fun j ys H8=>H8=H7/\ys=(ws.take j).map fun w=>V.str w.1.name) (by rw [lM];omega) ⟨rfl,rfl⟩ ?_ (fun j ys H8 _ ⟨e,_⟩=>by rw [e];exact bK.of eD7) ?_ ?_
  ·rintro j ys H8 ⟨_,rfl⟩
   rw [lM,List.length_take]
   omega
  ·rintro j v ys H8 hj ⟨rfl,rfl⟩
   rw [List.getElem?_map] at hj
   obtain⟨q,hqj,rfl⟩:=Option.map_eq_some_iff.mp hj
   obtain⟨w,hwj,_,_,_,U,t1,_⟩:=Fl hW hqj
   refine⟨q.2,_,rfl,fC.of (t7 (s5' _ _ t1)),rfl,_,_,rfl,_,_,rfl,rfl,rfl,?_⟩
   refine yes ⟨_,rfl,rfl,?_⟩
   rw [List.take_succ,hwj,Option.toList_some,List.map_append]
   rfl
  rintro ys H8 ⟨rfl,rfl⟩ p np
  rw [lM,lw,List.take_length]
  have s8:=aB (o:=.lst (ws.map fun w=>V.str w.1.name)) np
  have np5:H5 p=none:=by
   cases e:H5 p with
   | none=>rfl
   | some o=>
    have h1:p≠r:=fun z=>by
     obtain⟨_,_,y1,_⟩:=R7
     rw [<-z,np] at y1
     cases y1.1
    rw [<-m7 p h1 (W7.cell np),np] at e
    cases e
  have c8:aJ (aX (r:: A.cells ls ps) H) (aX (r:: A.cells ls ps) (upd H8 p (.lst (ws.map fun w=>V.str w.1.name)))):=c7.trans (CP np)
  refine k _ p c8 ⟨R7.same s8,Nc.same c8,?_,nrf⟩ (s5.free np5) (by rw [ao,hws])
  unfold jf
  rw [<-hws]
  exact W7.same s8
inductive Ht (K:PySem.W.Frag) (vs:List V) (H:Hp) (Q:VK) (E:XK):Prop where
 | mk:∀(a:Addr) (ws:List Int),vs=[.ref a]->bK K H a (ws.map V.int)->ws.length<=300->((∀v∈ws,0<=v/\v <1000000000))->(∀H',aJ H H'->Q (.bl true) H')->Ht K vs H Q E
theorem PP (T:Txt w K mg t):FO P w K mg base 3 t.K8 ["thing"] (Ht K):=by
 have sc:=T.Dq.sc ["thing"]
 refine T.Dq.F.ok sc ln (fun _ _ _ _ H vs Q E hr h=>?_)
 obtain⟨a,ws,rfl,hS,hl,hB,k⟩:=h
 refine⟨_,(aA (aN (yq (bG zQ (by rfl) T.pq mD (aa (pv 0) (aa (CJ (by rfl) T.j7 iK) ak aj) aj)) (yq (uq wY (bG cz (by rfl) T.gh dY (aa (pv 0) ak aj)) (jV (by rfl) T.Gb) (bR _)) (yd (bG (yO rfl) (by rfl) T.Oa Il (aa (gZ [] ["thing"] (bc (top 59)) rfl (b8 (pv 0)) (fun _ _ _ _ _=>f9) (fun _ _ _ _ _=>(fj (uZ T) T.pX hr (aa (pv 0) ak aj)))) ak dX))))))),?_⟩
 have hz:sizeLine=16777216:=sizeLine_eq
 refine⟨_,rfl,_,_,_,_,rfl,.inl ⟨rfl,_,hS⟩,by decide,rfl,_,rfl,kJ ?_⟩
 refine⟨_,rfl,_,(ws.map V.int).length,rfl,.inl ⟨_,hS,by simp⟩,_,_,rfl,rfl,_,rfl,?_⟩
 rw [lM,decide_eq_true (show(ws.length:Int)<=300 by omega)]
 refine kJ ?_
 refine⟨_,rfl,a,rfl,⟨_,hS⟩,fW (K:=K) (a:=a) (xs:=ws.map V.int) (fun j ys H'=>H'=H/\ys=(List.replicate j true).map V.bl) (by rw [lM];omega) ⟨rfl,rfl⟩ (fun j ys H' ⟨_,e⟩=>by rw [e];simp) (fun j ys H' _ ⟨e,_⟩=>by rw [e];exact hS) ?_ ?_⟩
 ·rintro j x ys H' hx ⟨rfl,rfl⟩
  rw [List.getElem?_map] at hx
  obtain⟨n,hn,rfl⟩:=Option.map_eq_some_iff.mp hx
  obtain⟨n0,n1⟩:=hB n (List.mem_of_getElem? hn)
  refine yes ⟨_,rfl,.int n,rfl,.inl ⟨n,rfl,rfl,?_⟩⟩
  rw [decide_eq_true n0,decide_eq_true n1,List.replicate_succ']
  simp
 rintro ys H' ⟨rfl,rfl⟩ D hD
 refine⟨D,List.replicate (ws.map V.int).length true,rfl,bK.of ao,?_⟩
 rw [show(List.replicate (ws.map V.int).length true).all id=true by simp]
 exact k _ (aB hD)
structure CW (ps:List PD) (RW:List (Str×Addr×List Int)):Prop where
 door:∀q∈RW,V.str q.1∈dH ps "give"
 bnd:∀q∈RW,∀v∈q.2.2,0<=v/\v <1000000000
theorem Hq {ls:List aG} {ps:List PD} {RW:List (Str×Addr×List Int)} (F:qF ls ps) (hl:∀q∈RW,q.2.2.length<=300) (hb:∀q∈RW,∀v∈q.2.2,0<=v/\v <1000000000):Jt 199 ls ps (fB ls ps RW):=by
 have rq:∀x,qH RW x=[]∨∃q∈RW,qH RW x=q.2.2:=fun x=>by
  unfold qH
  cases e:RW.find? fun q=>decide (q.1=x) with
  | none=>exact .inl rfl
  | some q=>exact .inr ⟨q,List.mem_of_find?_eq_some e,rfl⟩
 refine⟨fun l h v hv=>?_,fun p hp h0 v hv=>?_,fun p hp h0=>Nat.zero_le _,fun l h=>?_,fun p hp h0=>?_⟩
 ·have e:(fB ls ps RW).ev l.name=l.first:=vy F.whole.nod h
  rw [e] at hv
  exact(F.lok l h).2.2.2 v hv
 ·rcases rq p.name with e | ⟨q,hq,e⟩
  ·rw [show(fB ls ps RW).r p.name=[] from e] at hv
   cases hv
  ·rw [show(fB ls ps RW).r p.name=q.2.2 from e] at hv
   exact hb q hq v hv
 ·have e:(fB ls ps RW).ev l.name=l.first:=vy F.whole.nod h
  rw [e]
  have:=F.lok l h
  omega
 ·rcases rq p.name with e | ⟨q,hq,e⟩
  ·rw [show(fB ls ps RW).r p.name=[] from e]
   exact Nat.zero_le _
  ·rw [show(fB ls ps RW).r p.name=q.2.2 from e]
   exact hl q hq
inductive yV (K:PySem.W.Frag) (t:jL) (vs:List V) (H:Hp) (Q:VK) (E:XK):Prop where
 | mk:∀(n rw:Addr) (ls:List aG) (ps:List PD) (RW:List (Str×Addr×List Int)),vs=[.ref n,.ref rw]->fO K t H n ls ps->nZ H rw RW->CW ps RW->(∀H',aJ H H'->Q .non H')->yV K t vs H Q E
theorem Jj (T:Txt w K mg t):FO P w K mg base 4 t.BK ["net", "rows"] (yV K t):=by
 have sc:=T.uJ.sc ["net", "rows", "doors", "door"]
 refine T.uJ.F.ok sc ln (fun _ _ _ _ H vs Q E hr h=>?_)
 obtain⟨n,rw,ls,ps,RW,rfl,N,hrw,hO,k⟩:=h
 refine⟨_,(az (sN sc 2 (J5 (pv 0) T.aU T.aU.me.2.2.2.2.1 (pA T) T.kI hr))
  (az (mX (H0:=H) rfl (d7 PassesOwn.never rfl (o7 (pv 1)) (gN sc 3)
   (aA (cC (bF lA (pv 3) (pv 2) (by with_unfolding_all rfl))
    (aA eY)
    bL))))
  (aA (mX (H0:=H) rfl (d7 PassesOwn.never rfl (o7 (pv 1)) (gN sc 3)
   (aA (cC (lV (lg (fj (PP T) T.Dq hr (aa (cG hr.u1 (pv 1) (pv 3) (fun _ _=>rfl)) ak aF))))
    (aA eY)
    bL))))))),?_⟩
 have hz:sizeLine=16777216:=sizeLine_eq
 obtain⟨dxn,fsn,R,F,Pd,Gn,Tk,FL,PL,Wn⟩:=id N
 refine⟨_,rfl,n,dxn,fsn,rfl,Wn.obj,Wn.fl.no _ (by decide +kernel),n,ls,ps,rfl,N,fun l nl=>?_⟩
 have s1:=aB (o:=.lst (dH ps "give")) nl
 have el:upd H l (.lst (dH ps "give")) l=some (.lst (dH ps "give")):=ao
 generalize upd H l (.lst (dH ps "give"))=H1 at s1 el ⊢
 have fl:(dH ps "give").all qC=true:=by
  rw [List.all_eq_true]
  intro v hv
  obtain⟨p,_,rfl⟩:=List.mem_map.mp hv
  rfl
 have w1:=hrw.same s1
 have nf:∀(o':Obj) (u':HO),H rw≠some (.frz o' u'):=fun o' u' z=>by rw [hrw.dict] at z;cases z
 refine⟨_,rfl,rw,_,rfl,w1.dict,fun o=>sZ (fun j σ H'=>H'=upd H1 rw (.frz o (.dK (jR RW)))/\∃v3,σ=[some (.ref n),some (.ref rw),some (.ref l),v3]) ⟨rfl,none,rfl⟩ (fun j σ H' _ ⟨e,_⟩=>by rw [e];exact ao) ?_ ?_⟩
 ·rintro j kk v σ H' hj ⟨rfl,v3,rfl⟩
  unfold jR at hj
  rw [List.getElem?_map] at hj
  obtain⟨q,hq,e⟩:=Option.map_eq_some_iff.mp hj
  cases e
  refine⟨_,rfl,_,rfl,l,_,rfl,.inl (bK.of (jo w1.dict el (by intro _ z;cases z))),rfl,fl,_,rfl,?_⟩
  have hin:inV (kV (Sum.inr q.1)) (dH ps "give")=true:=Rm (hO.door q (List.mem_of_getElem? hq)) (by simp [JR,kV])
  rw [hin]
  exact fu ⟨rfl,_,rfl⟩
 rintro σ H' ⟨rfl,v3,rfl⟩
 refine⟨_,⟨rw,o,_,ao,nf,rfl⟩,?_⟩
 rw [tO,JG w1.dict]
 refine⟨_,rfl,rw,_,rfl,w1.dict,fun o=>sZ (fun j σ H'=>aJ (upd H1 rw (.frz o (.dK (jR RW)))) H'/\∃v3,σ=[some (.ref n),some (.ref rw),some (.ref l),v3]) ⟨aJ.refl _,v3,rfl⟩ (fun j σ H' _ ⟨e,_⟩=>e _ _ ao) ?_ ?_⟩
 ·rintro j kk v σ H' hj ⟨s2,v3,rfl⟩
  unfold jR at hj
  rw [List.getElem?_map] at hj
  obtain⟨q,hq,e⟩:=Option.map_eq_some_iff.mp hj
  cases e
  have hm:=List.mem_of_getElem? hq
  have vq:cD (jR RW) (Sum.inr q.1)=some (.ref q.2.1):=ju (by rw [yo];exact ik hrw.nd) (List.mem_map.mpr ⟨q,hm,rfl⟩)
  have eq2:=s2 _ _ (jo w1.dict (w1.lists q hm) (by intro _ z;cases z))
  refine⟨_,rfl,_,rfl,rw,_,rfl,(by rw [<-vq];exact .inl ⟨_,Sum.inr q.1,.inr ⟨o,s2 _ _ ao⟩,rfl,rfl⟩),q.2.1,q.2.2,rfl,bK.of eq2,hrw.len q hm,hO.bnd q hm,fun H3 s3=>⟨_,rfl,fu ⟨s2.trans s3,_,rfl⟩⟩⟩
 rintro σ H' ⟨s2,v3,rfl⟩
 refine⟨_,⟨rw,o,_,s2 _ _ ao,nf,rfl⟩,?_⟩
 refine k _ fun b u e=>?_
 by_cases hb:b=rw
 ·subst hb
  rw [ao]
  rw [hrw.dict] at e
  exact e
 ·rw [aH hb]
  exact s2 _ _ (by rw [aH hb];exact s1 _ _ e)
theorem Q3 {H:Hp} {Q:VK} {Ex:XK} {H0:Hp} {f dx n rw:Addr} {ls:List aG} {ps:List PD} {RW:List (Str×Addr×List Int)} (hf:H f=some (.ins t.cL dx [])) (s0:aJ H0 H) (nf:H0 f=none) (N:fO K t H0 n ls ps) (hrw:nZ H0 rw RW)
  (k:∀(H':Hp) (A:mG),A.f=f->A.n=n->m5 f H H'->dO K t H' A ls ps (fB ls ps RW)->(∀a∈A.cells ls ps,H a=none)->Q .non H'):iB K t [.ref f,.ref n,.ref rw] H Q Ex:=by
 unfold iB
 exact⟨H0,f,dx,n,rw,ls,ps,RW,rfl,hf,s0,nf,N,hrw,k⟩
inductive sI (K:PySem.W.Frag) (t:jL) (vs:List V) (H:Hp) (Q:VK):Prop where
 | mk:∀(H0:Hp) (r dx n rw:Addr) (ls:List aG) (ps:List PD) (RW:List (Str×Addr×List Int)),vs=[.ref r,.ref n,.ref rw]->H r=some (.ins t.oY dx [])->aJ H0 H->H0 r=none->fO K t H0 n ls ps->nZ H0 rw RW->CW ps RW->(∀H' A,A.n=n->aJ H0 H'->oO K t H' r 0 A ls ps (fB ls ps RW)->(∀a∈A.f:: A.cells ls ps,H0 a=none)->Q .non H')->sI K t vs H Q
@[irreducible] noncomputable def jm (K:PySem.W.Frag) (t:jL):Sp:=fun vs H Q _=>sI K t vs H Q
theorem uA (T:Txt w K mg t):FO P w K mg base 6 t.qp ["self", "net", "rows"] (jm K t):=by
 have sc:=T.ie.sc ["self", "net", "rows"]
 refine T.ie.F.ok sc (fun vs H Q E h=>?_) (fun cdv A outer s H vs Q E hr h=>?_)
 ·unfold jm at h
  obtain⟨H0,r,dx,n,rw,ls,ps,RW,rfl,_⟩:=h
  rfl
 ·unfold jm at h
  obtain⟨H0,r,dx,n,rw,ls,ps,RW,rfl,hr1,s0,nr0,N,hrw,hO,k⟩:=h
  refine⟨_,(az (bN (fj (Jj T) T.uJ hr (aa (pv 1) (aa (pv 2) ak aj) aj)))
   (az (jq (pv 0) (pv 1) rfl)
   (az (jq (pv 0) (gj (T.aR.M T.jY) (z7 T) (hr.mono (by decide)) (by rfl) T.aR.m T.jY.b .nil fQ (aa (pv 1) (aa (pv 2) ak aj) aj)) rfl)
   (aA (jq (pv 0) au rfl))))),?_⟩
  refine⟨_,rfl,_,rfl,n,rw,ls,ps,RW,rfl,N.same s0,hrw.same s0,hO,fun H1 s1=>?_⟩
  have T0:=(Tr.start hr1).same s1
  refine⟨_,rfl,_,rfl,r,_,dx,[],rfl,s1 _ _ hr1,T.bB.c,T.bB.na.1,by show 0 <1000;decide,?_⟩
  have T1:=T0.put (L1:=[]) (L2:=[]) (o':=.ins t.oY dx (aK "net" (.ref n) []))
  generalize upd H1 r (.ins t.oY dx (aK "net" (.ref n) []))=H2 at T1 ⊢
  have s02:aJ H0 H2:=fun x o e=>T1.but x o (aD e nr0) (s0 x o e)
  have er2:=T1.all (r,.ins t.oY dx (aK "net" (.ref n) [])) (.head _)
  refine⟨_,rfl,_,rfl,fun f dxf nf ndf nef=>?_⟩
  have s3:aJ H2 (upd (upd H2 dxf (.own f)) f (.ins t.cL dxf [])):=fun b o e=>by rw [aH (aD e nf),aH (aD e ndf)];exact e
  have ef:(upd (upd H2 dxf (.own f)) f (.ins t.cL dxf [])) f=some (.ins t.cL dxf []):=ao
  generalize upd (upd H2 dxf (.own f)) f (.ins t.cL dxf [])=H3 at s3 ef ⊢
  have s03:=s02.trans s3
  have nfr:r≠f:=aD er2 nf
  refine Q3 ef s03 (s02.free nf) N hrw fun H4 A eAf eAn b4 W4 fr4=>⟨rfl,?_⟩
  subst eAf
  subst eAn
  have er4:=b4 r _ nfr (s3 _ _ er2)
  have nrc:r∉A.cells ls ps:=W4.ncell er4 (by intro _ z;cases z) (by intro _ z;cases z)
  refine⟨_,rfl,r,_,dx,_,rfl,er4,T.bB.c,T.bB.na.2.1,Nat.lt_of_le_of_lt (jj (Nat.zero_le 0)) (by decide),?_⟩
  have er5:upd H4 r (.ins t.oY dx (aK "flow" (.ref A.f) (aK "net" (.ref A.n) []))) r=some (.ins t.oY dx (aK "flow" (.ref A.f) (aK "net" (.ref A.n) []))):=ao
  refine⟨_,rfl,r,_,dx,_,rfl,er5,T.bB.c,T.bB.na.2.2.1,Nat.lt_of_le_of_lt (jj (jj (Nat.zero_le 0))) (by decide),?_⟩
  rw [tO]
  have s05:∀o:HO,aJ H0 (upd H4 r o):=fun o b u e=>by
   rw [aH (aD e nr0)]
   exact b4 b u (aD e (s02.free nf)) (s03 b u e)
  have fr0:∀a∈A.f:: A.cells ls ps,H0 a=none:=fun a ha=>by
   rcases List.mem_cons.mp ha with rfl | ha
   ·exact s02.free nf
   ·exact s03.free (fr4 a ha)
  refine k _ A rfl (s05 _) ⟨⟨dx,_,⟨ao,jj (jj (jj (Nat.zero_le 0)))⟩,⟨?_,?_⟩⟩,N.same fun b u e=>?_,W4.ins nrc nfr,nfr⟩ fr0
  ·intro q hq
   simp only [List.mem_cons,List.not_mem_nil,or_false] at hq
   rcases hq with rfl | rfl | rfl
   ·dsimp only;(repeat first | (rw [aC,if_pos rfl];done) | rw [aC,if_neg (by decide +kernel)])
   ·dsimp only;(repeat first | (rw [aC,if_pos rfl];done) | rw [aC,if_neg (by decide +kernel)])
   ·dsimp only
    rw [aC,if_pos rfl]
    rfl
  ·intro m hm
   have hne:∀m∈(["step", "need_doors", "next_deed", "full_lane", "can_work", "works", "lane_now", "turn", "had", "rows_left", "part_now", "net_now"]:List Str),∀g∈(["turns", "flow", "net"]:List Str),¬m=g:=by decide +kernel
   have h:=hne m hm
   rw [aC,if_neg (h _ (by simp)),aC,if_neg (h _ (by simp)),aC,if_neg (h _ (by simp))]
   rfl
  ·have hn:b∉r:: A.cells ls ps:=fun z=>by
    rcases List.mem_cons.mp z with z | z
    ·rw [z,nr0] at e;cases e
    ·rw [fr0 b (.tail _ z)] at e;cases e
   unfold aX
   rw [if_neg hn]
   exact s05 _ b u e
inductive Dl (K:PySem.W.Frag) (t:jL) (vs:List V) (H:Hp) (Q:VK) (E:XK):Prop where
 | mk:∀(r:Addr) (n:Nat) (A:mG) (ls:List aG) (ps:List PD) (S:FS) (l:aG),vs=[.ref r,.str l.name]->mj t H r A.n A.f n->fO K t H A.n ls ps->dO K t H A ls ps S->l∈ls->(∀H' p,aJ H H'->H p=none->H' p=some (.lst ((S.ev l.name).map V.int))->Q (.ref p) H')->Dl K t vs H Q E
theorem tM (T:Txt w K mg t):FO P w K mg base 3 t.Am ["self", "name"] (Dl K t):=by
 have sc:=T.pP.sc ["self", "name"]
 refine T.pP.F.ok sc ln (fun _ _ _ _ H vs Q E hr h=>?_)
 obtain⟨r,n,A,ls,ps,S,l,rfl,hR,N,W,hl,k⟩:=h
 refine⟨_,(az (bN (tD (aQ (pv 0) rfl) T.aU T.aU.me.2.2.2.2.2.2.1 (fY T) T.dJ hr (aa (pv 1) ak aj)))
  (aA (aN (cW iJ (by rfl) T.j7 iK (aa (cG hr.u1 (aQ (aQ (pv 0) rfl) rfl) (pv 1) (fun _ _=>rfl)) ak aF))))),?_⟩
 obtain⟨dxn,fsn,R,F0,Pd,Gn,Tk,FL,PL,Wn⟩:=id N
 obtain⟨dxr,fsr,R0⟩:=id hR
 refine⟨_,rfl,r,_,dxr,fsr,_,rfl,R0.1.1,T.bB.c,T.bB.na.1,R0.2.has ("net",.ref A.n) (by simp),A.n,dxn,fsn,rfl,Wn.obj,Wn.fl.no _ (by decide +kernel),_,rfl,A.n,ls,ps,l.name,rfl,N,.inl ⟨List.mem_map.mpr ⟨l,hl,rfl⟩,fun H1 s1=>?_⟩⟩
 obtain⟨dxr,fsr,R1⟩:=hR.same s1
 have W1:=W.same s1
 obtain⟨dx,fs,h1,h2⟩:=id W1.at'.ex
 have va:=wH (ea:=A.ea) Wn.fit.whole.nod hl
 refine⟨_,rfl,r,_,dxr,fsr,_,rfl,R1.1.1,T.bB.c,T.bB.na.2.1,R1.2.has ("flow",.ref A.f) (by simp),A.f,_,dx,fs,_,rfl,h1,T.aR.c,T.aR.na.2.1,h2.has ("ever",.ref A.E) (by simp),_,rfl,A.E,_,rfl,(by rw [<-va];exact eE.k (k:=Sum.inr l.name) W1.ever),A.ea l.name,_,rfl,.inl (bK.of (W1.lists l hl)),fun p hp=>k _ p (s1.trans (aB hp)) (s1.free hp) ao⟩
inductive sH (K:PySem.W.Frag) (t:jL) (vs:List V) (H:Hp) (Q:VK) (E_:XK):Prop where
 | mk:∀(f n E G Kp D Rw l:Addr) (ed gd:List (Key×V)) (x:Str) (vs':List V) (g:Nat),vs=[.ref f,.str x]->pZ K t H f n E G Kp D Rw->H Rw=some (.dK ed)->H D=some (.dK gd)->cD ed (Sum.inr x)=some (.ref l)->cD gd (Sum.inr x)=some (.int g)->bK K H l vs'->(∀p,H p=none->Q (.ref p) (upd H p (.lst (vs'.drop g))))->sH K t vs H Q E_
theorem zZ (T:Txt w K mg t):FO P w K mg base 1 t.oK ["self", "door"] (sH K t):=by
 have sc:=T.oE.sc ["self", "door"]
 refine T.oE.F.ok sc ln (fun _ _ _ _ H vs Q E hr h=>?_)
 obtain⟨f,n,E,G,Kp,D,Rw,l,ed,gd,x,vs',g,rfl,N,hE,hG,h3,h4,h5,k⟩:=h
 refine⟨_,(aA (aN (ji mQ (cG hr.u1 (aQ (pv 0) rfl) (pv 1) (fun _ _=>rfl)) (jK (cG hr.u1 (aQ (pv 0) rfl) (pv 1) (fun _ _=>rfl))) kZ))),?_⟩
 obtain⟨dx,fs,h1,h2⟩:=id N.ex
 refine⟨_,rfl,f,_,dx,fs,_,rfl,h1,T.aR.c,T.aR.na.2.2.2.2.2.1,h2.has ("rows",.ref Rw) (by simp),_,rfl,Rw,_,rfl,(by rw [<-h3];exact eE.k (k:=Sum.inr x) hE),?_⟩
 refine⟨_,rfl,f,_,dx,fs,_,rfl,h1,T.aR.c,T.aR.na.2.2.2.2.1,h2.has ("done",.ref D) (by simp),_,rfl,D,_,rfl,(by rw [<-h4];exact eE.k (k:=Sum.inr x) hG),?_⟩
 refine⟨_,rfl,l,vs',rfl,h5,fun p hp=>?_⟩
 rw [uO]
 exact k p hp
structure Jc (H:Hp) (D:Addr) (ra:Str->Addr) (ps:List PD) (S:FS):Prop where
 dict:H D=some (.dK (qI ra ps))
 lists:∀p∈ps,p.kind=0->H (ra p.name)=some (.lst (((S.r p.name).drop (S.d p.name)).map V.int))
theorem Jc.same {H H':Hp} {D:Addr} {ra:Str->Addr} {ps:List PD} {S:FS} (h:Jc H D ra ps S) (s:aJ H H'):Jc H' D ra ps S:=⟨s _ _ h.dict,fun p hp h0=>s _ _ (h.lists p hp h0)⟩
inductive sS (K:PySem.W.Frag) (t:jL) (vs:List V) (H:Hp) (Q:VK) (E:XK):Prop where
 | mk:∀(r:Addr) (n:Nat) (A:mG) (ls:List aG) (ps:List PD) (S:FS),vs=[.ref r]->mj t H r A.n A.f n->fO K t H A.n ls ps->dO K t H A ls ps S->(∀(H':Hp) (D:Addr) (ra:Str->Addr),aJ H H'->Jc H' D ra ps S->H D=none->(∀p∈ps,p.kind=0->H (ra p.name)=none)->Q (.ref D) H')->sS K t vs H Q E
theorem Av (T:Txt w K mg t):FO P w K mg base 4 t.oN ["self"] (sS K t):=by
 have sc:=T.oU.sc ["self", "left", "door"]
 refine T.oU.F.ok sc ln (fun _ _ _ _ H vs Q E hr h=>?_)
 obtain⟨r,n,A,ls,ps,S,rfl,hR,N,W,k⟩:=h
 refine⟨_,(az (sN sc 1 il)
  (az (d7 PassesOwn.never rfl (b8 (J5 (aQ (pv 0) rfl) T.aU T.aU.me.2.2.2.2.1 (pA T) T.kI hr)) (gN sc 2)
   (aA (gU hr.u1 (pv 1) (pv 2) (tD (aQ (pv 0) rfl) T.aR T.aR.me.2.2.2.2.2.2.2.2.2.1 (zZ T) T.oE hr (aa (pv 2) ak aj)) rfl)))
  (aA (aN (pv 1))))),?_⟩
 have hz:sizeLine=16777216:=sizeLine_eq
 have F:qF ls ps:=by obtain⟨_,_,_,_,_,_,_,_,_,Wn⟩:=N;exact Wn.fit
 have p16:=F.p16
 refine fun D nD=>?_
 have s1:=aB (o:=.dK []) nD
 have eD:upd H D (.dK []) D=some (.dK []):=ao
 have sC:aJ H (aX [D] (upd H D (.dK []))):=fun b o e=>bH (s1 _ _ e) (by simpa using aD e nD)
 generalize upd H D (.dK [])=H1 at s1 eD sC ⊢
 obtain⟨dxn,fsn,R,F0,Pd,Gn,Tk,FL,PL,Wn⟩:=N.same s1
 obtain⟨dxr,fsr,R1⟩:=hR.same s1
 refine⟨_,rfl,r,_,dxr,fsr,_,rfl,R1.1.1,T.bB.c,T.bB.na.1,R1.2.has ("net",.ref A.n) (by simp),A.n,dxn,fsn,rfl,Wn.obj,Wn.fl.no _ (by decide +kernel),A.n,ls,ps,rfl,Wn.s,fun l nl=>?_⟩
 have ePg:dH ps "give" =(gf ps).map fun p=>V.str p.name:=by unfold dH;rw [Mt F.pok]
 rw [ePg]
 have lgP:(gf ps).length<=16:=by have:=List.length_filter_le (fun p:PD=>decide (p.kind=0)) ps;unfold gf;omega
 have nlD:l∉[D]:=by simp;intro z;rw [z,eD] at nl;cases nl
 have eD2:upd H1 l (.lst ((gf ps).map fun p=>V.str p.name)) D=some (.dK []):=aB nl _ _ eD
 have el:aX [D] (upd H1 l (.lst ((gf ps).map fun p=>V.str p.name))) l=some (.lst ((gf ps).map fun p=>V.str p.name)):=bH ao nlD
 have sC2:=sC.trans (CP (E:=[D]) (o:=.lst ((gf ps).map fun p=>V.str p.name)) nl)
 generalize upd H1 l (.lst ((gf ps).map fun p=>V.str p.name))=H2 at eD2 el sC2 ⊢
 refine⟨l,rfl,⟨_,bK.of (bu _ _ el)⟩,d8 (K:=K) (a:=l) (xs:=(gf ps).map fun p=>V.str p.name) (fun j σ H'=>(∃v2,σ=[some (.ref r),some (.ref D),v2])/\aJ (aX [D] H2) (aX [D] H')/\∃RL:List (PD×Addr),RL.map (·.1)=(gf ps).take j/\H' D=some (.dK (RL.map fun q=>((Sum.inr q.1.name:Key),V.ref q.2)))/\∀q∈RL,aX [D] H' q.2=some (.lst (((S.r q.1.name).drop (S.d q.1.name)).map V.int))/\H q.2=none) ⟨⟨none,rfl⟩,aJ.refl _,[],rfl,eD2,by simp⟩ (fun j σ H' _ h=>bK.of (bu _ _ (h.2.1 _ _ el))) ?_ ?_⟩
 ·rintro j x σ H3 hx ⟨⟨w2,rfl⟩,c3,RL,eRL,eD3,hRL⟩
  rw [List.getElem?_map] at hx
  obtain⟨p,hpj,rfl⟩:=Option.map_eq_some_iff.mp hx
  have hf:=List.mem_filter.mp (List.mem_of_getElem? hpj)
  have h0:p.kind=0:=by simpa using hf.2
  have s3:=(sC2.trans c3).trans bu
  have W3:=W.same s3
  obtain⟨dxr,fsr,R2⟩:=hR.same s3
  obtain⟨dx,fs,h1,h2⟩:=id W3.at'.ex
  have nin:=nC (yM F.pnd) hpj
  have lRL:RL.length<=16:=by have:=congrArg List.length eRL;rw [lM,List.length_take] at this;omega
  have vR:cD (RL.map fun q=>((Sum.inr q.1.name:Key),V.ref q.2)) (Sum.inr p.name)=none:=ig (by
   rw [List.map_map]
   intro z
   obtain⟨q,hq,e⟩:=List.mem_map.mp z
   have hm:q.1∈RL.map (·.1):=List.mem_map.mpr ⟨q,hq,rfl⟩
   rw [eRL] at hm
   exact nin (List.mem_map.mpr ⟨q.1,hm,by injection e⟩))
  refine⟨_,rfl,r,_,dxr,fsr,_,rfl,R2.1.1,T.bB.c,T.bB.na.2.1,R2.2.has ("flow",.ref A.f) (by simp),A.f,dx,fs,rfl,h1,h2.no _ (by decide +kernel),_,rfl,A.f,A.n,A.E,A.G,A.Kp,A.D,A.Rw,A.ra p.name,_,_,p.name,_,S.d p.name,rfl,W3.at',W3.rows,W3.done,vf F.pnd hf.1 h0,pN (k:=fun x=>(S.d x:Int)) F.pnd hf.1,bK.of (W3.rlst p hf.1 h0),fun u nu=>?_⟩
  rw [<-List.map_drop]
  have nuD:u≠D:=fun z=>by rw [z,eD3] at nu;cases nu
  refine⟨_,rfl,_,rfl,D,_,rfl,qD.k (k:=Sum.inr p.name) (by rw [aH (Ne.symm nuD)];exact eD3) (by rw [lM];omega),?_⟩
  rw [jO _ vR]
  refine⟨⟨_,rfl⟩,by rw [eU (by simp)];exact c3.trans (CP nu),RL ++ [(p,u)],by rw [List.map_append,eRL,List.take_succ,hpj];rfl,by rw [ao,List.map_append];rfl,fun q hq=>?_⟩
  rw [eU (by simp)]
  rcases List.mem_append.mp hq with h | h
  ·exact⟨CP nu _ _ (hRL q h).1,(hRL q h).2⟩
  ·rw [List.mem_singleton] at h
   subst h
   exact⟨bH ao (by simpa using nuD),s3.free nu⟩
 rintro σ H3 ⟨⟨w2,rfl⟩,c3,RL,eRL,eD3,hRL⟩
 rw [lM,List.take_length] at eRL
 have nR:(RL.map fun q=>q.1.name).Nodup:=by
  have:(RL.map (·.1)).map (·.name)=RL.map fun q=>q.1.name:=by rw [List.map_map];rfl
  rw [<-this,eRL]
  exact yM F.pnd
 refine⟨_,rfl,k H3 D (u9 (·.name) RL) ((sC2.trans c3).trans bu) ⟨?_,fun p hp h0=>?_⟩ nD fun p hp h0=>?_⟩
 ·have:qI (u9 (·.name) RL) ps=RL.map fun q=>((Sum.inr q.1.name:Key),V.ref q.2):=by
   unfold qI
   rw [<-eRL,List.map_map]
   refine List.map_congr_left fun q hq=>?_
   show((Sum.inr q.1.name:Key),V.ref (u9 (·.name) RL q.1.name))=_
   rw [show u9 (·.name) RL q.1.name=q.2 from m8 nR hq]
  rw [this]
  exact eD3
 ·have hm:p∈RL.map (·.1):=by rw [eRL];exact List.mem_filter.mpr ⟨hp,by simp [h0]⟩
  obtain⟨q,hq,rfl⟩:=List.mem_map.mp hm
  rw [show u9 (·.name) RL q.1.name=q.2 from m8 nR hq]
  exact bu _ _ (hRL q hq).1
 ·have hm:p∈RL.map (·.1):=by rw [eRL];exact List.mem_filter.mpr ⟨hp,by simp [h0]⟩
  obtain⟨q,hq,rfl⟩:=List.mem_map.mp hm
  rw [show u9 (·.name) RL q.1.name=q.2 from m8 nR hq]
  exact(hRL q hq).2
theorem Dc (T:Txt w K mg t) (i:Nat):MethAt P w K mg base Ao 4 (cls t i) "with_memory" (jw K t i):=match i with
 | 0=>⟨_,_,_,T.iT.c,(T.aY.me T.iT.me.2.2.2.2.2.2.1),T.aY.b,(bZ T).imp fun _ _ _ _ h=>⟨_,by omega,h⟩⟩
 | 1=>⟨_,_,_,T.jc.c,(T.aY.me T.jc.me.2.2.2.2.2.2.1),T.aY.b,(bZ T).imp fun _ _ _ _ h=>⟨_,by omega,h⟩⟩
 | 2=>⟨_,_,_,T.iH.c,(T.aY.me T.iH.me.2.2.2.2.2.2.1),T.aY.b,(bZ T).imp fun _ _ _ _ h=>⟨_,by omega,h⟩⟩
 | 3=>⟨_,_,_,T.je.c,(T.aY.me T.je.me.2.2.2.2.2.2.1),T.aY.b,(bZ T).imp fun _ _ _ _ h=>⟨_,by omega,h⟩⟩
 | 4=>⟨_,_,_,T.iQ.c,(T.aY.me T.iQ.me.2.2.2.2.2.2.1),T.aY.b,(bZ T).imp fun _ _ _ _ h=>⟨_,by omega,h⟩⟩
 | 5=>⟨_,_,_,T.gH.c,(T.iV.me T.gH.me.2.2.2.2.2.2.1),T.iV.b,(wU T).mono (by decide)⟩
 | 6=>⟨_,_,_,T.lC.c,(T.aY.me T.lC.me.2.2.2.2.2.2.1),T.aY.b,(bZ T).imp fun _ _ _ _ h=>⟨_,by omega,h⟩⟩
 | 7=>⟨_,_,_,T.iR.c,(T.aY.me T.iR.me.2.2.2.2.2.2.1),T.aY.b,(bZ T).imp fun _ _ _ _ h=>⟨_,by omega,h⟩⟩
 | 8=>⟨_,_,_,T.fM.c,(T.aY.me T.fM.me.2.2.2.2.2.2.1),T.aY.b,(bZ T).imp fun _ _ _ _ h=>⟨_,by omega,h⟩⟩
 | 9=>⟨_,_,_,T.d9.c,(T.aY.me T.d9.me.2.2.2.2.2.2.1),T.aY.b,(bZ T).imp fun _ _ _ _ h=>⟨_,by omega,h⟩⟩
 | n+10=>⟨_,_,_,T.fP.c,(T.aY.me T.fP.me.2.2.2.2.2.2.1),T.aY.b,(bZ T).imp fun _ _ _ _ h=>⟨_,by omega,h⟩⟩
noncomputable def dG (k:Str->Int) (p:PD):PD:=if p.kind=5 then { p with nums:=[k p.name] } else p
theorem gP (k:Str->Int) (p:PD):(dG k p).kind=p.kind/\(dG k p).name=p.name/\(dG k p).ins=p.ins/\(dG k p).outs=p.outs:=by
 unfold dG
 split <;> exact⟨rfl,rfl,rfl,rfl⟩
inductive uB (K:PySem.W.Frag) (t:jL) (vs:List V) (H:Hp) (Q:VK) (E:XK):Prop where
 | mk:∀(r:Addr) (n:Nat) (A:mG) (ls:List aG) (ps:List PD) (S:FS) (p:PD),vs=[.ref r,.str p.name]->mj t H r A.n A.f n->fO K t H A.n ls ps->dO K t H A ls ps S->p∈ps->(∀H' u,aJ H H'->FP K H' (.ref u) (dG S.k p)->Q (.ref u) H')->uB K t vs H Q E
theorem Ck (T:Txt w K mg t):FO P w K mg base 5 t.qi ["self", "name"] (uB K t):=by
 have sc:=T.pY.sc ["self", "name"]
 refine T.pY.F.ok sc ln (fun _ _ _ _ H vs Q E hr h=>?_)
 obtain⟨r,n,A,ls,ps,S,p,rfl,hR,N,W,hp,k⟩:=h
 refine⟨_,(aA (aN (fj (GJ T) T.zc hr (aa (vI (CX:=Ao) (k:=4) (E:=E0) (tD (aQ (pv 0) rfl) T.aU T.aU.me.2.2.2.2.2.2.2.2.2.1 (jz T) T.gM hr (aa (pv 1) ak aj)) (hr.mono (by decide)) fQ (aa (cG hr.u1 (aQ (aQ (pv 0) rfl) rfl) (pv 1) (fun _ _=>rfl)) ak aF)) ak aO)))),?_⟩
 obtain⟨dxn,fsn,R,F0,Pd,Gn,Tk,FL,PL,Wn⟩:=id N
 have F:=Wn.fit
 have ok:=F.pok p hp
 obtain⟨dxr,fsr,R0⟩:=id hR
 refine⟨_,rfl,r,_,dxr,fsr,_,rfl,R0.1.1,T.bB.c,T.bB.na.1,R0.2.has ("net",.ref A.n) (by simp),A.n,dxn,fsn,rfl,Wn.obj,Wn.fl.no _ (by decide +kernel),_,rfl,A.n,ls,ps,p.name,rfl,N,.inl ⟨p,hp,rfl,fun H1 q s1 P1=>?_⟩⟩
 obtain⟨dxr,fsr,R1⟩:=hR.same s1
 have W1:=W.same s1
 obtain⟨dx,fs,h1,h2⟩:=id W1.at'.ex
 obtain⟨dxp,tn,ti,to,p1,p2,p3,p4⟩:=id P1.ex
 refine⟨q,cls t p.kind,dxp,_,jw K t p.kind,rfl,p1,mK _ _ _ _ (by decide +kernel) (by decide +kernel) (by decide +kernel) (by decide +kernel),Dc T p.kind,_,rfl,r,_,dxr,fsr,_,rfl,R1.1.1,T.bB.c,T.bB.na.2.1,R1.2.has ("flow",.ref A.f) (by simp),A.f,_,dx,fs,_,rfl,h1,T.aR.c,T.aR.na.2.2.2.1,h2.has ("kept",.ref A.Kp) (by simp),_,rfl,A.Kp,_,rfl,(by rw [<-pN (k:=S.k) F.pnd hp];exact eE.k (k:=Sum.inr p.name) W1.kept),?_⟩
 refine⟨q,_,_,_,_,_,rfl,by have:=ok.1;omega,P1,fun H2 u s2 nu P2=>?_⟩
 have e:Jy p.kind (.int (S.k p.name)) (p.nums.map V.int)=(dG S.k p).nums.map V.int:=by
  unfold Jy dG
  split <;> rfl
 have ek:=gP S.k p
 rw [e] at P2
 have P2:fL K t H2 u (dG S.k p).kind (.str (dG S.k p).name) ((dG S.k p).nums.map V.int) ((dG S.k p).ins.map V.str) ((dG S.k p).outs.map V.str):=by
  rw [ek.1,ek.2.1,ek.2.2.1,ek.2.2.2]
  exact P2
 refine⟨u,dG S.k p,rfl,P2,fun x a1 a2 a3 nx t1 t2 t3=>?_⟩
 have sx:=aB (o:=.tup [.str (cT (dG S.k p).kind),.str (dG S.k p).name,.ref a1,.ref a2,.ref a3]) nx
 exact k _ x (s1.trans (s2.trans sx)) ⟨x,a1,a2,a3,rfl,ao,sx.seqT t1,sx.seqT t2,sx.seqT t3⟩
noncomputable def rC (S:FS) (l:aG):aG:=⟨l.name,l.room,(S.ev l.name).drop (S.g l.name)⟩
theorem yu.same {H H':Hp} {v:V} {l:aG} (h:yu K H v l) (s:aJ H H'):yu K H' v l:=by
 obtain⟨q,f,e,h1,h2⟩:=h
 exact⟨q,f,e,s _ _ h1,s.seqA h2⟩
inductive vL (K:PySem.W.Frag) (t:jL) (vs:List V) (H:Hp) (Q:VK) (E:XK):Prop where
 | mk:∀(r:Addr) (n:Nat) (A:mG) (ls:List aG) (ps:List PD) (S:FS),vs=[.ref r]->mj t H r A.n A.f n->fO K t H A.n ls ps->dO K t H A ls ps S->qF (ls.map (rC S)) (ps.map (dG S.k))->(∀H' n',aJ H H'->H n'=none->M8 K t H H' n' (ls.map (rC S)) (ps.map (dG S.k))->Q (.ref n') H')->vL K t vs H Q E
theorem Fg (T:Txt w K mg t):FO P w K mg base 8 t.rE ["self"] (vL K t):=by
 have sc:=T.rM.sc ["self", "names", "lanes"]
 refine T.rM.F.ok sc ln (fun _ _ _ _ H vs Q E hr h=>?_)
 obtain⟨r,n,A,ls,ps,S,rfl,hR,N,W,hF,k⟩:=h
 refine⟨_,(az (sN sc 1 (J5 (aQ (pv 0) rfl) T.aU T.aU.me.2.1 (lE T) T.iD hr))
  (az (jg (i:=2) [0] ["self", "names", "lanes"] (bc (inClass (top 62) 11)) rfl sc.nd rfl (b8 (pv 1)) (fun _ _ _ _ _=>f9) (fun _ _ _ _ _=>(cB (aa (pv 0) (aa (tD (uv (K:=K) rfl (pv 1) rfl) T.aU T.aU.me.2.2.2.2.2.2.2.1 (uY T) T.mU hr (aa (pv 0) ak aj)) (aa (tD (pv 1) T.bB T.bB.me.2.2.2.2.2.2.1 (jn T) T.fX hr (aa (pv 0) ak aj)) ak aO) aO) aj))))
  (aA (aN (gj (T.aU.M T.iC) (uz T) (hr.mono (by decide)) (by rfl) T.aU.m T.iC.b .nil fQ (aa (pv 2) (aa (gZ [0] ["self", "names", "lanes"] (bc (inClass (top 62) 11)) rfl (b8 (J5 (aQ (pv 0) rfl) T.aU T.aU.me.2.2.1 (jr T) T.fV hr)) (fun _ _ _ _ _=>f9) (fun _ _ _ _ _=>(tD (pv 1) T.bB T.bB.me.2.2.2.2.2.2.2.2.2.2.1 (Ck T) T.pY hr (aa (pv 0) ak aj)))) ak dX) aj)))))),?_⟩
 have hz:sizeLine=16777216:=sizeLine_eq
 obtain⟨dxn,fsn,R,F0,Pd,Gn,Tk,FL,PL,Wn⟩:=id N
 have F:=Wn.fit
 have l24:=F.l24
 have p16:=F.p16
 obtain⟨dxr,fsr,R0⟩:=id hR
 refine⟨_,rfl,r,_,dxr,fsr,_,rfl,R0.1.1,T.bB.c,T.bB.na.1,R0.2.has ("net",.ref A.n) (by simp),A.n,dxn,fsn,rfl,Wn.obj,Wn.fl.no _ (by decide +kernel),A.n,ls,ps,rfl,N,fun Ln nLn=>?_⟩
 have t1:=aB (o:=.lst (ls.map fun x:aG=>V.str x.name)) nLn
 have eLn:upd H Ln (.lst (ls.map fun x:aG=>V.str x.name)) Ln=some (.lst (ls.map fun x:aG=>V.str x.name)):=ao
 generalize upd H Ln (.lst (ls.map fun x:aG=>V.str x.name))=H1 at t1 eLn ⊢
 refine⟨_,rfl,Ln,rfl,⟨_,bK.of eLn⟩,?_⟩
 refine fW (K:=K) (a:=Ln) (xs:=ls.map fun x:aG=>V.str x.name) (fun j zs H'=>aJ H1 H'/\zs.length<=j/\iy (yu K H') zs ((ls.take j).map (rC S))) (by rw [lM];omega) ⟨aJ.refl _,Nat.le_refl _,.nil⟩ (fun j zs H' h=>h.2.1) (fun j zs H' _ h=>h.1.seq (bK.of eLn)) ?_ ?_
 ·rintro j x zs H' hx ⟨s,hl',hA⟩
  rw [List.getElem?_map] at hx
  obtain⟨l,hlj,rfl⟩:=Option.map_eq_some_iff.mp hx
  have hm:=List.mem_of_getElem? hlj
  have s2:=t1.trans s
  obtain⟨dxn,fsn,R,F0,Pd,Gn,Tk,FL,PL,Wn2⟩:=N.same s2
  obtain⟨dxr,fsr,R2⟩:=hR.same s2
  refine yes ⟨_,rfl,_,rfl,r,_,dxr,fsr,_,rfl,R2.1.1,T.bB.c,T.bB.na.1,R2.2.has ("net",.ref A.n) (by simp),A.n,dxn,fsn,rfl,Wn2.obj,Wn2.fl.no _ (by decide +kernel),_,rfl,A.n,ls,ps,l.name,rfl,Wn2.s,.inl ⟨l,hm,rfl,fun H3 s3=>?_⟩⟩
  have s03:=s2.trans s3
  obtain⟨dxr3,fsr3,R3⟩:=hR.same s03
  refine⟨_,rfl,r,dxr3,fsr3,rfl,R3.1.1,R3.2.no _ (by decide +kernel),_,rfl,r,n,A,ls,ps,S,l,rfl,hR.same s03,N.same s03,W.same s03,hm,fun H4 p s4 np ep=>⟨jt,fun u nu=>?_⟩⟩
  have su:=aB (o:=.tup [.str l.name,.int l.room,.ref p]) nu
  have sz:=s3.trans (s4.trans su)
  refine⟨s.trans sz,by rw [lP,List.length_singleton];omega,?_⟩
  rw [List.take_succ,hlj,Option.toList_some,List.map_append,List.map_singleton]
  exact(hA.imp fun _ _ h=>yu.same h sz).app (.cons ⟨u,p,rfl,ao,.inl (bK.of (su _ _ ep))⟩ .nil)
 rintro zs H2 ⟨s2,hl',hA⟩ L nL
 rw [lM,List.take_length] at hA
 have t3:=aB (o:=.lst zs) nL
 have eL:upd H2 L (.lst zs) L=some (.lst zs):=ao
 have hA3:=hA.imp fun _ _ h=>yu.same h t3
 have s3:=t1.trans (s2.trans t3)
 generalize upd H2 L (.lst zs)=H3 at t3 eL hA3 s3 ⊢
 obtain⟨dxn3,fsn3,R3,F3,Pd3,Gn3,Tk3,FL3,PL3,Wn3⟩:=N.same s3
 obtain⟨dxr,fsr,R3⟩:=hR.same s3
 refine⟨_,rfl,_,rfl,r,_,dxr,fsr,_,rfl,R3.1.1,T.bB.c,T.bB.na.1,R3.2.has ("net",.ref A.n) (by simp),A.n,dxn3,fsn3,rfl,Wn3.obj,Wn3.fl.no _ (by decide +kernel),A.n,ls,ps,rfl,Wn3.s,fun Pn nPn=>?_⟩
 have t4:=aB (o:=.lst (ps.map fun x:PD=>V.str x.name)) nPn
 have ePn:upd H3 Pn (.lst (ps.map fun x:PD=>V.str x.name)) Pn=some (.lst (ps.map fun x:PD=>V.str x.name)):=ao
 generalize upd H3 Pn (.lst (ps.map fun x:PD=>V.str x.name))=H4 at t4 ePn ⊢
 refine⟨Pn,rfl,⟨_,bK.of ePn⟩,?_⟩
 refine fW (K:=K) (a:=Pn) (xs:=ps.map fun x:PD=>V.str x.name) (fun j ws H'=>aJ H4 H'/\ws.length<=j/\iy (FP K H') ws ((ps.take j).map (dG S.k))) (by rw [lM];omega) ⟨aJ.refl _,Nat.le_refl _,.nil⟩ (fun j zs H' h=>h.2.1) (fun j zs H' _ h=>h.1.seq (bK.of ePn)) ?_ ?_
 ·rintro j x ws H' hx ⟨s,hw,hB⟩
  rw [List.getElem?_map] at hx
  obtain⟨p,hpj,rfl⟩:=Option.map_eq_some_iff.mp hx
  have s5:=s3.trans (t4.trans s)
  obtain⟨dxr5,fsr5,R5⟩:=hR.same s5
  refine yes ⟨_,rfl,r,dxr5,fsr5,rfl,R5.1.1,R5.2.no _ (by decide +kernel),_,rfl,r,n,A,ls,ps,S,p,rfl,hR.same s5,N.same s5,W.same s5,List.mem_of_getElem? hpj,fun H6 u s6 hu=>?_⟩
  refine⟨s.trans s6,by rw [lP,List.length_singleton];omega,?_⟩
  rw [List.take_succ,hpj,Option.toList_some,List.map_append,List.map_singleton]
  exact(hB.imp fun _ _ h=>h.same s6).app (.cons hu .nil)
 rintro ws H5 ⟨s5,hw,hB⟩ P' nP
 rw [lM,List.take_length] at hB
 have t6:=aB (o:=.lst ws) nP
 have eP:upd H5 P' (.lst ws) P'=some (.lst ws):=ao
 have hB6:=hB.imp fun _ _ h=>FP.same h t6
 have s46:=t4.trans (s5.trans t6)
 generalize upd H5 P' (.lst ws)=H6 at t6 eP hB6 s46 ⊢
 have s06:=s3.trans s46
 refine fun n' dxn' nn ndn nen=>?_
 have g4:aJ H6 (upd (upd H6 dxn' (.own n')) n' (.ins t.dR dxn' [])):=fun b o e=>by rw [aH (aD e nn),aH (aD e ndn)];exact e
 have hH:Hand K (upd (upd H6 dxn' (.own n')) n' (.ins t.dR dxn' [])) L P' (ls.map (rC S)) (ps.map (dG S.k)):=by
  refine⟨⟨_,bK.of (g4 _ _ (s46 _ _ eL)),hA3.imp fun _ _ h=>yu.same h (s46.trans g4)⟩,⟨_,bK.of (g4 _ _ eP),hB6.imp fun _ _ h=>?_⟩⟩
  obtain⟨q,a1,a2,a3,e,h1,h2,h3,h4⟩:=h
  exact⟨q,a1,a2,a3,e,g4 _ _ h1,.inr (g4.seqT h2),.inr (g4.seqT h3),.inr (g4.seqT h4)⟩
 refine⟨n',dxn',L,P',_,_,rfl,ao,hH,hF,fun H7 b7 N7=>⟨rfl,k H7 n' (s06.trans fun b o e=>b7 b o (aD e nn) (g4 b o e)) (s06.free nn) ?_⟩⟩
 obtain⟨dx,fs,R,F,Pd,G,Tk,FL,PL,W7,nw⟩:=N7
 exact⟨dx,fs,R,F,Pd,G,Tk,FL,PL,W7,fun a ha=>(s06.trans g4).free (nw a ha)⟩
noncomputable def Fd (RW:List (Str×Addr×List Int)) (x:Str) (a:Addr) (ws:List Int):List (Str×Addr×List Int):=if x∈RW.map (·.1) then RW.map (fun q=>if q.1=x then(x,a,ws) else q) else RW ++ [(x,a,ws)]
theorem WP (RW:List (Str×Addr×List Int)) (x:Str) (a:Addr) (ws:List Int):jR (Fd RW x a ws)=putK (jR RW) (Sum.inr x) (.ref a):=by
 unfold Fd putK
 by_cases h:x∈RW.map (·.1)
 ·rw [if_pos h,if_pos (by
   obtain⟨q,hq,rfl⟩:=List.mem_map.mp h
   exact List.any_eq_true.mpr ⟨_,List.mem_map.mpr ⟨q,hq,rfl⟩,by simp⟩)]
  unfold jR
  rw [List.map_map,List.map_map]
  refine List.map_congr_left fun q _=>?_
  by_cases e:q.1=x
  ·simp [e]
  ·simp [e]
 ·rw [if_neg h,if_neg (by
   intro z
   obtain⟨kv,hk,e⟩:=List.any_eq_true.mp z
   obtain⟨q,hq,rfl⟩:=List.mem_map.mp hk
   exact h (List.mem_map.mpr ⟨q,hq,by simpa using e⟩))]
  unfold jR
  rw [List.map_append]
  rfl
theorem QB {RW:List (Str×Addr×List Int)} {x:Str} {a:Addr} {ws:List Int} {q:Str×Addr×List Int} (h:q∈Fd RW x a ws):q∈RW∨q=(x,a,ws):=by
 unfold Fd at h
 split at h
 ·obtain⟨q',hq,e⟩:=List.mem_map.mp h
  split at e
  ·exact .inr e.symm
  ·exact .inl (by rw [<-e];exact hq)
 ·rcases List.mem_append.mp h with h | h
  ·exact .inl h
  ·exact .inr (List.mem_singleton.mp h)
theorem Up {RW:List (Str×Addr×List Int)} {x:Str} {a:Addr} {ws:List Int} (nd:(RW.map (·.1)).Nodup):((Fd RW x a ws).map (·.1)).Nodup:=by
 unfold Fd
 split
 ·have e:(RW.map (fun q=>if q.1=x then(x,a,ws) else q)).map (·.1)=RW.map (·.1):=by
   rw [List.map_map]
   refine List.map_congr_left fun q _=>?_
   by_cases h:q.1=x
   ·simp [h]
   ·simp [h]
  rw [e]
  exact nd
 ·rename_i h
  rw [List.map_append,List.nodup_append]
  exact⟨nd,by simp,fun b hb c hc z=>h (by simp at hc;rw [<-hc,<-z];exact hb)⟩
theorem KQ (RW:List (Str×Addr×List Int)) (x:Str) (a:Addr) (ws:List Int):(Fd RW x a ws).length<=RW.length+1:=by
 unfold Fd
 split
 ·rw [lM];omega
 ·simp
structure wX (B H:Hp) (d:Addr) (m:Nat) (G:List V) (RW:List (Str×Addr×List Int)):Prop where
 at':nZ H d RW
 bnd:∀q∈RW,∀v∈q.2.2,0<=v/\v <1000000000
 door:∀q∈RW,V.str q.1∈G
 new:∀q∈RW,B q.2.1=none/\q.2.1≠d
 len:∀q∈RW,q.2.2.length<=m
theorem wX.same {B H H':Hp} {d:Addr} {m:Nat} {G:List V} {RW:List (Str×Addr×List Int)} (h:wX B H d m G RW) (s:aJ H H'):wX B H' d m G RW:=⟨h.at'.same s,h.bnd,h.door,h.new,h.len⟩
theorem wX.put {B H:Hp} {d:Addr} {m:Nat} {G:List V} {RW:List (Str×Addr×List Int)} (h:wX B H d m G RW) {x:Str} {a:Addr} {ws:List Int} (ea:H a=some (.lst (ws.map V.int))) (na:B a=none) (nd:a≠d) (hx:V.str x∈G) (hb:∀v∈ws,0<=v/\v <1000000000) (hl:ws.length<=m) (hm:m<=299):
  wX B (upd H d (.dK (putK (jR RW) (Sum.inr x) (.ref a)))) d m G (Fd RW x a ws):=by
 refine⟨⟨by rw [WP];exact ao,fun q hq=>?_,Up h.at'.nd,fun q hq=>?_⟩,fun q hq=>?_,fun q hq=>?_,fun q hq=>?_,fun q hq=>?_⟩ <;> rcases QB hq with hq | rfl
 ·rw [aH (h.new q hq).2];exact h.at'.lists q hq
 ·rw [aH nd];exact ea
 ·exact h.at'.len q hq
 ·show ws.length<=300;omega
 ·exact h.bnd q hq
 ·exact hb
 ·exact h.door q hq
 ·exact hx
 ·exact h.new q hq
 ·exact⟨na,nd⟩
 ·exact h.len q hq
 ·exact hl
inductive xG (K:PySem.W.Frag) (vs:List V) (H:Hp) (Q:VK) (E:XK):Prop where
 | mk:∀(a P:Addr) (ns:List Int) (xs:List V) (ps:List PD) (m:Nat),vs=[.ref a,.ref P,.int (m:Nat)]->bK K H a (ns.map V.int)->H P=some (.lst xs)->iy (sW H) xs ps->ps.length<=16->m<=299->(∀H' d RW,aJ H H'->H d=none->wX H H' d m (dH ps "give") RW->RW.length<=32->Q (.ref d) H')->xG K vs H Q E
noncomputable abbrev o9:List Str:=["_law_script", "_law_parts", "_law_many", "_law_rows", "_law_k", "_law_one", "_law_cell_here"]
theorem Gj (T:Txt w K mg t):FO P w K mg base 3 t.zG ["_law_script", "_law_parts", "_law_many"] (xG K):=by
 have sc:=T.tK.sc o9
 refine T.tK.F.ok sc ln (fun _ _ _ _ H vs Q E hr h=>?_)
 obtain⟨a,P,ns,xs,ps,m,rfl,hS,eP,aP,p16,hm,k⟩:=h
 refine⟨_,(az (sN sc 3 il)
  (az (d7 PassesOwn.never rfl (IV rfl T.vQ (aa (gZ [] o9 (bc (top 76)) rfl (b8 (pv 1)) (fun _ _ _ _ _=>(vV (bF iw (bf (gw (K:=K) rfl) (pv 0) au (fun _ _=>rfl)) bW (bR _)))) (fun _ _ _ _ _=>(bf (gw (K:=K) rfl) (pv 0) au (fun _ _=>rfl)))) ak dX)) (tE rfl (bU (gN sc 4) (bU (gN sc 5) jH)))
   (az (sN sc 6 (fj (iU T) T.gA hr (aa (pv 0) (aa (pv 4) ak aj) aj)))
   (az (iY (cC (bF Ka (bA cH (fj (bz T) T.bC hr (aa (pv 6) (aa au ak aq) aj)) au) au (bR _))
    (aA (gU hr.u1 (pv 3) (pv 5) (gZ [6] o9 (bc (top 76)) rfl (j9 rfl T.pG (aa (bA cH (fj (bz T) T.bC hr (aa (pv 6) (aa au ak aq) aj)) (bA eQ (pv 2) au)) ak cg)) (fun _ _ _ _ _=>f9) (fun _ _ _ _ _=>(fj (jT T) T.iI hr (aa (pv 1) (aa (bA eQ au (pv 0)) ak cg) aj)))) rfl))
    bL))
   (aA (iY (cC (bF iw (bA cH (fj (iU T) T.gA hr (aa (pv 0) (aa au ak aq) aj)) au) au (bR _))
    (aA (gU hr.u1 (pv 3) (pv 5) (gZ [6] o9 (bc (top 76)) rfl (j9 rfl T.pG (aa (bA cH (pv 6) (bA eQ (pv 2) au)) ak cg)) (fun _ _ _ _ _=>f9) (fun _ _ _ _ _=>(bA cH (bA QD (pv 1) (bA eQ au (bA mV au (pv 0)))) (bA Jf au au)))) rfl))
    bL))))))
  (aA (aN (pv 3))))),?_⟩
 have hz:sizeLine=16777216:=sizeLine_eq
 refine fun d nd=>?_
 have s1:=aB (o:=.dK []) nd
 have ed:upd H d (.dK []) d=some (.dK []):=ao
 have xl:=aP.length
 generalize upd H d (.dK [])=H1 at s1 ed ⊢
 have eP1:=s1 _ _ eP
 refine⟨_,rfl,P,rfl,⟨_,bK.of eP1⟩,fW (K:=K) (a:=P) (xs:=xs) (fun j ys H'=>H'=H1/\ys=dH (ps.take j) "give") (by omega) ⟨rfl,rfl⟩ (fun j ys H' ⟨_,e⟩=>by rw [e];exact Nat.le_trans (sV _ _) (by rw [List.length_take];omega)) (fun j ys H' _ ⟨e,_⟩=>by rw [e];exact bK.of eP1) ?_ ?_⟩
 ·rintro j x ys H' hx ⟨rfl,rfl⟩
  obtain⟨p,hp,q,a1,a2,a3,rfl,hq,_⟩:=aP.get hx
  refine⟨_,rfl,q,_,0,_,rfl,rfl,fC.of (s1 _ _ hq),aM (j:=0) rfl,rfl,_,rfl,?_⟩
  rw [List.take_succ,hp,Option.toList_some,Hh]
  by_cases h:cT p.kind= "give"
  ·rw [if_pos h,h]
   exact kJ ⟨_,rfl,q,_,1,_,rfl,rfl,fC.of (s1 _ _ hq),aM (j:=1) rfl,rfl,rfl⟩
  ·rw [if_neg h]
   exact eO (fun z=>h (by injection z)) ⟨rfl,rfl⟩
 rintro ys H' ⟨rfl,rfl⟩ D nD
 rw [xl,List.take_length]
 have gl:=sV ps "give"
 have hG:∀v∈dH ps "give",∃x,v=V.str x:=fun v hv=>by
  obtain⟨p,_,rfl⟩:=List.mem_map.mp hv
  exact⟨_,rfl⟩
 have nDd:D≠d:=fun z=>by rw [z,ed] at nD;cases nD
 have s2:=aB (o:=.lst (dH ps "give")) nD
 have eD:upd H' D (.lst (dH ps "give")) D=some (.lst (dH ps "give")):=ao
 generalize upd H' D (.lst (dH ps "give"))=H2 at s2 eD ⊢
 generalize dH ps "give" =G at gl hG eD k ⊢
 have sB:aJ H (aX [d] H2):=fun b o e=>bH (s2 _ _ (s1 _ _ e)) (by simpa using aD e nd)
 have eDB:aX [d] H2 D=some (.lst G):=bH eD (by simpa using nDd)
 have upB:∀{H':Hp} {o:HO},aJ (aX [d] H2) H'->aJ (aX [d] H2) (upd H' d o):=fun s b o e=>by
  rw [aH (fun z=>by rw [z] at e;simp [aX] at e)]
  exact s b o e
 refine⟨D,rfl,⟨_,bK.of eD⟩,Rz (K:=K) (a:=D) (xs:=G) (fun j σ H'=>(∃v4 v5 v6,σ=[some (.ref a),some (.ref P),some (.int m),some (.ref d),v4,v5,v6])/\aJ (aX [d] H2) H'/\∃RW,wX H H' d m G RW/\RW.length<=2 * j) ⟨⟨none,none,none,rfl⟩,bu,[],⟨⟨s2 _ _ ed,by simp,by simp,by simp⟩,by simp,by simp,by simp,by simp⟩,Nat.le_refl _⟩ (fun j σ H' _ h=>bK.of (h.2.1 _ _ eDB)) ?_ ?_⟩
 ·rintro j x σ H3 hx ⟨⟨v4,v5,v6,rfl⟩,s3,RW,hR,lR⟩ u nu
  have hxG:=List.mem_of_getElem? hx
  have hj:=(List.getElem?_eq_some_iff.mp hx).1
  obtain⟨y,rfl⟩:=hG x hxG
  have t4:=aB (o:=.tup [.int (j:Nat),.str y]) nu
  have eu:upd H3 u (.tup [.int (j:Nat),.str y]) u=some (.tup [.int (j:Nat),.str y]):=ao
  generalize upd H3 u (.tup [.int (j:Nat),.str y])=H4 at t4 eu ⊢
  have s4:=s3.trans t4
  have hR4:=hR.same t4
  have hS4:=(sB.trans s4).seq hS
  refine⟨u,_,rfl,fC.of eu,rfl,_,_,rfl,_,_,rfl,rfl,?_⟩
  refine⟨_,rfl,_,rfl,a,ns,j,rfl,hS4,?_⟩
  generalize jU ns j=c
  refine⟨fun σ5 H5=>σ5=[some (.ref a),some (.ref P),some (.int m),some (.ref d),some (.int (j:Nat)),some (.str y),some (.int c)]/\aJ (aX [d] H2) H5/\∃RW,wX H H5 d m G RW/\RW.length<=2 * j+1,?_,?_⟩
  ·refine⟨_,rfl,_,_,rfl,_,_,rfl,rfl,by show(0:Int) <5;decide,_,_,rfl,rfl,_,rfl,kO (fun _=>?_) (fun _=>⟨rfl,s4,RW,hR4,by omega⟩)⟩
   have h0:=Int.emod_nonneg (cJ c 99) (show((m:Int)+1)≠0 by omega)
   have h1:=Int.emod_lt_of_pos (cJ c 99) (show(0:Int) <(m:Int)+1 by omega)
   refine⟨_,rfl,_,_,rfl,_,rfl,_,_,rfl,rfl,_,_,rfl,rfl,by show(0:Int) <(m:Int)+1;omega,_,rfl,by omega,by omega,?_⟩
   refine lN (fun i ys H'=>H'=H4/\∃ws:List Int,ys=ws.map V.int/\ws.length=i/\∀v∈ws,0<=v/\v <1000000000) (by omega) ⟨rfl,[],rfl,rfl,by simp⟩ (fun i ys H' ⟨_,ws,e,e2,_⟩=>by rw [e,lM];omega) ?_ ?_
   ·rintro i ys H' hi ⟨rfl,ws,rfl,hw,hB⟩
    refine yes ⟨_,rfl,_,rfl,_,_,rfl,rfl,c,100+(0+(i:Int)),rfl,rfl,ws ++ [rP c (100+(0+(i:Int)))],by simp,by simp [hw],fun v hv=>?_⟩
    rcases List.mem_append.mp hv with hv | hv
    ·exact hB v hv
    ·rw [List.mem_singleton] at hv
     subst hv
     exact sX _ _
   rintro ys H' ⟨rfl,ws,rfl,hw,hB⟩ r nr
   have t5:=aB (o:=.lst (ws.map V.int)) nr
   refine⟨_,rfl,_,rfl,d,_,rfl,qD.k (k:=Sum.inr y) ((hR4.same t5).at'.dict) (by unfold jR;rw [lM];omega),rfl,upB (s4.trans t5),Fd RW y r ws,(hR4.same t5).put ao ((sB.trans s4).free nr) (fun z=>by rw [z,hR4.at'.dict] at nr;cases nr) hxG hB (by omega) hm,?_⟩
   have:=KQ RW y r ws
   omega
  rintro σ5 H5 ⟨rfl,s5,RW5,hR5,l5⟩
  have hS5:=(sB.trans s5).seq hS
  refine⟨fun σ6 H6=>(∃v4 v5 v6,σ6=[some (.ref a),some (.ref P),some (.int m),some (.ref d),v4,v5,v6])/\aJ (aX [d] H2) H6/\∃RW,wX H H6 d m G RW/\RW.length<=2 * (j+1),?_,fun _ _ h=>h⟩
  refine⟨_,rfl,a,ns,2,rfl,hS5,_,_,rfl,rfl,by show(0:Int) <2;decide,rfl,_,rfl,kO (fun _=>?_) (fun _=>⟨⟨_,_,_,rfl⟩,s5,RW5,hR5,by omega⟩)⟩
  have h0:=Int.emod_nonneg c (show((m:Int)+1)≠0 by omega)
  have h1:=Int.emod_lt_of_pos c (show(0:Int) <(m:Int)+1 by omega)
  refine⟨_,rfl,_,rfl,_,_,rfl,rfl,_,_,rfl,rfl,by show(0:Int) <(m:Int)+1;omega,_,rfl,by omega,by omega,?_⟩
  refine lN (fun i ys H'=>H'=H5/\∃ws:List Int,ys=ws.map V.int/\ws.length=i/\∀v∈ws,0<=v/\v <1000000000) (by omega) ⟨rfl,[],rfl,rfl,by simp⟩ (fun i ys H' ⟨_,ws,e,e2,_⟩=>by rw [e,lM];omega) ?_ ?_
  ·rintro i ys H' hi ⟨rfl,ws,rfl,hw,hB⟩
   refine yes ⟨_,rfl,_,rfl,_,_,rfl,rfl,j8,_,_,rfl,rfl,_,_,rfl,rfl,by show(0:Int)<=8+30 * (0+(i:Int));omega,_,_,rfl,rfl,⟨by decide,by decide,by decide⟩,_,_,rfl,rfl,by show(0:Int) <10 ^ 9;decide,rfl,ws ++ [c / 2 ^ (8+30 * (0+(i:Int))).toNat % 10 ^ (9:Int).toNat],by simp,by simp [hw],fun v hv=>?_⟩
   rcases List.mem_append.mp hv with hv | hv
   ·exact hB v hv
   ·rw [List.mem_singleton,e9] at hv
    subst hv
    exact CN _
  rintro ys H' ⟨rfl,ws,rfl,hw,hB⟩ r nr
  have t5:=aB (o:=.lst (ws.map V.int)) nr
  refine⟨_,rfl,_,rfl,d,_,rfl,qD.k (k:=Sum.inr y) ((hR5.same t5).at'.dict) (by unfold jR;rw [lM];omega),⟨_,_,_,rfl⟩,upB (s5.trans t5),Fd RW5 y r ws,(hR5.same t5).put ao ((sB.trans s5).free nr) (fun z=>by rw [z,hR5.at'.dict] at nr;cases nr) hxG hB (by omega) hm,?_⟩
  have:=KQ RW5 y r ws
  omega
 rintro σ H3 ⟨⟨v4,v5,v6,rfl⟩,s3,RW,hR,lR⟩
 exact⟨_,rfl,k H3 d RW (sB.trans s3) nd hR (by omega)⟩
inductive xj (K:PySem.W.Frag) (vs:List V) (H:Hp) (Q:VK) (E:XK):Prop where
 | mk:∀(T a b:Addr) (ls:List aG) (ps:List PD),vs=[.ref T]->Dj K H T a b ls ps->ls.length<=24->ps.length<=16->(∀H' T' a' b',aJ H H'->BP H' T' a' b' ls ps->Q (.ref T') H')->xj K vs H Q E
noncomputable abbrev uc:List Str:=["_law_told", "_law_lanes", "_law_parts"]
theorem xm (T:Txt w K mg t):FO P w K mg base 1 t.zX ["_law_told"] (xj K):=by
 have sc:=T.pC.sc uc
 refine T.pC.F.ok sc ln (fun _ _ _ _ H vs Q E hr h=>?_)
 obtain⟨T0,a,b,ls,ps,rfl,hT,l24,p16,k⟩:=h
 refine⟨_,(az (jg (i:=1) [] uc (bc (top 77)) rfl sc.nd rfl (b8 (bf dN (pv 0) au (fun _ _=>rfl))) (fun _ _ _ _ _=>f9) (fun _ _ _ _ _=>(cB (aa (bf (gw (K:=K) rfl) (pv 0) au (fun _ _=>rfl)) (aa (bf (gw (K:=K) rfl) (pv 0) au (fun _ _=>rfl)) (aa (cW (um (K:=K) rfl) (by rfl) T.j7 iK (aa (bf (gw (K:=K) rfl) (pv 0) au (fun _ _=>rfl)) ak aF)) ak aO) aF) aF))))
  (az (jg (i:=2) [] uc (bc (top 77)) rfl sc.nd rfl (b8 (bf dN (pv 0) au (fun _ _=>rfl))) (fun _ _ _ _ _=>f9) (fun _ _ _ _ _=>(cB (aa (bf (gw (K:=K) rfl) (pv 0) au (fun _ _=>rfl)) (aa (bf (gw (K:=K) rfl) (pv 0) au (fun _ _=>rfl)) (aa (cW (um (K:=K) rfl) (by rfl) T.j7 iK (aa (bf (gw (K:=K) rfl) (pv 0) au (fun _ _=>rfl)) ak aF)) (aa (cW (um (K:=K) rfl) (by rfl) T.j7 iK (aa (bf (gw (K:=K) rfl) (pv 0) au (fun _ _=>rfl)) ak aF)) (aa (cW (um (K:=K) rfl) (by rfl) T.j7 iK (aa (bf (gw (K:=K) rfl) (pv 0) au (fun _ _=>rfl)) ak aF)) ak aO) aO) aO) aF) aF))))
  (aA (aN (cB (aa (pv 1) (aa (pv 2) ak aj) aj)))))),?_⟩
 have hz:sizeLine=16777216:=sizeLine_eq
 obtain⟨e0,⟨xs,eL,aL⟩,⟨ys,eP,aP⟩⟩:=hT
 have xl:=aL.length
 have yl:=aP.length
 refine⟨_,rfl,T0,_,0,_,rfl,rfl,fC.of e0,aM (j:=0) rfl,a,rfl,⟨_,bK.of eL⟩,fW (K:=K) (a:=a) (xs:=xs) (fun j zs H'=>aJ H H'/\zs.length<=j/\iy (j6 H') zs (ls.take j)) (by omega) ⟨aJ.refl _,Nat.le_refl _,.nil⟩ (fun j zs H' h=>h.2.1) (fun j zs H' _ h=>h.1.seq (bK.of eL)) ?_ ?_⟩
 ·rintro j x zs H1 hx ⟨s1,hz',hA⟩
  obtain⟨l,hlj,q,f,rfl,hq,hf⟩:=aL.get hx
  have q1:=fC.of (K:=K) (s1 _ _ hq)
  refine yes ⟨_,rfl,q,_,0,_,rfl,rfl,q1,aM (j:=0) rfl,_,rfl,q,_,1,_,rfl,rfl,q1,aM (j:=1) rfl,_,rfl,q,_,2,_,rfl,rfl,q1,aM (j:=2) rfl,f,_,rfl,.inr (s1.seqT hf),fun u nu=>⟨jt,fun w nw=>?_⟩⟩
  have t2:=(aB (o:=.lst (l.first.map V.int)) nu).trans (aB (o:=.tup [.str l.name,.int l.room,.ref u]) nw)
  refine⟨s1.trans t2,by rw [lP];exact Nat.succ_le_succ hz',?_⟩
  rw [List.take_succ,hlj,Option.toList_some]
  exact(hA.imp fun _ _ h=>h.same t2).app (.cons ⟨w,u,rfl,ao,aB nw _ _ ao⟩ .nil)
 rintro zs H1 ⟨s1,hz',hA⟩ D1 nD1
 rw [xl,List.take_length] at hA
 have t2:=aB (o:=.lst zs) nD1
 have eD1:upd H1 D1 (.lst zs) D1=some (.lst zs):=ao
 have s2:=s1.trans t2
 have hA2:=hA.imp fun _ _ h=>j6.same h t2
 generalize upd H1 D1 (.lst zs)=H2 at t2 eD1 s2 hA2 ⊢
 refine⟨_,rfl,T0,_,1,_,rfl,rfl,fC.of (s2 _ _ e0),aM (j:=1) rfl,b,rfl,⟨_,bK.of (s2 _ _ eP)⟩,fW (K:=K) (a:=b) (xs:=ys) (fun j zs H'=>aJ H2 H'/\zs.length<=j/\iy (sW H') zs (ps.take j)) (by omega) ⟨aJ.refl _,Nat.le_refl _,.nil⟩ (fun j zs H' h=>h.2.1) (fun j zs H' _ h=>h.1.seq (bK.of (s2 _ _ eP))) ?_ ?_⟩
 ·rintro j x zs H3 hx ⟨s3,hz',hA⟩
  obtain⟨p,hpj,q,a1,a2,a3,rfl,hq,h1,h2,h3⟩:=aP.get hx
  have s23:=s2.trans s3
  have q3:∀{H':Hp},aJ H3 H'->fC K H' q [.str (cT p.kind),.str p.name,.ref a1,.ref a2,.ref a3]:=fun s=>fC.of (s _ _ (s23 _ _ hq))
  have rr:aJ H3 H3:=aJ.refl _
  refine yes ⟨_,rfl,q,_,0,_,rfl,rfl,q3 rr,aM (j:=0) rfl,_,rfl,q,_,1,_,rfl,rfl,q3 rr,aM (j:=1) rfl,_,rfl,q,_,2,_,rfl,rfl,q3 rr,aM (j:=2) rfl,a1,_,rfl,.inr (s23.seqT h1),fun u1 n1=>?_⟩
  have t4:=aB (o:=.lst (p.nums.map V.int)) n1
  refine⟨_,rfl,q,_,3,_,rfl,rfl,q3 t4,aM (j:=3) rfl,a2,_,rfl,.inr ((s23.trans t4).seqT h2),fun u2 n2=>?_⟩
  have t5:=aB (o:=.lst (p.ins.map V.str)) n2
  refine⟨_,rfl,q,_,4,_,rfl,rfl,q3 (t4.trans t5),aM (j:=4) rfl,a3,_,rfl,.inr ((s23.trans (t4.trans t5)).seqT h3),fun u3 n3=>⟨jt,fun w nw=>?_⟩⟩
  have t6:=aB (o:=.lst (p.outs.map V.str)) n3
  have t7:=aB (o:=.tup [.str (cT p.kind),.str p.name,.ref u1,.ref u2,.ref u3]) nw
  have tz:=t4.trans (t5.trans (t6.trans t7))
  refine⟨s3.trans tz,by rw [lP];exact Nat.succ_le_succ hz',?_⟩
  rw [List.take_succ,hpj,Option.toList_some]
  exact(hA.imp fun _ _ h=>h.same tz).app (.cons ⟨w,u1,u2,u3,rfl,ao,t7 _ _ (t6 _ _ (t5 _ _ ao)),t7 _ _ (t6 _ _ ao),t7 _ _ ao⟩ .nil)
 rintro ws H3 ⟨s3,hw,hB⟩ D2 nD2
 rw [yl,List.take_length] at hB
 have t4:=aB (o:=.lst ws) nD2
 refine⟨_,rfl,_,rfl,jt,fun T' nT=>?_⟩
 have t5:=aB (o:=.tup [.ref D1,.ref D2]) nT
 have s35:=s3.trans (t4.trans t5)
 exact k _ T' D1 D2 (s2.trans s35) ⟨ao,⟨zs,s35 _ _ eD1,hA2.imp fun _ _ h=>j6.same h s35⟩,⟨ws,t5 _ _ ao,hB.imp fun _ _ h=>sW.same h (t4.trans t5)⟩⟩
theorem Uq:∀i,i <11->decide (V.str (cT i)=V.str "heap")=decide (i=5):=by decide +kernel
noncomputable def ZZ (ps:List PD) (S:FS):Prop:=∀p∈ps,p.kind=5->∀x,p.ins=[x]->∀m,p.nums=[m]->S.k p.name=(m+((S.ev x).take (S.d p.name)).sum) % 1000000000
inductive Bv (K:PySem.W.Frag) (t:jL) (vs:List V) (H:Hp) (Q:VK) (E_:XK):Prop where
 | mk:∀(r:Addr) (n:Nat) (A:mG) (ls:List aG) (ps:List PD) (S:FS) (L P:Addr) (E:List Addr),vs=[.ref r,.ref L,.ref P]->mj t H r A.n A.f n->fO K t H A.n ls ps->dO K t H A ls ps S->BV H L P ls ps->ZZ ps S->((∀l∈ls,(∀v∈S.ev l.name,0<=v/\v <1000000000)))->((∀p∈ps,S.d p.name<=900))->((∀a∈E,∃o,H a=some o))->(∀H' T a b,aJ H H'->BP (aX E H') T a b (ls.map (rC S)) (ps.map (dG S.k))->Q (.ref T) H')->Bv K t vs H Q E_
noncomputable abbrev Dy:List Str:=["_law_run", "_law_lanes", "_law_parts", "_law_due_here", "_law_kind", "_law_name", "_law_numbers", "_law_ins", "_law_outs"]
theorem Lf (T:Txt w K mg t):FO P w K mg base 4 t.Ew ["_law_run", "_law_lanes", "_law_parts"] (Bv K t):=by
 have sc:=T.ye.sc Dy
 refine T.ye.F.ok sc ln (fun _ _ _ _ H vs Q E hr h=>?_)
 obtain⟨r,n,A,ls,ps,S,L,P,E,rfl,hR,N,W,A0,hK,hV,hD,hE,k⟩:=h
 refine⟨_,(az (sN sc 3 (cB (aa (yZ ["_law_name", "_law_room", "_law_first"] [0] Dy (bc (top 78)) rfl (b8 (pv 1)) (fun _ _ _ _ _=>yH (K:=K) (n:=3) rfl rfl (bU (jF (i:=0) (show(["_law_name", "_law_room", "_law_first", "_law_run"]:List Str).Nodup by decide +kernel) rfl (Or.inl rfl) (.inr rfl)) (bU (jF (i:=1) (show(["_law_name", "_law_room", "_law_first", "_law_run"]:List Str).Nodup by decide +kernel) rfl (Or.inl rfl) (.inr rfl)) (bU (jF (i:=2) (show(["_law_name", "_law_room", "_law_first", "_law_run"]:List Str).Nodup by decide +kernel) rfl (Or.inl rfl) (.inr rfl)) jH)))) (fun _ _ _ _ _=>f9) (fun _ _ _ _ _=>(cB (aa (pv 0) (aa (pv 1) (aa (tD (pv 3) T.bB T.bB.me.2.2.2.2.2.2.1 (jn T) T.fX hr (aa (pv 0) ak aj)) ak aO) aj) aj)))) (aa (bM ak) ak bj) dX)))
  (az (d7 PassesOwn.never rfl (b8 (pv 2)) (tE rfl (bU (gN sc 4) (bU (gN sc 5) (bU (gN sc 6) (bU (gN sc 7) (bU (gN sc 8) jH))))))
   (az (iY (cC (bF iw (pv 4) bW (bR _))
    (aA (sN sc 6 (bM (aa (bA cH (bA eQ (bf bw (pv 6) au (fun _ _=>rfl)) (bG (Qh rfl) (by rfl) T.XD Wd (aa (ji mQ (tD (pv 0) T.bB T.bB.me.2.2.2.2.2.2.2.2.1 (tM T) T.pP hr (aa (bf bw (pv 7) au (fun _ _=>rfl)) ak aF)) kZ (jK (tD (pv 0) T.bB T.bB.me.2.2.2.2.2.1 (zf T) T.qN hr (aa (pv 5) ak aj)))) ak aF))) (bA Jf au au)) ak cg))))
    bL))
   (aA (bN (IK (bf dN (pv 3) au (fun _ _=>rfl)) (aa (cB (aa (pv 4) (aa (pv 5) (aa (cW iJ (by rfl) T.j7 iK (aa (pv 6) ak aj)) (aa (cW iJ (by rfl) T.j7 iK (aa (pv 7) ak aj)) (aa (cW iJ (by rfl) T.j7 iK (aa (pv 8) ak aj)) ak aO) aO) aO) aj) aj)) ak cQ))))))
  (aA (aN (pv 3))))),?_⟩
 have hz:sizeLine=16777216:=sizeLine_eq
 have F:qF ls ps:=by obtain⟨_,_,_,_,_,_,_,_,_,Wn⟩:=N;exact Wn.fit
 have l24:=F.l24
 have p16:=F.p16
 have nE:∀{H':Hp} {a:Addr},aJ H H'->H' a=none->a∉E:=fun {H' a} s na z=>by
  obtain⟨o,e⟩:=hE a z
  rw [s _ _ e] at na
  cases na
 obtain⟨⟨xs,eL,aL⟩,⟨ys,eP,aP⟩⟩:=id A0
 have xl:=aL.length
 have yl:=aP.length
 refine⟨_,rfl,L,rfl,⟨_,bK.of eL⟩,xX (K:=K) (a:=L) (xs:=xs) (fun j zs H'=>aJ H H'/\zs.length<=j/\iy (j6 (aX E H')) zs ((ls.take j).map (rC S))) (by omega) ⟨aJ.refl _,Nat.le_refl _,.nil⟩ (fun j zs H' h=>h.2.1) (fun j zs H' _ h=>h.1.seq (bK.of eL)) ?_ ?_⟩
 ·rintro j x zs H1 hx ⟨s1,lz,aZ⟩
  obtain⟨l,hlj,q,f,rfl,hq,hf⟩:=aL.get hx
  have hl:=List.mem_of_getElem? hlj
  obtain⟨dxr,fsr,R1⟩:=id (hR.same s1)
  refine⟨q,_,rfl,fC.of (s1 _ _ hq),rfl,_,_,rfl,_,_,rfl,_,_,rfl,rfl,rfl,yes ?_⟩
  refine⟨_,rfl,_,rfl,_,rfl,r,dxr,fsr,rfl,R1.1.1,R1.2.no _ (by decide +kernel),_,rfl,r,n,A,ls,ps,S,l,rfl,hR.same s1,N.same s1,W.same s1,hl,fun H2 p2 s2 np2 ep2=>⟨jt,fun u nu=>?_⟩⟩
  have t3:=aB (o:=.tup [.str l.name,.int l.room,.ref p2]) nu
  have s02:=s1.trans s2
  refine⟨s02.trans t3,by rw [lP];exact Nat.succ_le_succ lz,?_⟩
  rw [List.take_succ,hlj,Option.toList_some,List.map_append,List.map_singleton]
  exact(aZ.imp fun _ _ h=>j6.same h (bY (s2.trans t3))).app (.cons ⟨u,p2,rfl,bH ao (nE s02 nu),bH (t3 _ _ ep2) (nE s1 np2)⟩ .nil)
 rintro zs H1 ⟨s1,lz,aZ⟩ D1 nD1
 rw [xl,List.take_length] at aZ
 have t2:=aB (o:=.lst zs) nD1
 have eD1:aX E (upd H1 D1 (.lst zs)) D1=some (.lst zs):=bH ao (nE s1 nD1)
 have s2:=s1.trans t2
 have aZ2:=aZ.imp fun _ _ h=>j6.same h (bY (E:=E) t2)
 generalize upd H1 D1 (.lst zs)=H2 at t2 eD1 s2 aZ2 ⊢
 refine⟨jt,fun D2 nD2=>⟨jt,fun T' nT=>?_⟩⟩
 have t3:=aB (o:=.lst []) nD2
 have t4:=aB (o:=.tup [.ref D1,.ref D2]) nT
 have s4:=s2.trans (t3.trans t4)
 have eD2:=t4 _ _ (ao (H:=H2) (a:=D2) (o:=.lst []))
 have eT:upd (upd H2 D2 (.lst [])) T' (.tup [.ref D1,.ref D2]) T'=some (.tup [.ref D1,.ref D2]):=ao
 have c24:=bY (E:=E) (t3.trans t4)
 have nTE:=nE (s2.trans t3) nT
 have nDE:=nE s2 nD2
 have nT2:T'≠D2:=fun z=>by rw [z,ao] at nT;cases nT
 have nD12:D2≠D1:=fun z=>by rw [z,bu _ _ eD1] at nD2;cases nD2
 have sG:aJ H (aX [D2] (upd (upd H2 D2 (.lst [])) T' (.tup [.ref D1,.ref D2]))):=fun b o e=>bH (s4 _ _ e) (by simpa using aD (s2 _ _ e) nD2)
 have sG2:aJ (aX E H2) (aX E (aX [D2] (upd (upd H2 D2 (.lst [])) T' (.tup [.ref D1,.ref D2])))):=fun b o e=>bH (bH (t4 _ _ (t3 _ _ (bu _ _ e))) (by simpa using aD (bu _ _ e) nD2)) (fun z=>by unfold aX at e;rw [if_pos z] at e;cases e)
 have eTG:aX [D2] (upd (upd H2 D2 (.lst [])) T' (.tup [.ref D1,.ref D2])) T'=some (.tup [.ref D1,.ref D2]):=bH eT (by simpa using nT2)
 generalize upd (upd H2 D2 (.lst [])) T' (.tup [.ref D1,.ref D2])=H4 at eD2 eT sG sG2 eTG s4 ⊢
 refine⟨_,rfl,P,rfl,⟨_,bK.of (s4 _ _ eP)⟩,d8 (K:=K) (a:=P) (xs:=ys) (fun j σ H'=>(∃v4 v5 v6 v7 v8,σ=[some (.ref r),some (.ref L),some (.ref P),some (.ref T'),v4,v5,v6,v7,v8])/\aJ (aX [D2] H4) (aX [D2] H')/\∃ws,H' D2=some (.lst ws)/\ws.length<=j/\iy (sW (aX E (aX [D2] H'))) ws ((ps.take j).map (dG S.k))) ⟨⟨_,_,_,_,_,rfl⟩,aJ.refl _,[],eD2,Nat.le_refl _,.nil⟩ (fun j σ H' _ h=>bK.of (bu _ _ (h.2.1 _ _ (sG _ _ eP)))) ?_ ?_⟩
 ·rintro j x σ H5 hx ⟨⟨v4,v5,v6,v7,v8,rfl⟩,c5,ws,e5,lw,aW⟩
  obtain⟨p,hpj,q,a1,a2,a3,rfl,q0,q1,q2,q3⟩:=aP.get hx
  have hp:=List.mem_of_getElem? hpj
  have hj:=(List.getElem?_eq_some_iff.mp hpj).1
  have ok:=F.pok p hp
  have g5:=sG.trans c5
  have s5:aJ H H5:=g5.trans bu
  refine⟨q,_,rfl,fC.of (s5 _ _ q0),rfl,_,_,rfl,_,_,rfl,_,_,rfl,_,_,rfl,_,_,rfl,rfl,?_⟩
  refine⟨fun σ' H'=>∃v6,σ'=[some (.ref r),some (.ref L),some (.ref P),some (.ref T'),some (.str (cT p.kind)),some (.str p.name),some (.ref v6),some (.ref a2),some (.ref a3)]/\aJ H5 H'/\H' v6=some (.lst ((dG S.k p).nums.map V.int)),?_,?_⟩
  ·refine⟨_,rfl,rfl,_,rfl,?_⟩
   rw [Uq _ ok.1]
   by_cases h5:p.kind=5
   ·rw [decide_eq_true h5]
    obtain⟨x,ei⟩:∃x,p.ins=[x]:=List.length_eq_one_iff.mp (by rw [ok.2.2.1,h5];rfl)
    obtain⟨m,em⟩:∃m,p.nums=[m]:=List.length_eq_one_iff.mp (by rw [ok.2.1,h5];rfl)
    obtain⟨l,hl,rfl⟩:=F.inL hp (show x∈p.ins ++ p.outs by rw [ei];simp)
    have hk:=hK p hp h5 l.name ei m em
    obtain⟨dxr,fsr,R5⟩:=id (hR.same s5)
    refine kJ ⟨_,rfl,a1,_,0,_,rfl,rfl,bK.of (s5 _ _ q1),aM (j:=0) (by rw [em];rfl),_,rfl,r,dxr,fsr,rfl,R5.1.1,R5.2.no _ (by decide +kernel),_,rfl,a2,_,0,_,rfl,rfl,bK.of (s5 _ _ q2),aM (j:=0) (by rw [ei];rfl),r,n,A,ls,ps,S,l,rfl,hR.same s5,N.same s5,W.same s5,hl,fun H6 p6 s6 np6 ep6=>?_⟩
    have s06:=s5.trans s6
    obtain⟨dxr,fsr,R6⟩:=id (hR.same s06)
    refine⟨_,rfl,r,dxr,fsr,rfl,R6.1.1,R6.2.no _ (by decide +kernel),_,rfl,r,n,A,ls,ps,S,p,rfl,hR.same s06,N.same s06,W.same s06,hp,fun H7 s7=>⟨_,rfl,p6,_,rfl,bK.of (s7 _ _ ep6),fun u nu=>?_⟩⟩
    rw [J8,<-List.map_take]
    have bV:=hV l hl
    have bD:=hD p hp
    refine⟨u,_,rfl,bK.of ao,fun v hv=>?_,by rw [List.length_take];omega,_,_,rfl,rfl,_,_,rfl,rfl,⟨by decide,by decide,by decide⟩,_,_,rfl,rfl,by show(0:Int) <10 ^ 9;decide,jt,fun w nw=>⟨w,rfl,(s6.trans s7).trans ((aB nu).trans (aB nw)),?_⟩⟩
    ·obtain⟨h0,h1⟩:=bV v (List.mem_of_mem_take hv)
     exact⟨h0,by omega⟩
    ·rw [ao]
     have:dG S.k p={ p with nums:=[S.k p.name] }:=if_pos h5
     rw [this,hk]
     rfl
   ·rw [decide_eq_false h5]
    have:dG S.k p=p:=if_neg h5
    rw [this]
    exact fu ⟨a1,rfl,aJ.refl _,s5 _ _ q1⟩
  rintro σ' H6 ⟨v6,rfl,s6,ev6⟩
  obtain⟨k1,k2,k3,k4⟩:=gP S.k p
  have s06:=s5.trans s6
  have e6:=s6 _ _ e5
  have eT6:=s6 _ _ (bu _ _ (c5 _ _ eTG))
  refine⟨_,rfl,T',_,1,_,rfl,rfl,fC.of eT6,aM (j:=1) rfl,.inl ⟨rfl,_,bK.of e6⟩,_,rfl,_,rfl,_,rfl,v6,_,rfl,.inl (bK.of ev6),fun u1 n1=>?_⟩
  have t7:=aB (o:=.lst ((dG S.k p).nums.map V.int)) n1
  refine⟨_,rfl,a2,_,rfl,.inl (bK.of (t7 _ _ (s06 _ _ q2))),fun u2 n2=>?_⟩
  have t8:=aB (o:=.lst (p.ins.map V.str)) n2
  refine⟨_,rfl,a3,_,rfl,.inl (bK.of (t8 _ _ (t7 _ _ (s06 _ _ q3)))),fun u3 n3=>⟨jt,fun w nw=>?_⟩⟩
  have t9:=aB (o:=.lst (p.outs.map V.str)) n3
  have ta:=aB (o:=.tup [.str (cT p.kind),.str p.name,.ref u1,.ref u2,.ref u3]) nw
  have tz:=t7.trans (t8.trans (t9.trans ta))
  have out:∀{Hx:Hp} {a:Addr},aJ H6 Hx->Hx a=none->a∉E/\a∉[D2]:=fun {Hx a} sx na=>⟨nE (s06.trans sx) na,by simp;intro z;rw [z,sx _ _ e6] at na;cases na⟩
  have put:∀{Hx Hy:Hp} {a:Addr} {o:HO},aJ H6 Hx->Hx a=none->Hy a=some o->aX E (aX [D2] Hy) a=some o:=fun sx na e=>bH (bH e (out sx na).2) (out sx na).1
  refine⟨D2,_,.ref w,rfl,rfl,tz _ _ e6,by omega,⟨_,_,_,_,_,rfl⟩,?_,ws ++ [.ref w],ao,by rw [lP];exact Nat.succ_le_succ lw,?_⟩
  ·rw [eU (by simp)]
   exact c5.trans (bY (s6.trans tz))
  ·rw [eU (by simp),List.take_succ,hpj,Option.toList_some,List.map_append,List.map_singleton]
   refine(aW.imp fun _ _ h=>sW.same h (bY (bY (s6.trans tz)))).app (.cons ⟨w,u1,u2,u3,rfl,?_,?_,?_,?_⟩ .nil)
   ·rw [k1,k2]
    exact put (t7.trans (t8.trans t9)) nw ao
   ·exact put (aJ.refl _) n1 (ta _ _ (t9 _ _ (t8 _ _ ao)))
   ·rw [k3]
    exact put t7 n2 (ta _ _ (t9 _ _ ao))
   ·rw [k4]
    exact put (t7.trans t8) n3 (ta _ _ ao)
 rintro σ H5 ⟨⟨v4,v5,v6,v7,v8,rfl⟩,c5,ws,e5,lw,aW⟩
 rw [yl,List.take_length] at aW
 have g5:=sG.trans c5
 have z5:aJ (aX E H2) (aX E H5):=(sG2.trans (bY c5)).trans (bY bu)
 refine⟨_,rfl,k H5 T' D1 D2 (g5.trans bu) ⟨bH (bu _ _ (c5 _ _ eTG)) nTE,⟨zs,z5 _ _ eD1,aZ2.imp fun _ _ h=>j6.same h z5⟩,⟨ws,bH e5 nDE,aW.imp fun _ _ h=>sW.same h (bY bu)⟩⟩⟩
inductive yK (K:PySem.W.Frag) (vs:List V) (H:Hp) (Q:VK) (E:XK):Prop where
 | mk:∀(a D:Addr) (ns:List Int) (ds:List Str) (c:Int) (n:Nat),vs=[.ref a,.ref D,.int c,.int (n:Nat)]->bK K H a (ns.map V.int)->bK K H D (ds.map V.str)->ds.length<=16->1<=n->(∀(H':Hp) (p:Addr) (xs:List Str),aJ H H'->H p=none->H' p=some (.lst (xs.map V.str))->(∀x∈xs,x∈ds)->Q (.ref p) H')->yK K vs H Q E
noncomputable abbrev m9:List Str:=["_law_script", "_law_doors_here", "_law_cell_here", "_law_seldom"]
theorem yR (T:Txt w K mg t):FO P w K mg base 2 t.Bb m9 (yK K):=by
 have sc:gm m9 m9 (bc (top 79)):=J4
 refine T.uN.F.ok sc ln (fun _ _ _ _ H vs Q E hr h=>?_)
 obtain⟨a,D,ns,ds,c,n,rfl,hS,hD,hd,hn,k⟩:=h
 refine⟨_,(az (cC (bF iw (bA cH (bA K9 (fj (iU T) T.gA hr (aa (pv 0) (aa au ak aq) aj)) au) au) au (bR _))
   (aA (aN (yZ ["_law_k", "_law_name"] [2] m9 (bc (top 79)) rfl (IV rfl T.vQ (aa (pv 1) ak aj)) (fun _ _ _ _ _=>yH (K:=K) (n:=2) rfl rfl (bU (jF (i:=0) (show(["_law_k", "_law_name", "_law_cell_here"]:List Str).Nodup by decide +kernel) rfl (Or.inl rfl) (.inr rfl)) (bU (jF (i:=1) (show(["_law_k", "_law_name", "_law_cell_here"]:List Str).Nodup by decide +kernel) rfl (Or.inl rfl) (.inr rfl)) jH))) (fun _ _ _ _ _=>(vV (bF iw (bA Wl (bA QD (pv 2) (bA mV au (pv 0))) au) au (bR _)))) (fun _ _ _ _ _=>(pv 1)))))
   bL)
  (aA (aN (yZ ["_law_k", "_law_name"] [2,3] m9 (bc (top 79)) rfl (IV rfl T.vQ (aa (pv 1) ak aj)) (fun _ _ _ _ _=>yH (K:=K) (n:=2) rfl rfl (bU (jF (i:=0) (show(["_law_k", "_law_name", "_law_cell_here", "_law_seldom"]:List Str).Nodup by decide +kernel) rfl (Or.inl rfl) (.inr rfl)) (bU (jF (i:=1) (show(["_law_k", "_law_name", "_law_cell_here", "_law_seldom"]:List Str).Nodup by decide +kernel) rfl (Or.inl rfl) (.inr rfl)) jH))) (fun _ _ _ _ _=>(vV (bF iw (bA cH (fj (bz T) T.bC hr (aa (pv 2) (aa (pv 0) ak aj) aj)) (pv 3)) au (bR _)))) (fun _ _ _ _ _=>(pv 1)))))),?_⟩
 have hz:sizeLine=16777216:=sizeLine_eq
 refine⟨_,rfl,a,ns,2,rfl,hS,_,_,rfl,rfl,Vq (by decide) (by decide),_,_,rfl,rfl,by show(0:Int) <2;decide,rfl,_,rfl,kO (fun _=>?_) (fun _=>?_)⟩
 ·refine⟨_,rfl,D,rfl,⟨_,hD⟩,Ep (K:=K) (a:=D) (xs:=ds.map V.str) (fun i ys H'=>aJ H H'/\ys.length<=i/\∃xs:List Str,ys=xs.map V.str/\∀x∈xs,x∈ds) (by rw [lM];omega) ⟨aJ.refl _,Nat.le_refl _,[],rfl,by simp⟩ (fun i ys H' h=>h.2.1) (fun i ys H' _ h=>h.1.seq hD) ?_ ?_⟩
  ·rintro i x ys H' p hx ⟨s1,ly,xs,rfl,hx2⟩ np
   rw [List.getElem?_map] at hx
   obtain⟨y,hy,rfl⟩:=Option.map_eq_some_iff.mp hx
   have t1:=aB (o:=.tup [.int (i:Nat),.str y]) np
   refine⟨p,_,rfl,fC.of ao,rfl,_,_,rfl,_,_,rfl,rfl,rfl,?_⟩
   refine⟨_,rfl,_,rfl,_,_,rfl,rfl,j8,_,_,rfl,rfl,by show(0:Int)<=2 * (i:Int);omega,_,_,rfl,rfl,rfl,_,rfl,kO (fun _=>⟨_,rfl,s1.trans t1,by rw [lP];simp;simpa using ly,xs ++ [y],by simp,fun x hx=>?_⟩) (fun _=>⟨s1.trans t1,Nat.le_succ_of_le ly,xs,rfl,hx2⟩)⟩
   rcases List.mem_append.mp hx with h | h
   ·exact hx2 x h
   ·rw [List.mem_singleton] at h
    rw [h]
    exact List.mem_of_getElem? hy
  rintro ys H' ⟨s1,_,xs,rfl,hx⟩ p np
  exact k _ p xs (s1.trans (aB np)) (s1.free np) ao hx
 ·refine⟨_,rfl,D,rfl,⟨_,hD⟩,Ep (K:=K) (a:=D) (xs:=ds.map V.str) (fun i ys H'=>aJ H H'/\ys.length<=i/\∃xs:List Str,ys=xs.map V.str/\∀x∈xs,x∈ds) (by rw [lM];omega) ⟨aJ.refl _,Nat.le_refl _,[],rfl,by simp⟩ (fun i ys H' h=>h.2.1) (fun i ys H' _ h=>h.1.seq hD) ?_ ?_⟩
  ·rintro i x ys H' p hx ⟨s1,ly,xs,rfl,hx2⟩ np
   rw [List.getElem?_map] at hx
   obtain⟨y,hy,rfl⟩:=Option.map_eq_some_iff.mp hx
   have t1:=aB (o:=.tup [.int (i:Nat),.str y]) np
   refine⟨p,_,rfl,fC.of ao,rfl,_,_,rfl,_,_,rfl,rfl,rfl,?_⟩
   refine⟨_,rfl,_,rfl,_,_,rfl,_,rfl,_,_,rfl,rfl,by show(0:Int) <(n:Int);omega,rfl,_,rfl,kO (fun _=>⟨_,rfl,s1.trans t1,by rw [lP];simp;simpa using ly,xs ++ [y],by simp,fun x hx=>?_⟩) (fun _=>⟨s1.trans t1,Nat.le_succ_of_le ly,xs,rfl,hx2⟩)⟩
   rcases List.mem_append.mp hx with h | h
   ·exact hx2 x h
   ·rw [List.mem_singleton] at h
    rw [h]
    exact List.mem_of_getElem? hy
  rintro ys H' ⟨s1,_,xs,rfl,hx⟩ p np
  exact k _ p xs (s1.trans (aB np)) (s1.free np) ao hx
inductive xq (K:PySem.W.Frag) (t:jL) (vs:List V) (H:Hp) (Q:VK) (E:XK):Prop where
 | mk:∀(r:Addr) (n:Nat) (A:mG) (ls:List aG) (ps:List PD) (S:FS) (r2:Addr) (n2:Nat) (A2:mG) (ls2:List aG) (ps2:List PD) (S2:FS) (L G:Addr) (xs:List V) (o:Str->List Int),vs=[.ref r,.ref r2,.ref L,.ref G]->mj t H r A.n A.f n->fO K t H A.n ls ps->dO K t H A ls ps S->mj t H r2 A2.n A2.f n2->fO K t H A2.n ls2 ps2->dO K t H A2 ls2 ps2 S2->H L=some (.lst xs)->iy (j6 H) xs ls->(H G=some (.dK (cM (fun x=>(o x).length) ls)))->((∀l∈ls,∃l'∈ls2,l'.name=l.name))->((∀l∈ls,S.ev l.name=o l.name ++ S2.ev l.name))->((∀l∈ls,S.g l.name=(o l.name).length+S2.g l.name))->(∀H',aJ H H'->Q (.bl true) H')->xq K t vs H Q E
theorem Ge (T:Txt w K mg t):FO P w K mg base 4 t.zT ["_law_run", "_law_other", "_law_lanes", "_law_gone"] (xq K t):=by
 have sc:=T.ut.sc ["_law_run", "_law_other", "_law_lanes", "_law_gone", "_law_name", "_law_room", "_law_first"]
 refine T.ut.F.ok sc ln (fun _ _ _ _ H vs Q E hr h=>?_)
 obtain⟨r,n,A,ls,ps,S,r2,n2,A2,ls2,ps2,S2,L,G,xs,o,rfl,hR,N,W,hR2,N2,W2,eL,aL,eG,hl2,hev,hg,k⟩:=h
 refine⟨_,(az (d7 PassesOwn.never rfl (b8 (pv 2)) (tE rfl (bU (gN sc 4) (bU (gN sc 5) (bU (gN sc 6) jH))))
   (aA (cC (PW.pt (wB (bF (z9 hr.units) (tD (pv 0) T.bB T.bB.me.2.2.2.2.2.2.1 (jn T) T.fX hr (aa (pv 4) ak aj)) (tD (pv 1) T.bB T.bB.me.2.2.2.2.2.2.1 (jn T) T.fX hr (aa (pv 4) ak aj)) (bR _)) (qm (bF (z9 hr.units) (ji mQ (tD (pv 0) T.bB T.bB.me.2.2.2.2.2.2.2.2.1 (tM T) T.pP hr (aa (pv 4) ak aj)) (jK (cG hr.u1 (pv 3) (pv 4) (fun _ _=>rfl))) kZ) (tD (pv 1) T.bB T.bB.me.2.2.2.2.2.2.2.2.1 (tM T) T.pP hr (aa (pv 4) ak aj)) (bR _)))))
    (aA (aN lH))
    bL)))
  (aA (aN lH))),?_⟩
 have hz:sizeLine=16777216:=sizeLine_eq
 have gdL:∀l:List Int,Gd 1 (.list (l.map PyData.int)):=fun l=>.list (.ints 0 _)
 have xl:=aL.length
 have F:qF ls ps:=by obtain⟨_,_,_,_,_,_,_,_,_,Wn⟩:=N;exact Wn.fit
 refine⟨_,rfl,L,rfl,⟨_,bK.of eL⟩,d8 (K:=K) (a:=L) (xs:=xs) (fun j σ H'=>aJ H H'/\∃v4 v5 v6,σ=[some (.ref r),some (.ref r2),some (.ref L),some (.ref G),v4,v5,v6]) ⟨aJ.refl _,_,_,_,rfl⟩ (fun j σ H' _ h=>bK.of (h.1 _ _ eL)) ?_ ?_⟩
 ·rintro j x σ H1 hx ⟨s1,v4,v5,v6,rfl⟩
  obtain⟨l,hlj,q,f,rfl,hq,hf⟩:=aL.get hx
  have hl:=List.mem_of_getElem? hlj
  obtain⟨l',hl',en⟩:=hl2 l hl
  have e1:=hev l hl
  have e2:=hg l hl
  refine⟨q,_,rfl,fC.of (s1 _ _ hq),rfl,_,_,rfl,_,_,rfl,_,_,rfl,rfl,?_⟩
  obtain⟨dxr,fsr,R1⟩:=id (hR.same s1)
  refine⟨_,rfl,r,dxr,fsr,rfl,R1.1.1,R1.2.no _ (by decide +kernel),_,rfl,r,n,A,ls,ps,S,l,rfl,hR.same s1,N.same s1,W.same s1,hl,fun H2 p1 s2 np1 ep1=>?_⟩
  have s02:=s1.trans s2
  obtain⟨dxr2,fsr2,R2⟩:=id (hR2.same s02)
  refine⟨_,rfl,r2,dxr2,fsr2,rfl,R2.1.1,R2.2.no _ (by decide +kernel),_,rfl,r2,n2,A2,ls2,ps2,S2,l',(by rw [en];rfl),hR2.same s02,N2.same s02,W2.same s02,hl',fun H3 p2 s3 np2 ep2=>?_⟩
  rw [en] at ep2
  have ed:(S.ev l.name).drop (S.g l.name)=(S2.ev l.name).drop (S2.g l.name):=by rw [e1,e2,List.drop_append,List.drop_of_length_le (by omega),List.nil_append,Nat.add_sub_cancel_left]
  refine⟨_,_,wM (bK.of (s3 _ _ ep1)),wM (bK.of ep2),(gdL _).shaped (by decide),(gdL _).shaped (by decide),_,rfl,?_⟩
  rw [ed,(gdL _).eq]
  refine fu ?_
  have s03:=s02.trans s3
  obtain⟨dxr,fsr,R3⟩:=id (hR.same s03)
  refine⟨_,rfl,r,dxr,fsr,rfl,R3.1.1,R3.2.no _ (by decide +kernel),_,rfl,r,n,A,ls,ps,S,l,rfl,hR.same s03,N.same s03,W.same s03,hl,fun H4 p3 s4 np3 ep3=>?_⟩
  have s04:=s03.trans s4
  refine⟨_,rfl,_,rfl,G,_,rfl,dgS (s04 _ _ eG) (pR F.whole.nod hl),_,rfl,p3,_,rfl,bK.of ep3,fun v nv=>?_⟩
  rw [uO,<-List.map_drop,e1,List.drop_left]
  have t5:=aB (o:=.lst ((S2.ev l.name).map V.int)) nv
  have ev:upd H4 v (.lst ((S2.ev l.name).map V.int)) v=some (.lst ((S2.ev l.name).map V.int)):=ao
  generalize upd H4 v (.lst ((S2.ev l.name).map V.int))=H5 at t5 ev ⊢
  have s05:=s04.trans t5
  obtain⟨dxr2,fsr2,R5⟩:=id (hR2.same s05)
  refine⟨_,rfl,r2,dxr2,fsr2,rfl,R5.1.1,R5.2.no _ (by decide +kernel),_,rfl,r2,n2,A2,ls2,ps2,S2,l',(by rw [en];rfl),hR2.same s05,N2.same s05,W2.same s05,hl',fun H6 p4 s6 np4 ep4=>?_⟩
  rw [en] at ep4
  refine⟨_,_,wM (bK.of (s6 _ _ ev)),wM (bK.of ep4),(gdL _).shaped (by decide),(gdL _).shaped (by decide),_,rfl,?_⟩
  rw [(gdL (S2.ev l.name)).eq]
  exact fu ⟨s05.trans s6,_,_,_,rfl⟩
 rintro σ H1 ⟨s1,v4,v5,v6,rfl⟩
 exact k _ s1
theorem zL {α:Type} {f:α->List Str}:∀{l m:List α},l.Sublist m->(l.flatMap f).Sublist (m.flatMap f)
 | _,_,.slnil=>List.Sublist.refl _
 | _,_,.cons a h=>by rw [List.flatMap_cons];exact(zL h).trans (List.sublist_append_right _ _)
 | _,_,.cons₂ a h=>by rw [List.flatMap_cons,List.flatMap_cons];exact(List.Sublist.refl _).append (zL h)
theorem Tv {ls:List aG} {ps:List PD} {S:FS} {xs:List Str} (F:qF ls ps):((j0 ls ps S xs).flatMap (·.1.ins)).Nodup:=by
 have h:((j0 ls ps S xs).map (·.1)).Sublist ps:=(pQ (qs:=ps.filter (kj xs))).trans List.filter_sublist
 have h2:=(F.whole.ins.nodup_iff.mpr F.whole.nod).sublist (zL (f:=(·.ins)) h)
 rwa [List.flatMap_map] at h2
theorem K3 {ls:List aG} {ps:List PD} {S:FS} (F:qF ls ps) {p:PD} (hp:p∈ps) {dd:iW} (h:fK S p=some dd) {x:Str} (hx:x∈dd.tk):x∈p.ins/\S.g x <(S.ev x).length:=by
 obtain⟨hl,_,rfl⟩:=jx h
 obtain⟨q,hq,rfl⟩:=List.mem_map.mp hx
 obtain⟨y,n,e1,_,e3⟩:=CK (F.pok p hp) hl q hq
 have e:strAt p.ins q=y:=by unfold strAt;rw [e1];rfl
 rw [e]
 exact⟨List.mem_of_getElem? e1,(List.getElem?_eq_some_iff.mp e3).1⟩
theorem Q0 {α:Type} {l:List α} {j:Nat} {a:α} (h:l[j]?=some a):l=l.take j ++ a:: l.drop (j+1):=by
 obtain⟨hj,e⟩:=List.getElem?_eq_some_iff.mp h
 rw [<-e,<-List.drop_eq_getElem_cons hj,List.take_append_drop]
theorem ZJ {ls:List aG} {ps:List PD} {S:FS} {xs:List Str} (F:qF ls ps) {j:Nat} {w:PD×iW} (h:(j0 ls ps S xs)[j]?=some w) {x:Str} (hx:x∈w.2.tk):(ir S ((j0 ls ps S xs).take j)).g x=S.g x/\S.g x <(S.ev x).length:=by
 have hw:=jE (List.mem_of_getElem? h)
 have t1:=K3 F hw.1 (gY hw.2.2).1 hx
 refine⟨?_,t1.2⟩
 have nd:=Tv (ls:=ls) (S:=S) (xs:=xs) F
 rw [Q0 h,List.flatMap_append,List.flatMap_cons,List.nodup_append] at nd
 rw [Jo,List.filter_eq_nil_iff.mpr fun w' hw'=>?_]
 ·rfl
 ·intro z
  have hx':=of_decide_eq_true z
  have hd:=jE (List.mem_of_mem_take hw')
  have t2:=K3 F hd.1 (gY hd.2.2).1 hx'
  exact nd.2.2 x (List.mem_flatMap.mpr ⟨w',hw',t2.1⟩) x (List.mem_append.mpr (.inl t1.1)) rfl
theorem zB {f:PD->List Str}:∀{ps:List PD},(ps.flatMap f).Nodup->∀{p q:PD},p∈ps->q∈ps->∀{x:Str},x∈f p->x∈f q->p=q
 | a:: r,nd,p,q,hp,hq,x,h1,h2=>by
  rw [List.flatMap_cons,List.nodup_append] at nd
  rcases List.mem_cons.mp hp with e1 | e1
  ·rcases List.mem_cons.mp hq with e2 | e2
   ·rw [e1,e2]
   ·rw [e1] at h1
    exact absurd rfl (nd.2.2 x h1 x (List.mem_flatMap.mpr ⟨q,e2,h2⟩))
  ·rcases List.mem_cons.mp hq with e2 | e2
   ·rw [e2] at h2
    exact absurd rfl (nd.2.2 x h2 x (List.mem_flatMap.mpr ⟨p,e1,h1⟩))
   ·exact zB nd.2.1 e1 e2 h1 h2
noncomputable def Y5 (S:FS) (p:PD):List (Str×Int):=(cU p.kind p.nums (vo S p) (S.k p.name)).map fun pv=>(strAt p.outs pv.1.toNat,pv.2)
noncomputable def Q5 (S:FS) (p:PD):List Str:=(Y5 S p).map (·.1)
theorem Tp {S:FS} {p:PD} (ok:qb p) (hA:p.kind≠10):Q5 S p=p.outs:=by
 have h:=ok.1
 have hO:=ok.2.2.2.1
 unfold Q5 Y5
 rw [List.map_map]
 have key:∀i,i <11->i≠10->∀(ns ws:List Int) (k:Int),(cU i ns ws k).map (fun pv=>pv.1.toNat)=List.range (cO i):=by
  intro i hi hn ns ws k
  match i,hi,hn with
  | 0,_,_=>rfl
  | 1,_,_=>rfl
  | 2,_,_=>rfl
  | 3,_,_=>rfl
  | 4,_,_=>rfl
  | 5,_,_=>rfl
  | 6,_,_=>rfl
  | 7,_,_=>rfl
  | 8,_,_=>rfl
  | 9,_,_=>rfl
  | 10,_,hn=>exact absurd rfl hn
 have e:(cU p.kind p.nums (vo S p) (S.k p.name)).map ((fun q:Str×Int=>q.1)∘fun pv=>(strAt p.outs pv.1.toNat,pv.2))=((cU p.kind p.nums (vo S p) (S.k p.name)).map (fun pv=>pv.1.toNat)).map (strAt p.outs):=by rw [List.map_map];rfl
 rw [e,key _ h hA,<-hO]
 refine List.ext_getElem? fun i=>?_
 rw [List.getElem?_map]
 by_cases h:i <p.outs.length
 ·rw [List.getElem?_range h,List.getElem?_eq_getElem h,Option.map_some,Eu h]
 ·rw [List.getElem?_eq_none (by rw [List.length_range];omega),List.getElem?_eq_none (by omega)]
  rfl
theorem Wk {S:FS} {p:PD} (ok:qb p) {x:Str} (hx:x∈Q5 S p):x∈p.outs:=by
 obtain⟨q,hq,rfl⟩:=List.mem_map.mp hx
 obtain⟨pv,hpv,rfl⟩:=List.mem_map.mp hq
 obtain⟨o,ho1,ho2⟩:=Jw (show p.kind<=10 by have:=ok.1;omega) _ _ _ _ hpv
 refine Aa ?_
 rw [ho1,Int.toNat_natCast,ok.2.2.2.1]
 exact ho2
theorem Nx {ls:List aG} {ps:List PD} {S:FS} (F:qF ls ps) {p:PD} (hp:p∈ps) {dd:iW} (h:fK S p=some dd):(dd.gv.map (·.1)).Nodup/\∀q∈dd.gv,q.1∈p.outs:=by
 obtain⟨_,_,rfl⟩:=jx h
 have ok:=F.pok p hp
 have eg:((cU p.kind p.nums (vo S p) (S.k p.name)).map fun pv=>(strAt p.outs pv.1.toNat,pv.2)).map (·.1)=Q5 S p:=rfl
 refine⟨?_,fun q hq=>Wk (S:=S) ok (List.mem_map.mpr ⟨q,hq,rfl⟩)⟩
 show(((cU p.kind p.nums (vo S p) (S.k p.name)).map fun pv=>(strAt p.outs pv.1.toNat,pv.2)).map (·.1)).Nodup
 rw [eg]
 by_cases hA:p.kind=10
 ·unfold Q5 Y5
  rw [hA]
  show [_].Nodup
  simp
 ·rw [Tp ok hA]
  exact Ig (F.whole.outs.nodup_iff.mpr F.whole.nod) hp
theorem M5 {ls:List aG} {ps:List PD} {S:FS} (F:qF ls ps) {p q:PD} (hp:p∈ps) (hq:q∈ps) (hne:p≠q) {dd:iW} (h:fK S p=some dd) {x:Str} (hx:x∈q.ins) {n:Int} (hn:jQ S x=.int n):jQ (kW S p.name dd) x=.int n:=by
 have hg:x∉dd.tk:=fun z=>by
  have h1:=(K3 F hp h z).1
  have nd:=F.whole.ins.nodup_iff.mpr F.whole.nod
  exact hne (zB nd hp hq h1 hx)
 unfold jQ at hn ⊢
 show((((S.ev x) ++ _)[if x∈dd.tk then S.g x+1 else S.g x]?).map V.int).getD .non=.int n
 rw [if_neg hg]
 cases e:(S.ev x)[S.g x]? with
 | none=>rw [e] at hn;cases hn
 | some m=>
  rw [e] at hn
  rw [List.getElem?_append_left (List.getElem?_eq_some_iff.mp e).1,e]
  exact hn
theorem Aj {ls:List aG} {ps:List PD} {S:FS} (F:qF ls ps) {p q:PD} (hp:p∈ps) (hq:q∈ps) (hne:p≠q) {dd dq:iW} (h:fK S p=some dd) (hd:fK S q=some dq):fK (kW S p.name dd) q=some dq:=by
 obtain⟨hl,he,rfl⟩:=jx hd
 have ok:=F.pok q hq
 have hno:=CK ok hl
 have nn:q.name≠p.name:=fun z=>hne (qw F.pnd hp hq z.symm)
 have at':∀i∈places q.kind (bx S q),∃n,(bx S q)[i]?=some (.int n)/\(bx (kW S p.name dd) q)[i]?=some (.int n):=fun i hi=>by
  obtain⟨x,n,e1,e2,_⟩:=hno i hi
  refine⟨n,e2,?_⟩
  unfold bx at e2 ⊢
  rw [List.getElem?_map,e1] at e2 ⊢
  rw [Option.map_some] at e2 ⊢
  rw [M5 F hp hq hne h (List.mem_of_getElem? e1) (Option.some.inj e2)]
 have pl:places q.kind (bx (kW S p.name dd) q)=places q.kind (bx S q):=by
  by_cases h9:q.kind=9
  ·obtain⟨n,e1,e2⟩:=at' 0 (by unfold places;rw [if_pos h9];split <;> simp)
   unfold places
   rw [if_pos h9,if_pos h9]
   cases a:bx S q with
   | nil=>rw [a] at e1;cases e1
   | cons u r=>
    rw [a] at e1
    cases b:bx (kW S p.name dd) q with
    | nil=>rw [b] at e2;cases e2
    | cons v s=>
     rw [b] at e2
     have e1:u=.int n:=by simpa using e1
     have e2:v=.int n:=by simpa using e2
     rw [e1,e2]
  ·unfold places bx
   rw [if_neg h9,if_neg h9,lM,lM]
 have ws:vo (kW S p.name dd) q=vo S q:=by
  unfold vo
  rw [pl]
  by_cases h0:q.kind=0
  ·rw [if_pos h0,if_pos h0]
   show((S.r q.name)[if q.name=p.name then _ else S.d q.name]?).toList=_
   rw [if_neg nn]
  ·rw [if_neg h0,if_neg h0]
   refine List.map_congr_left fun i hi=>?_
   obtain⟨n,e1,e2⟩:=at' i hi
   rw [e1,e2]
 have kk:(kW S p.name dd).k q.name=S.k q.name:=if_neg nn
 have hl':jh q.kind q.ins (bx (kW S p.name dd) q)=.non:=by
  unfold jh
  rw [pl,List.find?_eq_none.mpr fun i hi=>?_]
  obtain⟨n,_,e2⟩:=at' i hi
  unfold xf
  rw [e2]
  simp
 have he':yD (kW S p.name dd) q=false:=by
  unfold yD at he ⊢
  show(decide (q.kind=0) && decide ((if q.name=p.name then _ else S.d q.name)=(S.r q.name).length))=false
  rw [if_neg nn]
  exact he
 unfold fK
 rw [if_neg (by simp [hl']),if_neg (by simp [he']),pl,ws,kk]
theorem UT {ls:List aG} {ps:List PD} {S:FS} (F:qF ls ps) {p q:PD} (hp:p∈ps) (hq:q∈ps) (hne:p≠q) {dd dq:iW} (h:fK S p=some dd) (hd:fK S q=some dq):kW (kW S p.name dd) q.name dq=kW (kW S q.name dq) p.name dd:=by
 have nn:q.name≠p.name:=fun z=>hne (qw F.pnd hp hq z.symm)
 have go:=(Nx F hp h).2
 have gq:=(Nx F hq hd).2
 have nd:=F.whole.outs.nodup_iff.mpr F.whole.nod
 have e1:(kW (kW S p.name dd) q.name dq).ev=(kW (kW S q.name dq) p.name dd).ev:=by
  funext y
  show(S.ev y ++ (dd.gv.filter fun z=>decide (z.1=y)).map (·.2)) ++ (dq.gv.filter fun z=>decide (z.1=y)).map (·.2)=(S.ev y ++ (dq.gv.filter fun z=>decide (z.1=y)).map (·.2)) ++ (dd.gv.filter fun z=>decide (z.1=y)).map (·.2)
  by_cases ha:(dd.gv.filter fun z=>decide (z.1=y))=[]
  ·rw [ha];simp
  ·by_cases hb:(dq.gv.filter fun z=>decide (z.1=y))=[]
   ·rw [hb];simp
   ·obtain⟨a,ha⟩:=List.exists_mem_of_ne_nil _ ha
    obtain⟨b,hb⟩:=List.exists_mem_of_ne_nil _ hb
    obtain⟨a1,a2⟩:=List.mem_filter.mp ha
    obtain⟨b1,b2⟩:=List.mem_filter.mp hb
    have z1:=go a a1
    have z2:=gq b b1
    rw [of_decide_eq_true a2] at z1
    rw [of_decide_eq_true b2] at z2
    exact absurd (zB nd hp hq z1 z2) hne
 have e2:(kW (kW S p.name dd) q.name dq).g=(kW (kW S q.name dq) p.name dd).g:=by
  funext y
  show(if y∈dq.tk then(if y∈dd.tk then S.g y+1 else S.g y)+1 else if y∈dd.tk then S.g y+1 else S.g y)=if y∈dd.tk then(if y∈dq.tk then S.g y+1 else S.g y)+1 else if y∈dq.tk then S.g y+1 else S.g y
  by_cases a:y∈dq.tk <;> by_cases b:y∈dd.tk <;> simp [a,b]
 have e3:(kW (kW S p.name dd) q.name dq).k=(kW (kW S q.name dq) p.name dd).k:=by
  funext y
  show(if y=q.name then dq.kv else if y=p.name then dd.kv else S.k y)=if y=p.name then dd.kv else if y=q.name then dq.kv else S.k y
  by_cases a:y=q.name
  ·rw [if_pos a,if_neg (by rw [a];exact nn),if_pos a]
  ·rw [if_neg a,if_neg a]
 have e4:(kW (kW S p.name dd) q.name dq).d=(kW (kW S q.name dq) p.name dd).d:=by
  funext y
  show(if y=q.name then(if y=p.name then S.d y+1 else S.d y)+1 else if y=p.name then S.d y+1 else S.d y)=if y=p.name then(if y=q.name then S.d y+1 else S.d y)+1 else if y=q.name then S.d y+1 else S.d y
  by_cases a:y=q.name
  ·rw [if_pos a,if_neg (by rw [a];exact nn),if_neg (by rw [a];exact nn),if_pos a]
  ·rw [if_neg a,if_neg a]
 show(⟨_,_,_,_,_⟩:FS)=⟨_,_,_,_,_⟩
 exact congr (congr (congr (congr (congrArg FS.mk e1) e2) e3) e4) rfl
inductive GF (ps:List PD) (m:Nat):FS->FS->Prop
 | refl (S:FS):GF ps m S S
 | head {S T:FS} {p:PD} {dd:iW}:p∈ps->S.d p.name <m->fK S p=some dd->GF ps m (kW S p.name dd) T->GF ps m S T
theorem GF.trans {ps:List PD} {m:Nat} {S T U:FS} (a:GF ps m S T) (b:GF ps m T U):GF ps m S U:=by
 induction a with
 | refl _=>exact b
 | head h1 h2 h3 _ ih=>exact .head h1 h2 h3 (ih b)
noncomputable def Done (ps:List PD) (m:Nat) (T:FS):Prop:=∀p∈ps,T.d p.name <m->fK T p=none
theorem GF.swap {ls:List aG} {ps:List PD} {m:Nat} (F:qF ls ps) {A T:FS} (r:GF ps m A T) (hT:Done ps m T):∀{p:PD} {dd:iW},p∈ps->A.d p.name <m->fK A p=some dd->GF ps m (kW A p.name dd) T:=by
 induction r with
 | refl S=>intro p dd hp hm hd;rw [hT p hp hm] at hd;cases hd
 | @head S T q dq hq hm' hd' r ih=>
  intro p dd hp hm hd
  by_cases e:q=p
  ·subst e
   rw [hd] at hd'
   cases hd'
   exact r
  ·have nn:p.name≠q.name:=fun z=>e (qw F.pnd hq hp z.symm)
   have c:=ih hT hp (show(if p.name=q.name then _ else S.d p.name) <m by rw [if_neg nn];exact hm) (Aj F hq hp e hd' hd)
   rw [UT F hq hp e hd' hd] at c
   exact .head hq (show(if q.name=p.name then _ else S.d q.name) <m by rw [if_neg (Ne.symm nn)];exact hm') (Aj F hp hq (Ne.symm e) hd hd') c
theorem GF.ends {ls:List aG} {ps:List PD} {m:Nat} (F:qF ls ps) {A S T:FS} (a:GF ps m A S) (b:GF ps m A T) (hT:Done ps m T):GF ps m S T:=by
 induction a with
 | refl _=>exact b
 | head h1 h2 h3 _ ih=>exact ih (b.swap F hT h1 h2 h3)
theorem GF.all {ls:List aG} {ps:List PD} {m:Nat} (F:qF ls ps):∀{ws:List (PD×iW)} {S:FS},(ws.map fun w=>w.1.name).Nodup->(∀w∈ws,w.1∈ps/\S.d w.1.name <m/\fK S w.1=some w.2)->GF ps m S (ir S ws)
 | [],S,_,_=>.refl S
 | w:: r,S,nd,h=>by
  rw [List.map_cons,List.nodup_cons] at nd
  obtain⟨h1,h2,h3⟩:=h w List.mem_cons_self
  refine .head h1 h2 h3 (GF.all F nd.2 fun w' hw'=>?_)
  obtain⟨a1,a2,a3⟩:=h w' (List.mem_cons_of_mem _ hw')
  have ne:w'.1.name≠w.1.name:=fun z=>nd.1 (List.mem_map.mpr ⟨w',hw',z⟩)
  refine⟨a1,?_,Aj F h1 a1 (fun z=>ne (by rw [z])) h3 a3⟩
  show(if w'.1.name=w.1.name then _ else S.d w'.1.name) <m
  rw [if_neg ne]
  exact a2
theorem Rq {ls:List aG} {ps:List PD} {m:Nat} {S:FS} {xs:List Str} (F:qF ls ps) (h:∀p∈ps,S.d p.name <m):GF ps m S (jf ls ps S xs):=
 GF.all F (Mj F.pnd) fun w hw=>⟨(jE hw).1,h _ (jE hw).1,(gY (jE hw).2.2).1⟩
theorem Wu {ls:List aG} {ps:List PD} {S:FS} {xs:List Str} (F:qF ls ps) (x:Str):(jf ls ps S xs).d x<=S.d x+1:=by
 unfold jf
 rw [Iv]
 have:=Jb (x:=x) (Mj (ls:=ls) (S:=S) (xs:=xs) F.pnd)
 omega
theorem XJ {b:Nat} {ls:List aG} {ps:List PD} {S:FS} (F:qF ls ps) (O:Jt b ls ps S) {p:PD} (hp:p∈ps) {dd:iW} (h:fK S p=some dd):Jt (b+2) ls ps (kW S p.name dd):=by
 obtain⟨e1,e2,rfl⟩:=jx h
 have hw2:=Fj p.kind p.nums (vo S p) (S.k p.name)
 refine⟨fun l hl v hv=>?_,fun p' hp' h0=>O.rb p' hp' h0,fun p' hp' h0=>?_,fun l hl=>?_,fun p' hp' h0=>O.rl p' hp' h0⟩
 ·rcases List.mem_append.mp hv with hv | hv
  ·exact O.vb l hl v hv
  ·obtain⟨q,hq,rfl⟩:=List.mem_map.mp hv
   obtain⟨pv,hpv,rfl⟩:=List.mem_map.mp (List.mem_filter.mp hq).1
   exact K5 (F.pok _ hp).1 _ _ (RQ F O hp e1 e2).2.1 pv hpv
 ·show(if p'.name=p.name then S.d p'.name+1 else S.d p'.name)<=_
  have hd:=O.dl p' hp' h0
  by_cases e:p'.name=p.name
  ·have:=qw F.pnd hp' hp e
   subst this
   rw [if_pos rfl]
   unfold yD at e2
   simp [h0] at e2
   show S.d p'.name+1<=(S.r p'.name).length
   omega
  ·rw [if_neg e]
   exact hd
 ·show(S.ev l.name ++ _).length<=_
  rw [lP,lM]
  have:=O.len l hl
  refine Nat.le_trans (Nat.add_le_add_left (List.length_filter_le _ _) _) ?_
  rw [lM]
  omega
theorem NZ {α:Type} {f:α->List Str} {g:α->List Int} {x:Str}:∀{l:List α},(l.flatMap f).Nodup->(∀a∈l,(g a).length<=1)->(∀a∈l,g a≠[]->x∈f a)->(l.flatMap g).length<=1
 | [],_,_,_=>by simp
 | a:: r,nd,h1,h2=>by
  rw [List.flatMap_cons,List.nodup_append] at nd
  rw [List.flatMap_cons,lP]
  by_cases h:g a=[]
  ·rw [h]
   have:=NZ nd.2.1 (fun b hb=>h1 b (List.mem_cons_of_mem _ hb)) fun b hb=>h2 b (List.mem_cons_of_mem _ hb)
   simpa using this
  ·have hx:=h2 a List.mem_cons_self h
   have e:r.flatMap g=[]:=List.flatMap_eq_nil_iff.mpr fun b hb=>by
    by_cases hb':g b=[]
    ·exact hb'
    ·exact absurd rfl (nd.2.2 x hx x (List.mem_flatMap.mpr ⟨b,hb,h2 b (List.mem_cons_of_mem _ hb) hb'⟩))
   rw [e]
   have:=h1 a List.mem_cons_self
   simpa using this
theorem Qq {ls:List aG} {ps:List PD} {S:FS} {xs:List Str} (F:qF ls ps):((j0 ls ps S xs).flatMap (·.1.outs)).Nodup:=by
 have h:((j0 ls ps S xs).map (·.1)).Sublist ps:=(pQ (qs:=ps.filter (kj xs))).trans List.filter_sublist
 have h2:=(F.whole.outs.nodup_iff.mpr F.whole.nod).sublist (zL (f:=(·.outs)) h)
 rwa [List.flatMap_map] at h2
theorem Pb {ls:List aG} {ps:List PD} {S:FS} {xs:List Str} (F:qF ls ps) (R:∀l∈ls,((S.ev l.name).length:Int) - (S.g l.name:Int)<=l.room):∀l∈ls,(((jf ls ps S xs).ev l.name).length:Int) - ((jf ls ps S xs).g l.name:Int)<=l.room:=fun l hl=>by
 have e1:((jf ls ps S xs).ev l.name)=_:=Ej l.name _ _
 have e2:((jf ls ps S xs).g l.name)=_:=Jo l.name _ _
 have hr:=R l hl
 have c1:((j0 ls ps S xs).flatMap fun w=>(w.2.gv.filter fun q=>decide (q.1=l.name)).map (·.2)).length<=1:=NZ (f:=(·.1.outs)) (x:=l.name) (Qq F) (fun w hw=>by
   have h:=jE hw
   rw [lM]
   exact Jb (f:=fun q:Str×Int=>q.1) (Nx F h.1 (gY h.2.2).1).1) fun w hw hne=>by
   have h:=jE hw
   obtain⟨v,hv⟩:=List.exists_mem_of_ne_nil _ hne
   obtain⟨q,hq,_⟩:=List.mem_map.mp hv
   obtain⟨hq1,hq2⟩:=List.mem_filter.mp hq
   have:=(Nx F h.1 (gY h.2.2).1).2 q hq1
   rwa [of_decide_eq_true hq2] at this
 rw [e1,e2,lP]
 by_cases hne:((j0 ls ps S xs).flatMap fun w=>(w.2.gv.filter fun q=>decide (q.1=l.name)).map (·.2))=[]
 ·rw [hne,List.length_nil]
  omega
 ·obtain⟨v,hv⟩:=List.exists_mem_of_ne_nil _ hne
  obtain⟨w,hw,hv⟩:=List.mem_flatMap.mp hv
  obtain⟨q,hq,_⟩:=List.mem_map.mp hv
  obtain⟨hq1,hq2⟩:=List.mem_filter.mp hq
  have hq2:=of_decide_eq_true hq2
  have hf:=(gY (jE hw).2.2).2
  unfold sy at hf
  have nf:w.2.gv.find? (rA ls S)=none:=by
   cases h:w.2.gv.find? (rA ls S) with
   | none=>rfl
   | some z=>rw [h] at hf;cases hf
  have:=List.find?_eq_none.mp nf q hq1
  unfold rA at this
  rw [hq2,Lj F.whole.nod hl] at this
  have:¬l.room<=((S.ev l.name).length:Int) - (S.g l.name:Int):=fun z=>this (decide_eq_true z)
  omega
theorem Uj (p:PD) (h:p.kind <11):inV (.str (cT p.kind)) [.str "give",.str "take"]=decide (p.kind <2):=by
 have:∀i,i <11->(decide (cT i= "give") || decide (cT i= "take"))=decide (i <2):=by decide +kernel
 rw [<-this _ h]
 have n1:¬("give" :Str)= "take" :=by decide +kernel
 by_cases h1:cT p.kind= "give"
 ·simp [inV,JR,h1]
 ·by_cases h2:cT p.kind= "take"
  ·simp [inV,JR,h2]
  ·simp [inV,JR,h1,h2,Ne.symm h1,Ne.symm h2]
theorem KY {H:Hp} {Q:VK} {Ex:XK} {H0:Hp} {r dx n rw:Addr} {ls:List aG} {ps:List PD} {RW:List (Str×Addr×List Int)} (hr:H r=some (.ins t.oY dx [])) (s0:aJ H0 H) (nr:H0 r=none) (N:fO K t H0 n ls ps) (hrw:nZ H0 rw RW) (hO:CW ps RW)
  (k:∀(H':Hp) (A:mG),A.n=n->aJ H0 H'->oO K t H' r 0 A ls ps (fB ls ps RW)->(∀a∈A.f:: A.cells ls ps,H0 a=none)->Q .non H'):jm K t [.ref r,.ref n,.ref rw] H Q Ex:=by
 unfold jm
 exact⟨H0,r,dx,n,rw,ls,ps,RW,rfl,hr,s0,nr,N,hrw,hO,k⟩
theorem Ju {H:Hp} {Q:VK} {Ex:XK} {b n:Nat} {r L:Addr} {A:mG} {ls:List aG} {ps:List PD} {S:FS} {xs:List Str} (R:oO K t H r n A ls ps S) (O:Jt b ls ps S) (hb:b<=90000) (hn:n<=900) (hL:bK K H L (xs.map V.str)) (nL:L∉A.cells ls ps) (hx:∀x∈xs,V.str x∈dH ps "give" ++ dH ps "take")
  (k:∀H' p,aJ (aX (r:: A.cells ls ps) H) (aX (r:: A.cells ls ps) H')->oO K t H' r (n+1) A ls ps (jf ls ps S xs)->H p=none->H' p=some (.lst ((j0 ls ps S xs).map fun w=>V.str w.1.name))->Q (.ref p) H'):mY K t [.ref r,.ref L] H Q Ex:=by
 unfold mY
 exact⟨b,r,n,A,ls,ps,S,L,xs,rfl,R,O,hb,hn,hL,nL,hx,k⟩
theorem oO.same {H H':Hp} {r:Addr} {n:Nat} {A:mG} {ls:List aG} {ps:List PD} {S:FS} (h:oO K t H r n A ls ps S) (s:aJ H H'):oO K t H' r n A ls ps S:=⟨h.run.same s,h.net.same (bY s),h.flow.same s,h.ne⟩
theorem oO.out {H:Hp} {r:Addr} {n:Nat} {A:mG} {ls:List aG} {ps:List PD} {S:FS} (h:oO K t H r n A ls ps S) {a:Addr} (ha:H a=none):a∉r:: A.cells ls ps:=fun z=>by
 rcases List.mem_cons.mp z with rfl | z
 ·obtain⟨_,_,h1,_⟩:=h.run
  rw [ha] at h1
  cases h1.1
 ·exact h.flow.cell ha z
theorem TV {H:Hp} {L P:Addr} {ls:List aG} {ps:List PD} (A:BV H L P ls ps):Hand K H L P ls ps:=by
 obtain⟨⟨x1,x2,x3⟩,⟨y1,y2,y3⟩⟩:=A
 refine⟨⟨x1,bK.of x2,x3.imp fun _ _ h=>?_⟩,⟨y1,bK.of y2,y3.imp fun _ _ h=>?_⟩⟩
 ·obtain⟨q,f,e,h1,h2⟩:=h
  exact⟨q,f,e,h1,.inl (bK.of h2)⟩
 ·obtain⟨q,a1,a2,a3,e,h1,h2,h3,h4⟩:=h
  exact⟨q,a1,a2,a3,e,h1,.inl (bK.of h2),.inl (bK.of h3),.inl (bK.of h4)⟩
theorem TX:∀i,i <11->decide (V.str (cT i)=V.str "give")=decide (i=0):=by decide +kernel
structure RI (ls:List aG) (ps:List PD) (S:FS):Prop where
 kb:∀p∈ps,p.kind=5->0<=S.k p.name/\S.k p.name <1000000000
 k0:∀p∈ps,p.kind≠5->S.k p.name=0
 hk:ZZ ps S
 hg:∀p∈ps,p.kind=5->∀x,p.ins=[x]->S.g x=S.d p.name
 gl:∀l∈ls,S.g l.name<=(S.ev l.name).length
theorem RI.work {b:Nat} {ls:List aG} {ps:List PD} {S:FS} (F:qF ls ps) (h:RI ls ps S) (O:Jt b ls ps S) {p:PD} {dd:iW} (hp:p∈ps) (hd:fK S p=some dd):RI ls ps (kW S p.name dd):=by
 have nd:=F.whole.ins.nodup_iff.mpr F.whole.nod
 obtain⟨hlk,he,edd⟩:=jx hd
 have ekv:dd.kv=gB p.kind (vo S p) (S.k p.name):=by rw [edd]
 have one:∀q∈ps,q.kind=5->∀x,q.ins=[x]->(if x∈dd.tk then S.g x+1 else S.g x)=(if q.name=p.name then S.d q.name+1 else S.d q.name):=fun q hq h5 x ei=>by
  have e:=h.hg q hq h5 x ei
  by_cases hqp:q=p
  ·subst hqp
   have el:(bx S q).length=1:=by unfold bx;rw [lM,ei];rfl
   have ep:places q.kind (bx S q)=[0]:=by unfold places;rw [if_neg (by rw [h5];decide),el];rfl
   rw [if_pos rfl,if_pos (by rw [edd];show x∈(places q.kind (bx S q)).map (strAt q.ins);rw [ep,ei];simp [strAt]),e]
  ·rw [if_neg fun z=>hqp (zB nd hq hp (by rw [ei];simp) (K3 F hp hd z).1),if_neg fun z=>hqp (qw F.pnd hq hp z),e]
 refine⟨fun q hq h5=>?_,fun q hq h5=>?_,fun q hq h5 x ei m em=>?_,fun q hq h5 x ei=>one q hq h5 x ei,fun l hl=>?_⟩
 ·show 0<=(if q.name=p.name then dd.kv else S.k q.name)/\(if q.name=p.name then dd.kv else S.k q.name) <_
  by_cases e:q.name=p.name
  ·have e2:=qw F.pnd hq hp e
   subst e2
   rw [if_pos rfl,ekv]
   unfold gB
   rw [if_pos h5]
   exact⟨Int.emod_nonneg _ (by decide),Int.emod_lt_of_pos _ (by decide)⟩
  ·rw [if_neg e];exact h.kb q hq h5
 ·show(if q.name=p.name then dd.kv else S.k q.name)=0
  by_cases e:q.name=p.name
  ·have e2:=qw F.pnd hq hp e
   subst e2
   rw [if_pos rfl,ekv]
   unfold gB
   rw [if_neg h5]
   exact h.k0 q hq h5
  ·rw [if_neg e];exact h.k0 q hq h5
 ·have hk:=h.hk q hq h5 x ei m em
  have eg:=h.hg q hq h5 x ei
  obtain⟨l,hl,rfl⟩:=F.inL hq (show x∈q.ins ++ q.outs by rw [ei];simp)
  have gl:=h.gl l hl
  show(if q.name=p.name then dd.kv else S.k q.name)=(m+((S.ev l.name ++ (dd.gv.filter fun z=>decide (z.1=l.name)).map (·.2)).take (if q.name=p.name then S.d q.name+1 else S.d q.name)).sum) % 1000000000
  by_cases e:q.name=p.name
  ·have e2:=qw F.pnd hq hp e
   subst e2
   have el:bx S q=[jQ S l.name]:=by unfold bx;rw [ei];rfl
   have ep:places q.kind (bx S q)=[0]:=by unfold places;rw [if_neg (by rw [h5];decide),el];rfl
   obtain⟨y,v,e1,e2,e3⟩:=CK (F.pok q hq) hlk 0 (by rw [ep];simp)
   have ey:y=l.name:=by rw [ei] at e1;simpa using e1.symm
   rw [ey,eg] at e3
   have hlt:=(List.getElem?_eq_some_iff.mp e3).1
   have ws:vo S q=[v]:=by
    unfold vo
    rw [if_neg (by rw [h5];decide),ep]
    show [Vb (((bx S q)[0]?).getD .non)]=[v]
    rw [e2]
    rfl
   rw [if_pos rfl,if_pos rfl,ekv,ws]
   unfold gB
   rw [if_pos h5,hk,List.take_append_of_le_length (by omega),List.take_succ,e3,Option.toList_some,List.sum_append]
   show((m+_) % 1000000000+v) % 1000000000=_
   rw [Int.emod_add_emod,Int.add_assoc]
   simp
  ·rw [if_neg e,if_neg e,hk,List.take_append_of_le_length (by omega)]
 ·show(if l.name∈dd.tk then S.g l.name+1 else S.g l.name)<=(S.ev l.name ++ _).length
  rw [lP]
  have:=h.gl l hl
  split
  ·rename_i z
   have:=(K3 F hp hd z).2
   omega
  ·omega
theorem RI.rch {ls:List aG} {ps:List PD} {m:Nat} (F:qF ls ps) {S T:FS} (r:GF ps m S T):∀{b:Nat},Jt b ls ps S->RI ls ps S->RI ls ps T:=by
 induction r with
 | refl _=>intro b _ h;exact h
 | head hp _ hd _ ih=>intro b O h;exact ih (XJ F O hp hd) (h.work F O hp hd)
theorem RI.turn {b m:Nat} {ls:List aG} {ps:List PD} {S:FS} {xs:List Str} (F:qF ls ps) (O:Jt b ls ps S) (hm:∀p∈ps,S.d p.name <m) (h:RI ls ps S):RI ls ps (jf ls ps S xs):=RI.rch F (Rq (xs:=xs) F hm) O h
theorem RI.start {ls:List aG} {ps:List PD} {RW:List (Str×Addr×List Int)} (F:qF ls ps):RI ls ps (fB ls ps RW):=by
 have e:∀p∈ps,(fB ls ps RW).k p.name=uU p:=fun p hp=>by
  show fD ps p.name=_
  unfold fD
  rw [find_name F.pnd hp]
  rfl
 refine⟨fun p hp h5=>?_,fun p hp h5=>?_,fun p hp h5 x ei m em=>?_,fun _ _ _ _ _=>rfl,fun _ _=>Nat.zero_le _⟩ <;> rw [e p hp] <;> unfold uU
 ·rw [if_pos h5]
  have ok:=F.pok p hp
  obtain⟨m,em⟩:∃m,p.nums=[m]:=List.length_eq_one_iff.mp (by rw [ok.2.1,h5];rfl)
  rw [em]
  exact ok.2.2.2.2 m (by rw [em];simp)
 ·rw [if_neg h5]
 ·rw [if_pos h5,em]
  have ok:=F.pok p hp
  have:=ok.2.2.2.2 m (by rw [em];simp)
  show m=(m+((Lq ls x).take 0).sum) % 1000000000
  rw [List.take_zero,List.sum_nil,Int.add_zero,Int.emod_eq_of_lt this.1 this.2]
theorem Fq {k:Str->Int} {f:PD->List Str} (h:∀p,f (dG k p)=f p):∀{ps:List PD},(ps.map (dG k)).flatMap f=ps.flatMap f
 | []=>rfl
 | p:: r=>by rw [List.map_cons,List.flatMap_cons,List.flatMap_cons,h,Fq h]
theorem Rf {ps:List PD} {k:Str->Int} {x y:Str} (c:Drawn.jJ ps x y):Drawn.jJ (ps.map (dG k)) x y:=by
 induction c with
 | refl x=>exact .refl x
 | @step x y z p hp hx hy _ ih=>
  obtain⟨_,_,k3,k4⟩:=gP k p
  exact .step (p:=dG k p) (List.mem_map.mpr ⟨p,hp,rfl⟩) (by rw [k3,k4];exact hx) (by rw [k3,k4];exact hy) ih
theorem qF.now {b:Nat} {ls:List aG} {ps:List PD} {S:FS} (F:qF ls ps) (h:RI ls ps S) (O:Jt b ls ps S) (rm:∀l∈ls,((S.ev l.name).length:Int) - (S.g l.name:Int)<=l.room):qF (ls.map (rC S)) (ps.map (dG S.k)):=by
 have nm:(ls.map (rC S)).map (·.name)=ls.map (·.name):=by rw [List.map_map];rfl
 have pm:(ps.map (dG S.k)).map (·.name)=ps.map (·.name):=by rw [List.map_map];exact List.map_congr_left fun p _=>(gP S.k p).2.1
 refine⟨fun l hl=>?_,fun p hp=>?_,fun l hl=>?_,fun p hp=>?_,by rw [pm];exact F.pnd,?_,by rw [lM];exact F.l1,by rw [lM];exact F.l24,by rw [lM];exact F.p1,by rw [lM];exact F.p16⟩
 ·obtain⟨l,hm,rfl⟩:=List.mem_map.mp hl
  obtain⟨h1,h2,_,_⟩:=F.lok l hm
  have:=rm l hm
  have gl:=h.gl l hm
  refine⟨h1,h2,?_,fun v hv=>O.vb l hm v (List.mem_of_mem_drop hv)⟩
  show(((S.ev l.name).drop (S.g l.name)).length:Int)<=l.room
  rw [List.length_drop]
  omega
 ·obtain⟨p,hm,rfl⟩:=List.mem_map.mp hp
  obtain⟨o1,o2,o3,o4,o5⟩:=F.pok p hm
  obtain⟨k1,k2,k3,k4⟩:=gP S.k p
  unfold qb
  rw [k1,k3,k4]
  refine⟨o1,?_,o3,o4,fun v hv=>?_⟩
  ·unfold dG
   split
   ·rename_i h5;rw [h5];rfl
   ·exact o2
  ·unfold dG at hv
   split at hv
   ·rename_i h5
    have:v=S.k p.name:=by simpa using hv
    rw [this]
    exact h.kb p hm h5
   ·exact o5 v hv
 ·obtain⟨l,hm,rfl⟩:=List.mem_map.mp hl
  exact F.lnm l hm
 ·obtain⟨p,hm,rfl⟩:=List.mem_map.mp hp
  rw [(gP S.k p).2.1]
  exact F.pnm p hm
 ·rw [nm]
  have ei:(ps.map (dG S.k)).flatMap (·.ins)=ps.flatMap (·.ins):=Fq fun p=>(gP S.k p).2.2.1
  have eo:(ps.map (dG S.k)).flatMap (·.outs)=ps.flatMap (·.outs):=Fq fun p=>(gP S.k p).2.2.2
  obtain⟨y,hy⟩:=F.whole.hang
  refine⟨F.whole.nod,by rw [eo];exact F.whole.outs,by rw [ei];exact F.whole.ins,y,fun q hq=>?_⟩
  obtain⟨p,hm,rfl⟩:=List.mem_map.mp hq
  obtain⟨x,hx,c⟩:=hy p hm
  refine⟨x,?_,?_⟩
  ·obtain⟨_,_,k3,k4⟩:=gP S.k p
   rw [k3,k4]
   exact hx
  ·exact Rf c
structure FJ (ls:List aG) (ps:List PD) (o:Str->List Int) (d0:Str->Nat) (S S':FS):Prop where
 ev:∀l∈ls,S.ev l.name=o l.name ++ S'.ev l.name
 g:∀l∈ls,S.g l.name=(o l.name).length+S'.g l.name
 k:∀p∈ps,S.k p.name=S'.k p.name
 r:∀p∈ps,p.kind=0->S'.r p.name=(S.r p.name).drop (d0 p.name)/\d0 p.name<=(S.r p.name).length
 d:∀p∈ps,S.d p.name=d0 p.name+S'.d p.name
theorem FJ.head {ls:List aG} {ps:List PD} {o:Str->List Int} {d0:Str->Nat} {S S':FS} (h:FJ ls ps o d0 S S') {l:aG} (hl:l∈ls):jQ S l.name=jQ S' l.name:=by
 unfold jQ
 rw [h.ev l hl,h.g l hl,List.getElem?_append_right (Nat.le_add_right _ _),Nat.add_sub_cancel_left]
theorem FJ.deed {ls:List aG} {ps:List PD} {o:Str->List Int} {d0:Str->Nat} {S S':FS} (F:qF ls ps) (h:FJ ls ps o d0 S S') (k0:Str->Int) {p:PD} (hp:p∈ps):fK S' (dG k0 p)=fK S p:=by
 obtain⟨k1,k2,k3,k4⟩:=gP k0 p
 have eh:bx S' (dG k0 p)=bx S p:=by
  unfold bx
  rw [k3]
  refine List.map_congr_left fun x hx=>?_
  obtain⟨l,hl,rfl⟩:=F.inL hp (List.mem_append.mpr (.inl hx))
  exact(h.head hl).symm
 have hd:=h.d p hp
 have ee:yD S' (dG k0 p)=yD S p:=by
  unfold yD
  rw [k1,k2]
  by_cases h0:p.kind=0
  ·obtain⟨e1,e2⟩:=h.r p hp h0
   rw [e1,List.length_drop,hd]
   congr 1
   exact decide_eq_decide.mpr (by omega)
  ·rw [decide_eq_false h0,Bool.false_and,Bool.false_and]
 have ew:vo S' (dG k0 p)=vo S p:=by
  unfold vo
  rw [k1,k2,eh]
  by_cases h0:p.kind=0
  ·obtain⟨e1,e2⟩:=h.r p hp h0
   rw [if_pos h0,if_pos h0,e1,List.getElem?_drop,hd]
  ·rw [if_neg h0,if_neg h0]
 have eo:∀ws k,cU p.kind (dG k0 p).nums ws k=cU p.kind p.nums ws k:=fun ws k=>by
  unfold dG
  split
  ·rename_i h5
   rw [h5]
   rfl
  ·rfl
 unfold fK
 rw [k1,k2,k3,k4,eh,ee,ew,eo,h.k p hp]
theorem Ri (ls:List aG) (S:FS) (x:Str):roomF (ls.map (rC S)) x=roomF ls x:=by
 unfold roomF
 rw [List.find?_map]
 cases e:ls.find? ((fun l=>decide (l.name=x))∘rC S) with
 | none=>rw [show ls.find? (fun l=>decide (l.name=x))=none from e];rfl
 | some l=>rw [show ls.find? (fun l=>decide (l.name=x))=some l from e];rfl
theorem FJ.next {ls:List aG} {ps:List PD} {o:Str->List Int} {d0:Str->Nat} {S S':FS} (F:qF ls ps) (h:FJ ls ps o d0 S S') (S0:FS) {p:PD} (hp:p∈ps):gO (ls.map (rC S0)) S' (dG S0.k p)=gO ls S p:=by
 unfold gO
 rw [h.deed F S0.k hp]
 cases hd:fK S p with
 | none=>rfl
 | some dd=>
  have ok:=zU F hp hd
  have:sy (ls.map (rC S0)) S' dd=sy ls S dd:=by
   have ef:dd.gv.find? (rA (ls.map (rC S0)) S')=dd.gv.find? (rA ls S):=by
    have:∀q∈dd.gv,rA (ls.map (rC S0)) S' q=rA ls S q:=fun q hq=>by
     obtain⟨l,hl,el⟩:=List.mem_map.mp (ok.gin q hq)
     unfold rA
     rw [Ri,<-el,h.ev l hl,h.g l hl,lP]
     congr 1
     apply propext
     omega
    revert this
    generalize dd.gv=gv
    intro this
    induction gv with
    | nil=>rfl
    | cons a r ih=>
     rw [List.find?_cons,List.find?_cons,this a (.head _),ih fun q hq=>this q (.tail _ hq)]
   unfold sy
   rw [ef]
  show(if sy (ls.map (rC S0)) S' dd=.non then some dd else none)=if sy ls S dd=.non then some dd else none
  rw [this]
theorem FJ.due {ls:List aG} {ps:List PD} {o:Str->List Int} {d0:Str->Nat} {S S':FS} (F:qF ls ps) (h:FJ ls ps o d0 S S') (S0:FS) (xs:List Str):j0 (ls.map (rC S0)) (ps.map (dG S0.k)) S' xs=(j0 ls ps S xs).map fun w=>(dG S0.k w.1,w.2):=by
 unfold j0
 have key:∀qs:List PD,(∀p∈qs,p∈ps)->((qs.map (dG S0.k)).filter (kj xs)).filterMap (fun p=>(gO (ls.map (rC S0)) S' p).map fun dd=>(p,dd))=((qs.filter (kj xs)).filterMap fun p=>(gO ls S p).map fun dd=>(p,dd)).map fun w=>(dG S0.k w.1,w.2):=fun qs=>by
  induction qs with
  | nil=>intro _;rfl
  | cons p r ih=>
   intro hq
   have ihr:=ih fun p' hp'=>hq p' (.tail _ hp')
   have ef:kj xs (dG S0.k p)=kj xs p:=by unfold kj;rw [(gP S0.k p).2.1]
   have en:=h.next F S0 (hq p (.head _))
   rw [List.map_cons,List.filter_cons,List.filter_cons,ef]
   cases kj xs p with
   | false=>exact ihr
   | true=>
    rw [if_pos rfl,if_pos rfl,List.filterMap_cons,List.filterMap_cons,en]
    cases gO ls S p with
    | none=>exact ihr
    | some dd=>
     show(dG S0.k p,dd):: _=(dG S0.k p,dd):: _
     rw [ihr]
 exact key ps fun _ h=>h
theorem FJ.do {ls:List aG} {ps:List PD} {o:Str->List Int} {d0:Str->Nat} {S S':FS} (h:FJ ls ps o d0 S S') (x:Str) (dd:iW):FJ ls ps o d0 (kW S x dd) (kW S' x dd):=by
 refine⟨fun l hl=>?_,fun l hl=>?_,fun p hp=>?_,h.r,fun p hp=>?_⟩
 ·show S.ev l.name ++ _=o l.name ++ (S'.ev l.name ++ _)
  rw [h.ev l hl,List.append_assoc]
 ·show(if l.name∈dd.tk then S.g l.name+1 else S.g l.name)=_+if l.name∈dd.tk then S'.g l.name+1 else S'.g l.name
  have:=h.g l hl
  split <;> omega
 ·show(if p.name=x then dd.kv else S.k p.name)=if p.name=x then dd.kv else S'.k p.name
  rw [h.k p hp]
 ·show(if p.name=x then S.d p.name+1 else S.d p.name)=_+if p.name=x then S'.d p.name+1 else S'.d p.name
  have:=h.d p hp
  split <;> omega
theorem FJ.all {ls:List aG} {ps:List PD} {o:Str->List Int} {d0:Str->Nat} (k0:Str->Int):∀{ws:List (PD×iW)} {S S':FS},FJ ls ps o d0 S S'->FJ ls ps o d0 (ir S ws) (ir S' (ws.map fun w=>(dG k0 w.1,w.2)))
 | [],_,_,h=>h
 | w:: r,S,S',h=>by
  have e:(dG k0 w.1).name=w.1.name:=(gP k0 w.1).2.1
  show FJ ls ps o d0 (ir (kW S w.1.name w.2) r) (ir (kW S' (dG k0 w.1).name w.2) (r.map fun w=>(dG k0 w.1,w.2)))
  rw [e]
  exact FJ.all k0 (h.do w.1.name w.2)
theorem FJ.turn {ls:List aG} {ps:List PD} {o:Str->List Int} {d0:Str->Nat} {S S':FS} (F:qF ls ps) (h:FJ ls ps o d0 S S') (S0:FS) (xs:List Str):FJ ls ps o d0 (jf ls ps S xs) (jf (ls.map (rC S0)) (ps.map (dG S0.k)) S' xs):=by
 unfold jf
 rw [h.due F S0 xs]
 exact FJ.all S0.k h
theorem oO.cut {H:Hp} {r:Addr} {n:Nat} {A:mG} {ls:List aG} {ps:List PD} {S:FS} {E:List Addr} (h:oO K t H r n A ls ps S) (hr:r∉E) (hf:A.f∉E) (hc:∀a∈A.cells ls ps,a∉E) (hn:fO K t (aX (r:: A.cells ls ps) (aX E H)) A.n ls ps):oO K t (aX E H) r n A ls ps S:=by
 obtain⟨⟨dx,fs,⟨h1,h2⟩,h3⟩,_,W,ne⟩:=h
 have me:=W.nod
 have c:=fun a ha=>hc a ha
 refine⟨⟨dx,fs,⟨bH h1 hr,h2⟩,h3⟩,hn,⟨?_,bH W.ever (hc _ ?_),fun l hl=>bH (W.lists l hl) (hc _ ?_),bH W.gone (hc _ ?_),bH W.kept (hc _ ?_),bH W.done (hc _ ?_),bH W.rows (hc _ ?_),fun p hp h0=>bH (W.rlst p hp h0) (hc _ ?_),W.nod⟩,ne⟩
 ·obtain⟨dx,fs,e1,e2⟩:=W.at'
  exact⟨dx,fs,bH e1 hf,e2⟩
 all_goals unfold mG.cells;simp only [List.mem_cons,List.mem_append,List.mem_map,true_or,or_true]
 ·exact .inr (.inr (.inr (.inr (.inr (.inl ⟨l,hl,rfl⟩)))))
 ·exact .inr (.inr (.inr (.inr (.inr (.inr ⟨p,List.mem_filter.mpr ⟨hp,by simp [h0]⟩,rfl⟩)))))
theorem J2 {E E':List Addr} {H:Hp}:aX E (aX E' H)=aX E' (aX E H):=by
 funext b
 unfold aX
 by_cases h1:b∈E <;> by_cases h2:b∈E' <;> simp [h1,h2]
theorem fO.off {H:Hp} {n r C dx:Addr} {fs:List (Str×V)} {v:V} {ls:List aG} {ps:List PD} (N:fO K t H n ls ps) (hr:H r=some (.ins C dx fs)) (hl:fs.lookup ("net" :Str)=some v) (hn:n≠r):fO K t (aX [r] H) n ls ps:=by
 obtain⟨dxn,fsn,R,F,Pd,G,Tk,FL,PL,W⟩:=N
 have g1:∀{b:Addr} {u:HO},H b=some u->(∀C dx fs,u≠.ins C dx fs)->aX [r] H b=some u:=fun {b u} e h=>bH e (by simp;intro z;rw [z,hr] at e;exact h _ _ _ (Option.some.inj e).symm)
 have g3:∀{b:Addr} {xs:List V},fC K H b xs->fC K (aX [r] H) b xs:=fun h=>by
  rcases h with (h | ⟨o,h⟩) | h
  ·exact .inl (.inl (g1 h (by intro _ _ _ z;cases z)))
  ·exact .inl (.inr ⟨o,g1 h (by intro _ _ _ z;cases z)⟩)
  ·exact .inr h
 have nd:∀{k:List (Key×V)} (C dx fs),HO.dK k≠.ins C dx fs:=by intro _ _ _ _ z;cases z
 refine⟨dxn,fsn,R,F,Pd,G,Tk,FL,PL,bH W.obj (by simpa using hn),W.fl,g1 W.rooms nd,g1 W.firsts nd,g1 W.parts nd,g1 W.givers nd,g1 W.takers nd,W.fls,W.pls,fun q hq=>g3 (W.tups q hq),fun q hq=>?_,W.fit,W.neRF⟩
 obtain⟨dx',tn,ti,to,h1,h2,h3,h4⟩:=W.pats q hq
 refine⟨dx',tn,ti,to,bH h1 ?_,g3 h2,g3 h3,g3 h4⟩
 simp
 intro z
 rw [z,hr] at h1
 injection h1 with h1
 injection h1 with _ _ h1
 rw [h1,show(Cu (V.str q.1.name) tn ti to).lookup ("net" :Str)=none from mK _ _ _ _ (by decide +kernel) (by decide +kernel) (by decide +kernel) (by decide +kernel)] at hl
 cases hl
theorem dO.kinds {H:Hp} {A:mG} {ls:List aG} {ps:List PD} {S:FS} (h:dO K t H A ls ps S) {a:Addr} (ha:a∈A.cells ls ps):(∃k,H a=some (.dK k))∨∃x,H a=some (.lst x):=by
 unfold mG.cells at ha
 simp only [List.mem_cons,List.mem_append,List.mem_map] at ha
 rcases ha with rfl | rfl | rfl | rfl | rfl | ⟨l,hl,rfl⟩ | ⟨p,hp,rfl⟩
 ·exact .inl ⟨_,h.ever⟩
 ·exact .inl ⟨_,h.gone⟩
 ·exact .inl ⟨_,h.kept⟩
 ·exact .inl ⟨_,h.done⟩
 ·exact .inl ⟨_,h.rows⟩
 ·exact .inr ⟨_,h.lists l hl⟩
 ·have hf:=List.mem_filter.mp hp
  exact .inr ⟨_,h.rlst p hf.1 (by simpa using hf.2)⟩
inductive Em (K:PySem.W.Frag) (vs:List V) (H:Hp) (Q:VK) (E:XK):Prop where
 | mk:∀(a:Addr) (ns:List Int),vs=[.ref a]->bK K H a (ns.map V.int)->ns.length<=63->(∀H',Q (.bl true) H')->Em K vs H Q E
noncomputable abbrev Sx:List Str:=["_law_script", "_law_lanes", "_law_parts", "_law_rows", "_law_run", "_law_doors_here", "_law_cells", "_law_at", "_law_cell_here", "_law_net_one", "_law_left", "_law_due_here", "_law_name", "_law_gone", "_law_room", "_law_first", "_law_other", "_law_held_here"]
theorem V4 (T:Txt w K mg t):FO P w K mg base 9 t.VG ["_law_script"] (Em K):=by
 have sc:=T.N6.sc Sx
 refine T.N6.F.ok sc ln (fun _ _ _ _ H vs Q E hr h=>?_)
 obtain⟨a,ns,rfl,hS,hl,k⟩:=h
 refine⟨_,(az (Wy (fj (KD T) T.yh hr (aa (pv 0) (aa au (aa au (aa lH ak aq) aq) aq) aj)) (tE rfl (bU (gN sc 1) (bU (gN sc 2) jH))))
  (az (sN sc 3 (fj (Gj T) T.tK hr (aa (pv 0) (aa (pv 2) (aa au ak aq) aj) aj)))
  (az (sN sc 4 (gj (T.bB.M T.ie) (uA T) (hr.mono (by decide)) (by rfl) T.bB.m T.ie.b .nil fQ (aa (gj (T.aU.M T.iC) (uz T) (hr.mono (by decide)) (by rfl) T.aU.m T.iC.b .nil fQ (aa (pv 1) (aa (pv 2) ak aj) aj)) (aa (pv 3) ak aj) aO)))
  (az (jg (i:=5) [] Sx (bc (top 81)) rfl sc.nd rfl (b8 (pv 2)) (fun _ _ _ _ _=>(vV (bF (M9 (K:=K) rfl) (bf (gw (K:=K) rfl) (pv 0) au (fun _ _=>rfl)) (cB (aa bW (aa bW ak aq) aq)) (by with_unfolding_all rfl)))) (fun _ _ _ _ _=>(bf (gw (K:=K) rfl) (pv 0) au (fun _ _=>rfl))))
  (az (sN sc 6 (ji mQ (pv 0) (jK au) (jK au)))
  (az (sN sc 7 (bA cH (fj (bz T) T.bC hr (aa (fj (iU T) T.gA hr (aa (pv 0) (aa au ak aq) aj)) (aa au ak aq) aO)) (bA eQ (bG cz (by rfl) T.gh dY (aa (pv 6) ak aj)) au)))
  (az (d7 PassesOwn.never rfl (b8 (ji mQ (pv 6) kZ (jK (pv 7)))) (gN sc 8)
   (aA (bN (Cy (pv 4) T.bB.c (T.jZ.me T.bB.me.2.2.2.2.1) (uW T) (hr.mono (by decide)) T.jZ.b .nil fQ (aa (fj (yR T) T.uN hr (aa (pv 0) (aa (pv 5) (aa (pv 8) (aa au ak aq) aj) aj) aj)) ak aO)))))
  (az (sN sc 9 (J5 (pv 4) T.bB T.bB.me.2.2.2.2.2.2.2.2.2.2.2.1 (Fg T) T.rM hr))
  (az (sN sc 10 (J5 (pv 4) T.bB T.bB.me.2.2.2.2.2.2.2.2.2.1 (Av T) T.oU hr))
  (az (sN sc 11 (fj (Lf T) T.ye hr (aa (pv 4) (aa (pv 1) (aa (pv 2) ak aj) aj) aj)))
  (az (cC (PW.pt (wB (bF (z9 hr.units) (fj (xm T) T.pC hr (aa (J5 (pv 9) T.aU T.aU.me.2.2.2.2.2.2.2.2.2.2.1 (BX T) T.ug hr) ak aO)) (pv 11) (bR _)) (qm (bF (z9 hr.units) (bG (Nh rfl) (by rfl) T.JW GZ (aa (pv 10) ak aj)) (bG LC (by rfl) T.JW GZ (aa (gZ [] Sx (bc (top 81)) rfl (b8 (pv 2)) (fun _ _ _ _ _=>(vV (bF iw (bf (gw (K:=K) rfl) (pv 0) au (fun _ _=>rfl)) bW (bR _)))) (fun _ _ _ _ _=>(bf (gw (K:=K) rfl) (pv 0) au (fun _ _=>rfl)))) ak dX)) (bR _)))))
   (aA (aN lH))
   bL)
  (az (mX (H0:=H) rfl (d7 PassesOwn.never rfl (o7 (pv 10)) (gN sc 12)
   (aA (cC (bF (z9 hr.units) (cG hr.u1 (pv 10) (pv 12) (fun _ _=>rfl)) (ji mQ (Le hr.u1 (pv 3) (pv 12) (bM ak) ⟨rfl,rfl,rfl,rfl⟩) (jK (tD (pv 4) T.bB T.bB.me.2.2.2.2.2.1 (zf T) T.qN hr (aa (pv 12) ak aj))) kZ) (bR _))
    (aA (Ud (H0:=H) rfl (aN lH)))
    bL))))
  (az (sN sc 13 il)
  (az (d7 PassesOwn.never rfl (b8 (pv 1)) (tE rfl (bU (gN sc 12) (bU (gN sc 14) (bU (gN sc 15) jH))))
   (aA (gU hr.u1 (pv 13) (pv 12) (bA Es (bG cz (by rfl) T.gh dY (aa (tD (pv 4) T.bB T.bB.me.2.2.2.2.2.2.2.2.1 (tM T) T.pP hr (aa (pv 12) ak aj)) ak aO)) (bG cz (by rfl) T.gh dY (aa (tD (pv 4) T.bB T.bB.me.2.2.2.2.2.2.1 (jn T) T.fX hr (aa (pv 12) ak aj)) ak aO))) rfl)))
  (az (sN sc 16 (gj (T.bB.M T.ie) (uA T) (hr.mono (by decide)) (by rfl) T.bB.m T.ie.b .nil fQ (aa (pv 9) (aa (pv 10) ak aj) aj)))
  (az (mX (H0:=H) rfl (d7 PassesOwn.never rfl (o7 (pv 10)) (gN sc 12)
   (aA (bN (IK (cG hr.u1 (pv 10) (pv 12) (fun _ _=>rfl)) (aa au ak aq))))))
  (az (d7 PassesOwn.never rfl (b8 (ji mQ (pv 6) (jK (pv 7)) kZ)) (gN sc 8)
   (az (sN sc 17 (fj (yR T) T.uN hr (aa (pv 0) (aa (pv 5) (aa (pv 8) (aa au ak aq) aj) aj) aj)))
   (aA (cC (PW.pt (wB (bF (z9 hr.units) (Cy (pv 4) T.bB.c (T.jZ.me T.bB.me.2.2.2.2.1) (uW T) (hr.mono (by decide)) T.jZ.b .nil fQ (aa (pv 17) ak aj)) (Cy (pv 16) T.bB.c (T.jZ.me T.bB.me.2.2.2.2.1) (uW T) (hr.mono (by decide)) T.jZ.b .nil fQ (aa (pv 17) ak aj)) (bR _)) (qm (lV (lg (fj (Ge T) T.ut hr (aa (pv 4) (aa (pv 16) (aa (pv 1) (aa (pv 13) ak aj) aj) aj) aj)))))))
    (aA (aN lH))
    bL))))
  (aA (aN (yq (uq (WX hr.units) (fj (xm T) T.pC hr (aa (J5 (pv 9) T.aU T.aU.me.2.2.2.2.2.2.2.2.2.2.1 (BX T) T.ug hr) ak aO)) (pv 11) (bR _)) (yd (uq iw (J5 (pv 16) T.bB T.bB.me.2.2.2.2.2.2.2.1 (J3 T) T.ym hr) (bA Es (bG cz (by rfl) T.gh dY (aa (pv 6) ak aj)) (pv 7)) (bR _))))))))))))))))))))))),?_⟩
 have hz:sizeLine=16777216:=sizeLine_eq
 refine⟨_,rfl,a,ns,3,4,true,rfl,hS,by decide,fun T' L P ls ps H2 s2 nL nP nLP eT A D=>?_⟩
 refine⟨T',_,rfl,fC.of eT,rfl,_,_,rfl,_,_,rfl,rfl,?_⟩
 have F:=D.fit
 clear eT nL nP nLP D
 have p16:=F.p16
 have l24:=F.l24
 obtain⟨⟨xs,eL,aL⟩,⟨ys,eP,aP⟩⟩:=id A
 have yl:=aP.length
 refine⟨_,rfl,_,rfl,a,P,ns,ys,ps,30,rfl,s2.seq hS,eP,aP,p16,by decide,fun H4 d RW s4 nd hR4 lR=>?_⟩
 refine⟨_,rfl,_,rfl,fun n dxn nn ndn nen=>?_⟩
 have gn:aJ H4 (upd (upd H4 dxn (.own n)) n (.ins t.dR dxn [])):=fun b o e=>by rw [aH (aD e nn),aH (aD e ndn)];exact e
 have en:upd (upd H4 dxn (.own n)) n (.ins t.dR dxn []) n=some (.ins t.dR dxn []):=ao
 generalize upd (upd H4 dxn (.own n)) n (.ins t.dR dxn [])=Hn at gn en ⊢
 refine⟨n,dxn,L,P,ls,ps,rfl,en,TV (A.same (s4.trans gn)),F,fun H5 b5 N5=>⟨rfl,?_⟩⟩
 have s45:aJ H4 H5:=fun b o e=>b5 b o (aD e nn) (gn b o e)
 have s25:=s4.trans s45
 have hR5:=hR4.at'.same s45
 have hO4:CW ps RW:=⟨hR4.door,hR4.bnd⟩
 refine⟨_,rfl,fun r dxr nr ndr ner=>?_⟩
 have gr:aJ H5 (upd (upd H5 dxr (.own r)) r (.ins t.oY dxr [])):=fun b o e=>by rw [aH (aD e nr),aH (aD e ndr)];exact e
 refine KY ao gr nr N5.s hR5 hO4 fun H6 Z eZ s6 R6 fr6=>⟨rfl,?_⟩
 have eA:∀a∈r:: Z.cells ls ps,H5 a=none:=fun a ha=>by
  rcases List.mem_cons.mp ha with rfl | h
  ·exact nr
  ·exact fr6 a (.tail _ h)
 have s56:aJ H5 (aX (r:: Z.cells ls ps) H6):=fun b o e=>bH (s6 _ _ e) fun z=>by rw [eA b z] at e;cases e
 have s26:=s25.trans s56
 have hRC:=hR5.same s56
 have O6:=Hq F hR4.at'.len hR4.bnd
 have I6:RI ls ps (fB ls ps RW):=RI.start F
 have rm6:∀l∈ls,(((fB ls ps RW).ev l.name).length:Int) - ((fB ls ps RW).g l.name:Int)<=l.room:=fun l hl=>by
  rw [show(fB ls ps RW).ev l.name=l.first from vy F.whole.nod hl]
  show(l.first.length:Int) - ((0:Nat):Int)<=l.room
  have:=(F.lok l hl).2.2.1
  omega
 have d6:∀x,(fB ls ps RW).d x<=0:=fun _=>Nat.le_refl _
 have r6:(fB ls ps RW).r=qH RW:=rfl
 generalize fB ls ps RW=S0 at R6 O6 I6 rm6 d6 r6
 have sB:aJ H2 (aX (r:: Z.cells ls ps) H6):=s26
 clear N5 gr gn en b5 s45 s25 s4 nd hR5 hR4 s56 s6 fr6
 have eP6:=s26 _ _ eP
 refine⟨_,rfl,P,rfl,⟨_,bK.of (bu _ _ eP6)⟩,fW (K:=K) (a:=P) (xs:=ys) (fun j ys H'=>aJ H6 H'/\ys=((ps.take j).filter fun p=>decide (p.kind <2)).map fun p=>V.str p.name) (by omega) ⟨aJ.refl _,rfl⟩ (fun j ys H' h=>by rw [h.2,lM];exact Nat.le_trans (List.length_filter_le _ _) (by rw [List.length_take];omega)) (fun j ys H' _ h=>h.1.seq (bK.of (bu _ _ eP6))) ?_ ?_⟩
 ·rintro j x ys H9 hx ⟨s9,rfl⟩
  obtain⟨p,hpj,q,a1,a2,a3,rfl,hq,_⟩:=aP.get hx
  have hq9:=s9 _ _ (bu _ _ (s26 _ _ hq))
  refine⟨_,rfl,q,_,0,_,rfl,rfl,fC.of hq9,aM (j:=0) rfl,jt,fun u nu=>⟨u,_,rfl,.inr (fC.of ao),rfl,by simp [qC],_,rfl,?_⟩⟩
  have t9:=aB (o:=.tup [.str "give",.str "take"]) nu
  rw [Uj p (F.pok p (List.mem_of_getElem? hpj)).1,List.take_succ,hpj,Option.toList_some,List.filter_append,List.map_append,List.filter_cons]
  by_cases h2:p.kind <2
  ·rw [decide_eq_true h2]
   exact kJ ⟨_,rfl,q,_,1,_,rfl,rfl,fC.of (t9 _ _ hq9),aM (j:=1) rfl,s9.trans t9,rfl⟩
  ·rw [decide_eq_false h2]
   exact fu ⟨s9.trans t9,by simp⟩
 rintro zs H9 ⟨s9,rfl⟩ Ld nLd
 rw [yl,List.take_length]
 obtain⟨ds,hds⟩:∃ds:List Str,ds=(ps.filter fun p=>decide (p.kind <2)).map fun p=>p.name:=⟨_,rfl⟩
 have lds:ds.length<=16:=by rw [hds,lM];exact Nat.le_trans (List.length_filter_le _ _) p16
 have dds:∀x∈ds,V.str x∈dH ps "give" ++ dH ps "take" :=fun x hx=>by
  rw [hds] at hx
  obtain⟨p,hp,rfl⟩:=List.mem_map.mp hx
  obtain⟨hp,h2⟩:=List.mem_filter.mp hp
  have h2:=of_decide_eq_true h2
  refine List.mem_append.mpr ?_
  have:p.kind=0∨p.kind=1:=by omega
  rcases this with h | h
  ·exact .inl (List.mem_map.mpr ⟨p,List.mem_filter.mpr ⟨hp,by rw [h];rfl⟩,rfl⟩)
  ·exact .inr (List.mem_map.mpr ⟨p,List.mem_filter.mpr ⟨hp,by rw [h];rfl⟩,rfl⟩)
 have mds:((ps.filter fun p=>decide (p.kind <2)).map fun p=>V.str p.name)=ds.map V.str:=by rw [hds,List.map_map];rfl
 rw [mds]
 clear mds hds
 have t10:=s9.trans (aB (o:=.lst (ds.map V.str)) nLd)
 have eLd:upd H9 Ld (.lst (ds.map V.str)) Ld=some (.lst (ds.map V.str)):=ao
 have nLd6:=s9.free nLd
 generalize upd H9 Ld (.lst (ds.map V.str))=H10 at t10 eLd ⊢
 have hSC:=(s2.trans s26).seq hS
 refine⟨_,rfl,_,rfl,_,rfl,a,_,rfl,(bu.trans t10).seq hSC,fun Lc nLc=>?_⟩
 obtain⟨cs,ecs,lcs⟩:∃cs:List Int,yp (ns.map V.int) (some 10) (some 63)=cs.map V.int/\cs.length<=53:=by
  refine⟨(ns.drop (min 10 ns.length)).take (min 63 ns.length - min 10 ns.length),(SX (ns.map V.int) 10 63).trans ?_,?_⟩
  ·rw [List.map_take,List.map_drop,lM]
  ·rw [List.length_take];omega
 rw [ecs]
 have t11:=t10.trans (aB (o:=.lst (cs.map V.int)) nLc)
 have eLc:upd H10 Lc (.lst (cs.map V.int)) Lc=some (.lst (cs.map V.int)):=ao
 have eLd11:=aB (o:=.lst (cs.map V.int)) nLc _ _ eLd
 have nLc6:=t10.free nLc
 generalize upd H10 Lc (.lst (cs.map V.int))=H11 at t11 eLc eLd11 ⊢
 refine⟨_,rfl,a,ns,2,rfl,(bu.trans t11).seq hSC,_,_,rfl,_,rfl,_,cs.length,rfl,.inl ⟨_,bK.of eLc,by rw [lM]⟩,_,_,rfl,rfl,_,_,rfl,rfl,by show(0:Int) <(cs.length:Int)+1;omega,?_⟩
 obtain⟨at0,hat,hat1⟩:∃m:Nat,cJ (jU ns 2) 0 % ((cs.length:Int)+1)=(m:Int)/\m<=cs.length:=by
  have h0:=Int.emod_nonneg (cJ (jU ns 2) 0) (show(cs.length:Int)+1≠0 by omega)
  have h1:=Int.emod_lt_of_pos (cJ (jU ns 2) 0) (show(0:Int) <(cs.length:Int)+1 by omega)
  exact⟨(cJ (jU ns 2) 0 % ((cs.length:Int)+1)).toNat,by omega,by omega⟩
 dsimp only
 rw [hat]
 refine⟨_,rfl,_,rfl,_,rfl,Lc,_,rfl,bK.of eLc,fun La nLa=>⟨La,rfl,⟨_,bK.of ao⟩,?_⟩⟩
 rw [J8,<-List.map_take]
 have t7:=t11.trans (aB (o:=.lst ((cs.take at0).map V.int)) nLa)
 have R7:=R6.same t7
 have tA:=aB (o:=.lst ((cs.take at0).map V.int)) nLa
 have eLa:aX (r:: Z.cells ls ps) (upd H11 La (.lst ((cs.take at0).map V.int))) La=some (.lst ((cs.take at0).map V.int)):=bH ao (R6.out (t11.free nLa))
 have eLcC:aX (r:: Z.cells ls ps) (upd H11 La (.lst ((cs.take at0).map V.int))) Lc=some (.lst (cs.map V.int)):=bH (tA _ _ eLc) (R6.out nLc6)
 have eLdC:aX (r:: Z.cells ls ps) (upd H11 La (.lst ((cs.take at0).map V.int))) Ld=some (.lst (ds.map V.str)):=bH (tA _ _ eLd11) (R6.out nLd6)
 have c7:=bY (E:=r:: Z.cells ls ps) t7
 have hSC7:=c7.seq hSC
 have AC7:=(A.same s26).same c7
 have hRC7:=hRC.same c7
 have sB:=sB.trans c7
 generalize upd H11 La (.lst ((cs.take at0).map V.int))=H7 at t7 R7 eLa eLcC eLdC c7 hSC7 AC7 hRC7 sB ⊢
 obtain⟨C,hC⟩:∃C,C=aX (r:: Z.cells ls ps) H7:=⟨_,rfl⟩
 rw [<-hC] at eLa eLcC eLdC hSC7 AC7 hRC7 sB
 clear c7 t11 t10 s9 eLd11 eLc eLd hSC hRC eP6 eP aP yl ys s26 eL aL xs nLd6 nLc6
 obtain⟨⟨xs,eL,aL⟩,⟨ys,eP,aP⟩⟩:=id AC7
 refine d8 (K:=K) (a:=La) (xs:=(cs.take at0).map V.int) (fun j σ H'=>∃S,(∃v8,σ=[some (.ref a),some (.ref L),some (.ref P),some (.ref d),some (.ref r),some (.ref Ld),some (.ref Lc),some (.int (at0:Nat)),v8,none,none,none,none,none,none,none,none,none])/\oO K t H' r j Z ls ps S/\aJ C (aX (r:: Z.cells ls ps) H')/\Jt (199+32 * j) ls ps S/\RI ls ps S/\(∀l∈ls,((S.ev l.name).length:Int) - (S.g l.name:Int)<=l.room)/\(∀x,S.d x<=j)/\S.r=qH RW) ⟨S0,⟨none,rfl⟩,R7,by rw [hC];exact aJ.refl _,O6,I6,rm6,d6,r6⟩ (fun j σ H' _ ⟨_,_,_,sC,_⟩=>bK.of (bu _ _ (sC _ _ eLa))) ?_ ?_
 ·rintro j x σ H8 hx ⟨S,⟨v8,rfl⟩,R8,sC,O,I8,rm,dj,r8⟩
  rw [List.getElem?_map] at hx
  obtain⟨c,hc,rfl⟩:=Option.map_eq_some_iff.mp hx
  have hj:=(List.getElem?_eq_some_iff.mp hc).1
  rw [List.length_take] at hj
  have nx:=sC.trans bu
  obtain⟨dxr,fsr,R0⟩:=id R8.run
  refine⟨_,rfl,r,dxr,fsr,rfl,R0.1.1,R0.2.no _ (by decide +kernel),_,rfl,_,rfl,_,rfl,a,Ld,ns,ds,c,5,rfl,nx.seq hSC7,bK.of (nx _ _ eLdC),lds,by decide,fun H9 Lh zs sh nLh eLh hxs=>?_⟩
  refine Ju (R8.same sh) O (by omega) (by omega) (bK.of eLh) (R8.flow.cell nLh) (fun x hx=>dds x (hxs x hx)) fun H10 p c10 R10 np ep=>?_
  have O10:=Jr F O zs
  refine⟨jf ls ps S zs,⟨_,rfl⟩,R10,(sC.trans (bY sh)).trans c10,by rw [show 199+32 * (j+1)=199+32 * j+32 by omega];exact O10,I8.turn (m:=j+1) F O (fun p _=>by have:=dj p.name;omega),Pb (xs:=zs) F rm,fun x=>Nat.le_trans (Wu F x) (by have:=dj x;omega),?_⟩
  show(ir S _).r=_
  rw [yS]
  exact r8
 rintro σ H8 ⟨S,⟨v8,rfl⟩,R8,sC,O,I8,rm,dj,r8⟩
 rw [lM,List.length_take,Nat.min_eq_left hat1] at R8 O dj
 have R8n:=R8.netH
 have n8:=sC.trans bu
 obtain⟨E1,hE1⟩:∃E1,E1=r:: Z.cells ls ps:=⟨_,rfl⟩
 rw [<-hE1] at sC
 have F':=F.now I8 O rm
 obtain⟨ls',hls'⟩:∃ls',ls'=ls.map (rC S):=⟨_,rfl⟩
 obtain⟨ps',hps'⟩:∃ps',ps'=ps.map (dG S.k):=⟨_,rfl⟩
 obtain⟨dxr,fsr,R0⟩:=id R8.run
 refine⟨_,rfl,r,dxr,fsr,rfl,R0.1.1,R0.2.no _ (by decide +kernel),r,_,Z,ls,ps,S,rfl,R8.run,R8n,R8.flow,F',fun H9 n' s9 nn' N9=>?_⟩
 rw [<-hls',<-hps'] at N9 F'
 obtain⟨dxr,fsr,R0⟩:=R8.run.same s9
 refine⟨_,rfl,r,dxr,fsr,rfl,R0.1.1,R0.2.no _ (by decide +kernel),r,_,Z,ls,ps,S,rfl,R8.run.same s9,R8n.same s9,R8.flow.same s9,fun H10 D ra s10 LA nD nra=>?_⟩
 have s810:=s9.trans s10
 obtain⟨G,hG⟩:∃G,G=(gf ps).map fun p=>ra p.name:=⟨_,rfl⟩
 have gMem:∀b∈G,∃p∈ps,p.kind=0/\ra p.name=b:=fun b hb=>by
  rw [hG] at hb
  obtain⟨p,hp,e⟩:=List.mem_map.mp hb
  have hf:=List.mem_filter.mp hp
  exact⟨p,hf.1,by simpa using hf.2,e⟩
 have inG:∀p∈ps,p.kind=0->ra p.name∈G:=fun p hp h0=>by rw [hG];exact List.mem_map.mpr ⟨p,List.mem_filter.mpr ⟨hp,by simp [h0]⟩,rfl⟩
 have fG:∀b∈G,H9 b=none/\∃z,H10 b=some (.lst z):=fun b hb=>by
  obtain⟨p,hp,h0,e⟩:=gMem b hb
  rw [<-e]
  exact⟨nra p hp h0,_,LA.lists p hp h0⟩
 have R10:=R8.same s810
 have E1some:∀b∈E1,∃o,H8 b=some o:=fun b hb=>by
  rw [hE1] at hb
  cases h:H8 b with
  | some o=>exact⟨o,rfl⟩
  | none=>exact absurd hb (R8.out h)
 have A8:BV H8 L P ls ps:=AC7.same n8
 refine⟨_,rfl,_,rfl,_,rfl,r,_,Z,ls,ps,S,L,P,E1 ++ G,rfl,R10.run,R10.netH,R10.flow,A8.same s810,I8.hk,O.vb,fun p _=>by have:=dj p.name;omega,fun b hb=>?_,fun H11 Td da db s11 LD=>?_⟩
 ·rcases List.mem_append.mp hb with h | h
  ·obtain⟨o,e⟩:=E1some b h
   exact⟨o,s810 _ _ e⟩
  ·obtain⟨z,e⟩:=(fG b h).2
   exact⟨_,e⟩
 rw [<-hls',<-hps'] at LD
 have N11:=(N9.s.same s10).same s11
 obtain⟨dxn',fsn',Rn,Fn,Pn,Gn,Tn,FLn,PLn,Wn⟩:=id N11
 have gQ:=F'.lists
 refine⟨_,rfl,n',dxn',fsn',rfl,Wn.obj,Wn.fl.no _ (by decide +kernel),n',ls',ps',rfl,N11,fun T1 b1 b2 H12 s12 _ _ _ TA=>⟨T1,b1,b2,ls',ps',rfl,TA,F'.l24,F'.p16,fun H13 T2 b3 b4 s13 LI=>?_⟩⟩
 have LD13:=((LD.same bu).same s12).same s13
 refine⟨_,rfl,_,_,LI.dt,LD13.dt,gQ.shaped (by decide),gQ.shaped (by decide),_,rfl,?_⟩
 rw [gQ.eq]
 refine fu ?_
 have s1113:=s12.trans s13
 have s1013:=s11.trans s1113
 have lgP:(gf ps).length<=16:=by have:=List.length_filter_le (fun p:PD=>decide (p.kind=0)) ps;unfold gf;omega
 have n13:=n8.trans (s810.trans s1013)
 have eP13:=n13 _ _ eP
 have yl:=aP.length
 refine⟨_,rfl,D,_,(gf ps).map (·.name),rfl,.inl (s1013 _ _ LA.dict),by rw [Af],by rw [lM];omega,fun Ls zs nLs pzs szs=>?_⟩
 have t14:=aB (o:=.lst (zs.map V.str)) nLs
 have eLs:upd H13 Ls (.lst (zs.map V.str)) Ls=some (.lst (zs.map V.str)):=ao
 generalize upd H13 Ls (.lst (zs.map V.str))=H14 at t14 eLs ⊢
 refine⟨_,rfl,P,rfl,⟨_,bK.of (t14 _ _ eP13)⟩,fW (K:=K) (a:=P) (xs:=ys) (fun j vs H'=>H'=H14/\vs=((gf (ps.take j)).map (·.name)).map V.str) (by omega) ⟨rfl,rfl⟩ (fun j vs H' h=>by rw [h.2,lM,lM];exact Nat.le_trans (List.length_filter_le _ _) (by rw [List.length_take];omega)) (fun j vs H' _ h=>by rw [h.1];exact bK.of (t14 _ _ eP13)) ?_ ?_⟩
 ·rintro j x vs H' hx ⟨rfl,rfl⟩
  obtain⟨p,hpj,q,a1,a2,a3,rfl,hq,_⟩:=aP.get hx
  have hq14:=t14 _ _ (n13 _ _ hq)
  refine⟨_,rfl,q,_,0,_,rfl,rfl,fC.of hq14,aM (j:=0) rfl,rfl,_,rfl,?_⟩
  rw [TX _ (F.pok p (List.mem_of_getElem? hpj)).1]
  have tk:gf (ps.take (j+1))=gf (ps.take j) ++ if p.kind=0 then [p] else []:=by
   unfold gf
   rw [List.take_succ,hpj,Option.toList_some,List.filter_append,List.filter_cons,List.filter_nil]
   by_cases h0:p.kind=0 <;> simp [h0]
  rw [tk]
  by_cases h0:p.kind=0
  ·rw [decide_eq_true h0,if_pos h0]
   exact kJ ⟨_,rfl,q,_,1,_,rfl,rfl,fC.of hq14,aM (j:=1) rfl,rfl,by simp⟩
  ·rw [decide_eq_false h0,if_neg h0]
   exact fu ⟨rfl,by simp⟩
 rintro vs H' ⟨rfl,rfl⟩ Lg nLg
 rw [yl,List.take_length]
 refine⟨Lg,(gf ps).map (·.name),rfl,bK.of ao,by rw [lM];omega,fun Lt zs2 nLt pz2 sz2=>?_⟩
 have ezs:zs2=zs:=Fw sz2 szs (pz2.trans pzs.symm)
 rw [ezs]
 have t15:=(aB (o:=.lst (((gf ps).map (·.name)).map V.str)) nLg).trans (aB (o:=.lst (zs.map V.str)) nLt)
 have gS:Gd 1 (.list (zs.map PyData.str)):=.list (.strs 0 fun x hx=>by
  obtain⟨p,hp,rfl⟩:=List.mem_map.mp (pzs.mem_iff.mp hx)
  exact yI (F.pnm p (List.mem_filter.mp hp).1))
 have s15:=s1013.trans (t14.trans t15)
 have s1118:=s1113.trans (t14.trans t15)
 refine⟨_,_,CQ (bK.of (t15 _ _ eLs)),CQ (bK.of ao),gS.shaped (by decide),gS.shaped (by decide),_,rfl,?_⟩
 rw [gS.eq]
 refine fu ?_
 generalize upd (upd H' Lg (.lst (((gf ps).map (·.name)).map V.str))) Lt (.lst (zs.map V.str))=H15 at t15 s15 s1118 ⊢
 clear eLs t14 nLs nLg nLt pz2 sz2 szs pzs gS t15 eP13 n13 s1113 LD13 LI TA s12 s13
 have LA15:=LA.same s15
 have nod:=F.whole.nod
 have gdL:∀l:List Int,Gd 1 (.list (l.map PyData.int)):=fun l=>.list (.ints 0 _)
 have nfD:∀o u,H D≠some (.frz o u):=fun o u z=>by rw [((s2.trans sB).trans n8).free (s9.free nD)] at z;cases z
 have R9:=R8.same s9
 have s915:=s10.trans s15
 have gK:∀{p:PD},p∈gf ps->cD (qI ra ps) (Sum.inr p.name)=some (.ref (ra p.name)):=fun {p} hp=>by
  have hf:=List.mem_filter.mp hp
  exact vf F.pnd hf.1 (by simpa using hf.2)
 refine⟨_,rfl,D,_,rfl,LA15.dict,fun o=>?_⟩
 have sR:aJ H9 (upd H15 D (.frz o (.dK (qI ra ps)))):=fun b u e=>by rw [aH (aD e nD)];exact s915 b u e
 refine sZ (fun j σ H'=>aJ (upd H15 D (.frz o (.dK (qI ra ps)))) H'/\∃v12,σ=[some (.ref a),some (.ref L),some (.ref P),some (.ref d),some (.ref r),some (.ref Ld),some (.ref Lc),some (.int (at0:Nat)),v8,some (.ref n'),some (.ref D),some (.ref Td),v12,none,none,none,none,none]) ⟨aJ.refl _,none,rfl⟩ (fun j σ H' _ h=>h.1 _ _ ao) ?_ ?_
 ·rintro j ky v σ H1 hj ⟨s1,v12,rfl⟩
  unfold qI at hj
  rw [List.getElem?_map] at hj
  obtain⟨p,hpj,e⟩:=Option.map_eq_some_iff.mp hj
  cases e
  have hpg:=List.mem_of_getElem? hpj
  have hp:=(List.mem_filter.mp hpg).1
  have h0:p.kind=0:=by simpa using (List.mem_filter.mp hpg).2
  have s91:=sR.trans s1
  have gD:eE H1 D (.str p.name) (some (.ref (ra p.name))):=by rw [<-gK hpg];exact .inl ⟨_,Sum.inr p.name,.inr ⟨o,s1 _ _ ao⟩,rfl,rfl⟩
  have nrD:ra p.name≠D:=fun z=>by have:=LA.lists p hp h0;rw [z,LA.dict] at this;cases this
  have x1:H1 (ra p.name)=some (.lst (((S.r p.name).drop (S.d p.name)).map V.int)):=s1 _ _ (by rw [aH nrD];exact LA15.lists p hp h0)
  have rw1:=hRC7.same (n8.trans (s9.trans s91))
  refine⟨_,rfl,_,rfl,D,_,rfl,gD,_,rfl,d,rfl,.inl ⟨_,.inl rw1.dict⟩,_,rfl,jt,fun u nu=>?_⟩
  have tu:=aB (o:=.lst []) nu
  have xu:upd H1 u (.lst []) u=some (.lst []):=ao
  generalize upd H1 u (.lst [])=H2 at tu xu ⊢
  have rw2:=rw1.same tu
  refine⟨_,eE.k (k:=Sum.inr p.name) rw2.dict,?_⟩
  obtain⟨y,ey,hy⟩:∃y:Addr,(cD (jR RW) (Sum.inr p.name)).getD (V.ref u)=.ref y/\H2 y=some (.lst ((qH RW p.name).map V.int)):=by
   rcases rw2.get p.name with ⟨e1,e2⟩ | ⟨a,e1,e2,_⟩
   ·rw [e1,e2]
    exact⟨u,rfl,xu⟩
   ·rw [e1]
    exact⟨a,rfl,e2⟩
  rw [ey]
  have R2:=R9.same (s91.trans tu)
  obtain⟨dxr,fsr,R0⟩:=id R2.run
  refine⟨_,rfl,r,dxr,fsr,rfl,R0.1.1,R0.2.no _ (by decide +kernel),_,rfl,r,_,Z,ls,ps,S,p,rfl,R2.run,R2.netH,R2.flow,hp,fun H3 s3=>⟨_,rfl,y,_,rfl,bK.of (s3 _ _ hy),fun v nv=>?_⟩⟩
  rw [uO,<-List.map_drop]
  have t4:=aB (o:=.lst (((qH RW p.name).drop (S.d p.name)).map V.int)) nv
  refine⟨_,_,wM (bK.of (t4 _ _ (s3 _ _ (tu _ _ x1)))),wM (bK.of ao),(gdL _).shaped (by decide),(gdL _).shaped (by decide),_,rfl,?_⟩
  rw [r8,(gdL _).eq]
  exact fu ⟨s1.trans (tu.trans (s3.trans t4)),_,rfl⟩
 rintro σ H1 ⟨s1,v12,rfl⟩
 refine⟨_,⟨D,o,_,s1 _ _ ao,nfD,rfl⟩,?_⟩
 have s16:=Zk LA15.dict s1
 generalize upd H1 D (.dK (qI ra ps))=H16 at s16 ⊢
 clear s1 sR
 have s916:=s915.trans s16
 have R16:=R9.same s916
 refine fun Go nGo=>?_
 have t17:=aB (o:=.dK []) nGo
 have eGo:upd H16 Go (.dK []) Go=some (.dK []):=ao
 have sG16:aJ H16 (aX [Go] (upd H16 Go (.dK []))):=fun b u e=>bH (t17 _ _ e) (by simpa using aD e nGo)
 generalize upd H16 Go (.dK [])=H17 at t17 eGo sG16 ⊢
 have n16:=n8.trans (s9.trans s916)
 refine⟨_,rfl,L,rfl,⟨_,bK.of (t17 _ _ (n16 _ _ eL))⟩,d8 (K:=K) (a:=L) (xs:=xs) (fun j σ H'=>(∃v12 v14 v15,σ=[some (.ref a),some (.ref L),some (.ref P),some (.ref d),some (.ref r),some (.ref Ld),some (.ref Lc),some (.int (at0:Nat)),v8,some (.ref n'),some (.ref D),some (.ref Td),v12,some (.ref Go),v14,v15,none,none])/\aJ (aX [Go] H17) (aX [Go] H')/\H' Go=some (.dK (cM S.g (ls.take j)))) ⟨⟨_,_,_,rfl⟩,aJ.refl _,eGo⟩ (fun j σ H' _ h=>bK.of (bu _ _ (h.2.1 _ _ (sG16 _ _ (n16 _ _ eL))))) ?_ ?_⟩
 ·rintro j x σ H1 hx ⟨⟨w12,w14,w15,rfl⟩,c1,e1⟩
  obtain⟨l,hlj,q,f,rfl,hq,hf⟩:=aL.get hx
  have hl:=List.mem_of_getElem? hlj
  have s1:aJ H16 H1:=(sG16.trans c1).trans bu
  have gl:=I8.gl l hl
  have R1:=R16.same s1
  refine⟨q,_,rfl,fC.of (s1 _ _ (n16 _ _ hq)),rfl,_,_,rfl,_,_,rfl,_,_,rfl,rfl,?_⟩
  obtain⟨dxr,fsr,R0⟩:=id R1.run
  refine⟨_,rfl,r,dxr,fsr,rfl,R0.1.1,R0.2.no _ (by decide +kernel),_,rfl,r,_,Z,ls,ps,S,l,rfl,R1.run,R1.netH,R1.flow,hl,fun H2 p2 s2 np2 ep2=>⟨_,(S.ev l.name).length,rfl,.inl ⟨_,bK.of ep2,by rw [lM]⟩,?_⟩⟩
  have R2:=R1.same s2
  obtain⟨dxr,fsr,R0⟩:=id R2.run
  have e3:∀{Hx:Hp},aJ H2 Hx->Hx Go=some (.dK (cM S.g (ls.take j))):=fun s=>s _ _ (s2 _ _ e1)
  have vG:cD (cM S.g (ls.take j)) (Sum.inr l.name)=none:=ig (by rw [yt];intro z;obtain⟨b,hb,e⟩:=List.mem_map.mp z;cases e;exact nC nod hlj hb)
  refine⟨_,rfl,r,dxr,fsr,rfl,R0.1.1,R0.2.no _ (by decide +kernel),_,rfl,r,_,Z,ls,ps,S,l,rfl,R2.run,R2.netH,R2.flow,hl,fun H3 p3 s3 np3 ep3=>⟨_,((S.ev l.name).drop (S.g l.name)).length,rfl,.inl ⟨_,bK.of ep3,by rw [lM]⟩,_,_,rfl,rfl,_,rfl,_,rfl,Go,_,rfl,qD.k (k:=Sum.inr l.name) (e3 s3) (by unfold cM;rw [lM,List.length_take];omega),⟨_,_,_,rfl⟩,?_,?_⟩⟩
  ·rw [eU (by simp)]
   exact c1.trans (bY (s2.trans s3))
  ·rw [ao,jO _ vG,List.take_succ,hlj,Option.toList_some]
   unfold cM
   rw [List.map_append,List.length_drop]
   show some (HO.dK (_ ++ [((Sum.inr l.name:Key),V.int (((S.ev l.name).length:Int) - (((S.ev l.name).length - S.g l.name:Nat):Int)))]))=_
   rw [show(((S.ev l.name).length:Int) - (((S.ev l.name).length - S.g l.name:Nat):Int))=((S.g l.name:Nat):Int) by omega]
   rfl
 rintro σ H18 ⟨⟨w12,w14,w15,rfl⟩,c18,eGo18⟩
 have xl:=aL.length
 rw [xl,List.take_length] at eGo18
 have s1618:aJ H16 H18:=(sG16.trans c18).trans bu
 have s918:=s916.trans s1618
 have s1018:=(s15.trans s16).trans s1618
 obtain⟨RW',hRW'⟩:∃RW':List (Str×Addr×List Int),RW'=(gf ps).map fun p=>(p.name,ra p.name,(S.r p.name).drop (S.d p.name)):=⟨_,rfl⟩
 have mRW:∀q∈RW',∃p∈ps,p.kind=0/\q=(p.name,ra p.name,(S.r p.name).drop (S.d p.name)):=fun q hq=>by
  rw [hRW'] at hq
  obtain⟨p,hp,e⟩:=List.mem_map.mp hq
  have hf:=List.mem_filter.mp hp
  exact⟨p,hf.1,by simpa using hf.2,e.symm⟩
 have nRW:RW'.map (·.1)=(gf ps).map (·.name):=by rw [hRW',List.map_map];rfl
 have RA18:nZ H18 D RW':=by
  refine⟨?_,fun q hq=>?_,by rw [nRW];exact yM F.pnd,fun q hq=>?_⟩
  ·rw [show jR RW'=qI ra ps by rw [hRW'];unfold jR qI;rw [List.map_map];rfl]
   exact s1018 _ _ LA.dict
  ·obtain⟨p,hp,h0,rfl⟩:=mRW q hq
   exact s1018 _ _ (LA.lists p hp h0)
  ·obtain⟨p,hp,h0,rfl⟩:=mRW q hq
   have:=O.rl p hp h0
   show((S.r p.name).drop (S.d p.name)).length<=300
   rw [List.length_drop]
   omega
 have RO18:CW ps' RW':=by
  refine⟨fun q hq=>?_,fun q hq v hv=>?_⟩ <;> obtain⟨p,hp,h0,rfl⟩:=mRW q hq
  ·rw [hps']
   obtain⟨k1,k2,_,_⟩:=gP S.k p
   refine List.mem_map.mpr ⟨dG S.k p,List.mem_filter.mpr ⟨List.mem_map.mpr ⟨p,hp,rfl⟩,by rw [k1,h0];rfl⟩,by rw [k2]⟩
  ·exact O.rb p hp h0 v (List.mem_of_mem_drop hv)
 have N18:=N9.s.same s918
 refine⟨_,rfl,_,rfl,fun r2 dxr2 nr2 ndr2 ner2=>?_⟩
 have gr2:aJ H18 (upd (upd H18 dxr2 (.own r2)) r2 (.ins t.oY dxr2 [])):=fun b o e=>by rw [aH (aD e nr2),aH (aD e ndr2)];exact e
 refine KY ao gr2 nr2 N18 RA18 RO18 fun H19 Z2 eZ2 s19 R19 fr19=>⟨rfl,?_⟩
 have O19:=Hq (RW:=RW') F' RA18.len RO18.bnd
 have Sm:FJ ls ps (fun x=>(S.ev x).take (S.g x)) S.d S (fB ls' ps' RW'):=by
  have nod':=F'.whole.nod
  refine⟨fun l hl=>?_,fun l hl=>?_,fun p hp=>?_,fun p hp h0=>⟨?_,?_⟩,fun p hp=>rfl⟩
  ·have e:(fB ls' ps' RW').ev l.name=(S.ev l.name).drop (S.g l.name):=by
    have:=vy nod' (show rC S l∈ls' by rw [hls'];exact List.mem_map.mpr ⟨l,hl,rfl⟩)
    exact this
   rw [e,List.take_append_drop]
  ·show S.g l.name=((S.ev l.name).take (S.g l.name)).length+0
   rw [List.length_take]
   have:=I8.gl l hl
   omega
  ·obtain⟨k1,k2,_,_⟩:=gP S.k p
   have e:(fB ls' ps' RW').k p.name=uU (dG S.k p):=by
    show fD ps' p.name=_
    unfold fD
    have:=find_name F'.pnd (show dG S.k p∈ps' by rw [hps'];exact List.mem_map.mpr ⟨p,hp,rfl⟩)
    rw [k2] at this
    rw [this]
    rfl
   rw [e]
   unfold uU
   rw [k1]
   by_cases h5:p.kind=5
   ·rw [if_pos h5]
    unfold dG
    rw [if_pos h5]
    rfl
   ·rw [if_neg h5]
    exact I8.k0 p hp h5
  ·show qH RW' p.name=_
   unfold qH
   have hm:(p.name,ra p.name,(S.r p.name).drop (S.d p.name))∈RW':=by rw [hRW'];exact List.mem_map.mpr ⟨p,List.mem_filter.mpr ⟨hp,by simp [h0]⟩,rfl⟩
   rw [find_name (f:=fun q:Str×Addr×List Int=>q.1) (by rw [nRW];exact yM F.pnd) hm]
   rfl
  ·exact O.dl p hp h0
 have I19:RI ls' ps' (fB ls' ps' RW'):=RI.start F'
 have d19:∀x,(fB ls' ps' RW').d x<=0:=fun _=>Nat.le_refl _
 generalize fB ls' ps' RW'=S2 at R19 O19 Sm I19 d19
 obtain⟨E2,hE2⟩:∃E2,E2=r2:: Z2.cells ls' ps':=⟨_,rfl⟩
 have fE2:∀b∈E2,H18 b=none:=fun b hb=>by
  rw [hE2] at hb
  rcases List.mem_cons.mp hb with rfl | h
  ·exact nr2
  ·exact fr19 b (.tail _ h)
 have fE1:∀b∈E1,∃o,H9 b=some o:=fun b hb=>by
  obtain⟨o,e⟩:=E1some b hb
  exact⟨o,s9 _ _ e⟩
 have old2:∀{b:Addr} {u:HO},H18 b=some u->b∉E2:=fun {b u} e z=>by rw [fE2 b z] at e;cases e
 have oldG:∀{b:Addr} {u:HO},H9 b=some u->b∉G:=fun {b u} e z=>by rw [(fG b z).1] at e;cases e
 have e12:∀b∈E1,b∉E2:=fun b hb=>by
  obtain⟨o,e⟩:=fE1 b hb
  exact old2 (s918 _ _ e)
 have e21:∀b∈E2,b∉E1:=fun b hb z=>e12 b z hb
 have g2:∀b∈E2,b∉G:=fun b hb z=>by
  obtain⟨w,e⟩:=(fG b z).2
  exact old2 (s1018 _ _ e) hb
 have nf2:Z2.f∉E1/\Z2.f∉G:=by
  have e0:=fr19 Z2.f (.head _)
  refine⟨fun z=>?_,fun z=>?_⟩
  ·obtain⟨o,e⟩:=fE1 _ z
   rw [s918 _ _ e] at e0
   cases e0
  ·obtain⟨w,e⟩:=(fG _ z).2
   rw [s1018 _ _ e] at e0
   cases e0
 have s1019:=s1018.trans s19
 have s919:=s918.trans s19
 have s819:=s9.trans s919
 obtain⟨C0,hC0⟩:∃C0,C0=aX E1 (aX E2 (aX G H19)):=⟨_,rfl⟩
 have sC9:aJ (aX E1 H9) C0:=fun b u e=>by
  have nb:b∉E1:=fun z=>by unfold aX at e;rw [if_pos z] at e;cases e
  have e9:=bu _ _ e
  rw [hC0]
  exact bH (bH (bH (s919 _ _ e9) (oldG e9)) (old2 (s918 _ _ e9))) nb
 have sCC:aJ C C0:=(sC.trans (bY s9)).trans sC9
 have NC:fO K t C0 Z.n ls ps:=by
  have:=R8.net
  rw [<-hE1] at this
  exact this.same ((bY s9).trans sC9)
 have NC':fO K t C0 n' ls' ps':=by
  have W9:=(R8.same s9).flow
  have n1:fO K t (aX (Z.cells ls ps) H9) n' ls' ps':=N9.cut fun b hb=>?_
  ·obtain⟨dx9,fs9,R9a⟩:=R8.run.same s9
   have hrc:r∉Z.cells ls ps:=mj.cell (R8.run.same s9) W9
   have n2:=n1.off (r:=r) (bH R9a.1.1 hrc) (R9a.2.has ("net",.ref Z.n) (by simp)) (fun z=>by rw [z,R8.run.choose_spec.choose_spec.1.1] at nn';cases nn')
   have e:aX [r] (aX (Z.cells ls ps) H9)=aX E1 H9:=by
    rw [hE1]
    funext b
    unfold aX
    by_cases h1:b=r <;> by_cases h2:b∈Z.cells ls ps <;> simp [h1,h2]
   rw [e] at n2
   exact n2.same sC9
  ·obtain⟨o,e⟩:=E1some b (by rw [hE1];exact .tail _ hb)
   exact⟨⟨o,e⟩,W9.kinds hb⟩
 have LDC:BP C0 Td da db ls' ps':=LD.same fun b u e=>by
  have nb:b∉E1 ++ G:=fun z=>by unfold aX at e;rw [if_pos z] at e;cases e
  have e11:=bu _ _ e
  have e18:H18 b=some u:=by
   have:aJ H11 H18:=((s1118.trans s16).trans s1618)
   exact this _ _ e11
  rw [hC0]
  exact bH (bH (bH (s19 _ _ e18) fun z=>nb (List.mem_append.mpr (.inr z))) (old2 e18)) fun z=>nb (List.mem_append.mpr (.inl z))
 have GoC:C0 Go=some (.dK (cM S.g ls)):=by
  rw [hC0]
  refine bH (bH (bH (s19 _ _ eGo18) fun z=>?_) (old2 eGo18)) fun z=>?_
  ·obtain⟨w,e⟩:=(fG _ z).2
   rw [(s15.trans s16) _ _ e] at nGo
   cases nGo
  ·obtain⟨o,e⟩:=fE1 _ z
   rw [s916 _ _ e] at nGo
   cases nGo
 have eD19:=s1019 _ _ LA.dict
 have DG:D∉G:=fun z=>by
  obtain⟨w,e⟩:=(fG _ z).2
  rw [LA.dict] at e
  cases e
 refine⟨_,rfl,D,_,rfl,eD19,fun o3=>?_⟩
 obtain⟨C3,hC3⟩:∃C3,C3=aX G (upd H19 D (.frz o3 (.dK (qI ra ps)))):=⟨_,rfl⟩
 have C3D:C3 D=some (.frz o3 (.dK (qI ra ps))):=by rw [hC3];exact bH ao DG
 have C3G:∀{b:Addr} {u:HO},C3 b=some u->b∉G:=fun {b u} e z=>by rw [hC3] at e;unfold aX at e;rw [if_pos z] at e;cases e
 have nGD:∀b∈G,b≠D:=fun b hb z=>DG (by rw [<-z];exact hb)
 refine sZ (fun j σ H'=>(∃v12,σ=[some (.ref a),some (.ref L),some (.ref P),some (.ref d),some (.ref r),some (.ref Ld),some (.ref Lc),some (.int (at0:Nat)),v8,some (.ref n'),some (.ref D),some (.ref Td),v12,some (.ref Go),w14,w15,some (.ref r2),none])/\aJ C3 H'/\∀b∈G,∃w:List V,H' b=some (.lst w)/\w.length<=300+j) ⟨⟨w12,rfl⟩,by rw [hC3];exact bu,fun b hb=>?_⟩ (fun j σ H' _ h=>h.2.1 _ _ C3D) ?_ ?_
 ·obtain⟨p,hp,h0,rfl⟩:=gMem b hb
  refine⟨_,by rw [aH (nGD _ hb)];exact s1019 _ _ (LA.lists p hp h0),?_⟩
  have:=O.rl p hp h0
  rw [lM,List.length_drop]
  omega
 ·rintro j ky v σ Ha hj ⟨⟨v12',rfl⟩,sa,ga⟩
  have hj16:=(List.getElem?_eq_some_iff.mp hj).1
  unfold qI at hj hj16
  rw [lM] at hj16
  rw [List.getElem?_map] at hj
  obtain⟨p,hpj,e⟩:=Option.map_eq_some_iff.mp hj
  cases e
  have hpg:=List.mem_of_getElem? hpj
  have hp:=(List.mem_filter.mp hpg).1
  have h0:p.kind=0:=by simpa using (List.mem_filter.mp hpg).2
  obtain⟨w,ew,lw⟩:=ga _ (inG p hp h0)
  have gD:eE Ha D (.str p.name) (some (.ref (ra p.name))):=by rw [<-gK hpg];exact .inl ⟨_,Sum.inr p.name,.inr ⟨o3,sa _ _ C3D⟩,rfl,rfl⟩
  refine⟨_,rfl,_,rfl,D,_,rfl,gD,.inl ⟨rfl,_,bK.of ew⟩,ra p.name,_,.int 3,rfl,rfl,ew,by omega,⟨_,rfl⟩,fun b u e=>?_,fun b hb=>?_⟩
  ·rw [aH fun z=>C3G e (by rw [z];exact inG p hp h0)]
   exact sa b u e
  ·by_cases z:b=ra p.name
   ·rw [z,ao]
    exact⟨_,rfl,by rw [lP];exact Nat.succ_le_succ lw⟩
   ·rw [aH z]
    obtain⟨w,e,l⟩:=ga b hb
    exact⟨w,e,by omega⟩
 rintro σ Ha ⟨⟨v12',rfl⟩,sa,_⟩
 refine⟨_,⟨D,o3,_,sa _ _ C3D,nfD,rfl⟩,?_⟩
 have s20:aJ (aX G H19) (upd Ha D (.dK (qI ra ps))):=fun b u e=>by
  have nb:b∉G:=fun z=>by unfold aX at e;rw [if_pos z] at e;cases e
  by_cases hb:b=D
  ·rw [hb,ao,<-eD19,<-hb]
   exact bu _ _ e
  ·rw [aH hb]
   exact sa _ _ (by rw [hC3];exact bH (by rw [aH hb];exact bu _ _ e) nb)
 generalize upd Ha D (.dK (qI ra ps))=H20 at s20 ⊢
 have R1g:oO K t (aX G H19) r at0 Z ls ps S:=by
  have R1:=R8.same s819
  refine R1.cut ?_ ?_ (fun b hb=>?_) ?_
  ·obtain⟨o,e⟩:=fE1 r (by rw [hE1];exact .head _)
   exact oldG e
  ·obtain⟨dx,fs,e,_⟩:=R8.flow.at'
   exact oldG (s9 _ _ e)
  ·obtain⟨o,e⟩:=fE1 b (by rw [hE1];exact .tail _ hb)
   exact oldG e
  ·rw [<-hE1]
   exact NC.same (by rw [hC0];exact bY bu)
 have R2g:oO K t (aX G H19) r2 0 Z2 ls' ps' S2:=by
  refine R19.cut (g2 r2 (by rw [hE2];exact .head _)) nf2.2 (fun b hb=>g2 b (by rw [hE2];exact .tail _ hb)) ?_
  rw [<-hE2,eZ2]
  exact NC'.same (by rw [hC0];exact bu)
 have R1i:=R1g.same s20
 have R2i:=R2g.same s20
 have K20:aJ C0 (aX E1 (aX E2 H20)):=by rw [hC0];exact bY (bY s20)
 clear R1g R2g s20 sa
 refine⟨_,rfl,_,rfl,_,rfl,Lc,_,rfl,bK.of (bu _ _ (bu _ _ (K20 _ _ (sCC _ _ eLcC)))),fun Lb nLb=>⟨Lb,rfl,⟨_,bK.of ao⟩,?_⟩⟩
 rw [uO,<-List.map_drop]
 have t21:=aB (o:=.lst ((cs.drop at0).map V.int)) nLb
 have eLb:aX E1 (aX E2 (upd H20 Lb (.lst ((cs.drop at0).map V.int)))) Lb=some (.lst ((cs.drop at0).map V.int)):=by
  refine bH (bH ao ?_) ?_
  ·rw [hE2];exact R2i.out nLb
  ·rw [hE1];exact R1i.out nLb
 have R1j:=R1i.same t21
 have R2j:=R2i.same t21
 have K21:=K20.trans (bY (E:=E1) (bY (E:=E2) t21))
 generalize upd H20 Lb (.lst ((cs.drop at0).map V.int))=H21 at R1j R2j K21 eLb ⊢
 obtain⟨C1,hC1⟩:∃C1,C1=aX E1 (aX E2 H21):=⟨_,rfl⟩
 rw [<-hC1] at eLb K21
 have hgo:cM S.g ls=cM (fun x=>((S.ev x).take (S.g x)).length) ls:=by
  unfold cM
  refine List.map_congr_left fun l hl=>?_
  have:=I8.gl l hl
  dsimp only
  rw [List.length_take,Nat.min_eq_left this]
 rw [hgo] at GoC
 have names':∀l∈ls,∃l'∈ls',l'.name=l.name:=fun l hl=>⟨rC S l,by rw [hls'];exact List.mem_map.mpr ⟨l,hl,rfl⟩,rfl⟩
 have dds':∀x∈ds,V.str x∈dH ps' "give" ++ dH ps' "take" :=fun x hx=>by
  have go:∀k,V.str x∈dH ps k->V.str x∈dH ps' k:=fun k h=>by
   obtain⟨p,hp,e⟩:=List.mem_map.mp h
   obtain⟨hp,hk⟩:=List.mem_filter.mp hp
   obtain⟨k1,k2,_,_⟩:=gP S.k p
   rw [hps']
   exact List.mem_map.mpr ⟨dG S.k p,List.mem_filter.mpr ⟨List.mem_map.mpr ⟨p,hp,rfl⟩,by rw [k1];exact hk⟩,by rw [k2];exact e⟩
  rcases List.mem_append.mp (dds x hx) with h | h
  ·exact List.mem_append.mpr (.inl (go _ h))
  ·exact List.mem_append.mpr (.inr (go _ h))
 have zf2:Z.f∉E2:=by
  obtain⟨dx,fs,e,_⟩:=R8.flow.at'
  exact old2 (s918 _ _ (s9 _ _ e))
 clear R1i R2i K20 t21 nLb
 refine d8 (K:=K) (a:=Lb) (xs:=(cs.drop at0).map V.int) (fun j σ H'=>∃U V2,(∃v8 v17,σ=[some (.ref a),some (.ref L),some (.ref P),some (.ref d),some (.ref r),some (.ref Ld),some (.ref Lc),some (.int (at0:Nat)),v8,some (.ref n'),some (.ref D),some (.ref Td),v12',some (.ref Go),w14,w15,some (.ref r2),v17])/\oO K t H' r (at0+j) Z ls ps U/\oO K t H' r2 j Z2 ls' ps' V2/\aJ C1 (aX E1 (aX E2 H'))/\Jt (199+32 * (at0+j)) ls ps U/\Jt (199+32 * j) ls' ps' V2/\FJ ls ps (fun x=>(S.ev x).take (S.g x)) S.d U V2) ⟨S,S2,⟨_,_,rfl⟩,R1j,R2j,by rw [hC1];exact aJ.refl _,O,O19,Sm⟩ (fun j σ H' _ ⟨_,_,_,_,_,k',_⟩=>bK.of (bu _ _ (bu _ _ (k' _ _ eLb)))) ?_ ?_
 ·rintro j x σ Hb hx ⟨U,V2,⟨v8',v17,rfl⟩,Rb,Rb2,Kb,OU,OV,Sb⟩
  rw [List.getElem?_map] at hx
  obtain⟨c,hc,rfl⟩:=Option.map_eq_some_iff.mp hx
  have hj:=(List.getElem?_eq_some_iff.mp hc).1
  rw [List.length_drop] at hj
  have kb:aJ C Hb:=(((sCC.trans K21).trans Kb).trans bu).trans bu
  refine⟨_,rfl,_,rfl,_,rfl,a,Ld,ns,ds,c,5,rfl,kb.seq hSC7,bK.of (kb _ _ eLdC),lds,by decide,fun Hc Lh zh sh nLh eLh hxs=>?_⟩
  have Rc:=Rb.same sh
  have Rc2:=Rb2.same sh
  obtain⟨dxr,fsr,R0⟩:=id Rc.run
  refine⟨_,rfl,r,dxr,fsr,rfl,R0.1.1,R0.2.no _ (by decide +kernel),_,rfl,Ju Rc OU (by omega) (by omega) (bK.of eLh) (Rb.flow.cell nLh) (fun x hx=>dds x (hxs x hx)) fun Hd p1 cd Rd np1 ep1=>?_⟩
  rw [<-hE1] at cd
  have nLh1:Lh∉E1:=by rw [hE1];exact Rb.out nLh
  have nLh2:Lh∉E2:=by rw [hE2];exact Rb2.out nLh
  have Kc:=Kb.trans (bY (E:=E1) (bY (E:=E2) sh))
  have Kd:aJ C1 (aX E1 (aX E2 Hd)):=by
   rw [J2] at Kc ⊢
   exact Kc.trans (bY cd)
  have NCd:fO K t (aX E1 (aX E2 Hd)) n' ls' ps':=NC'.same (K21.trans Kd)
  have Rd2:oO K t Hd r2 j Z2 ls' ps' V2:=by
   have q:oO K t (aX E1 Hc) r2 j Z2 ls' ps' V2:=Rc2.cut (e21 r2 (by rw [hE2];exact .head _)) nf2.1 (fun b hb=>e21 b (by rw [hE2];exact .tail _ hb)) (by
    rw [<-hE2,eZ2,J2]
    exact NC'.same (K21.trans Kc))
   exact(q.same cd).same bu
  have eLhd:Hd Lh=some (.lst (zh.map V.str)):=bu _ _ (cd _ _ (bH eLh nLh1))
  obtain⟨dxr2,fsr2,R02⟩:=id Rd2.run
  refine⟨_,rfl,r2,dxr2,fsr2,rfl,R02.1.1,R02.2.no _ (by decide +kernel),_,rfl,Ju Rd2 OV (by omega) (by omega) (bK.of eLhd) (fun z=>nLh2 (by rw [hE2];exact .tail _ z)) (fun x hx=>dds' x (hxs x hx)) fun He p2 ce Re np2 ep2=>?_⟩
  rw [<-hE2] at ce
  have Ke:aJ C1 (aX E1 (aX E2 He)):=Kd.trans (bY ce)
  have Re1:oO K t He r (at0+j+1) Z ls ps (jf ls ps U zh):=by
   have q:oO K t (aX E2 Hd) r (at0+j+1) Z ls ps (jf ls ps U zh):=Rd.cut (e12 r (by rw [hE1];exact .head _)) zf2 (fun b hb=>e12 b (by rw [hE1];exact .tail _ hb)) (by
    rw [<-hE1]
    exact NC.same (K21.trans Kd))
   exact(q.same ce).same bu
  have due2:(j0 ls' ps' V2 zh).map (fun w=>V.str w.1.name)=(j0 ls ps U zh).map fun w=>V.str w.1.name:=by
   rw [hls',hps',Sb.due F S zh,List.map_map]
   exact List.map_congr_left fun w _=>by show V.str (dG S.k w.1).name=_;rw [(gP S.k w.1).2.1]
  have np1E:p1∉E2:=by rw [hE2];exact Rc2.out np1
  have ep1e:He p1=some (.lst ((j0 ls ps U zh).map fun w=>V.str w.1.name)):=bu _ _ (ce _ _ (bH ep1 np1E))
  rw [due2] at ep2
  have em:((j0 ls ps U zh).map fun w=>V.str w.1.name)=((j0 ls ps U zh).map fun w=>w.1.name).map V.str:=by rw [List.map_map];rfl
  rw [em] at ep1e ep2
  have gS:Gd 1 (.list (((j0 ls ps U zh).map fun w=>w.1.name).map PyData.str)):=.list (.strs 0 fun x hx=>by
   obtain⟨w,hw,rfl⟩:=List.mem_map.mp hx
   exact yI (F.pnm _ (jE hw).1))
  refine⟨_,_,CQ (bK.of ep1e),CQ (bK.of ep2),gS.shaped (by decide),gS.shaped (by decide),_,rfl,?_⟩
  rw [gS.eq]
  have Se:=Sb.turn F S zh
  rw [<-hls',<-hps'] at Se
  have ke:aJ C He:=(((sCC.trans K21).trans Ke).trans bu).trans bu
  have kg:aJ C0 He:=((K21.trans Ke).trans bu).trans bu
  refine fu ⟨_,rfl,_,rfl,_,rfl,_,rfl,r,at0+j+1,Z,ls,ps,jf ls ps U zh,r2,j+1,Z2,ls',ps',jf ls' ps' V2 zh,L,Go,xs,fun x=>(S.ev x).take (S.g x),rfl,Re1.run,Re1.netH,Re1.flow,Re.run,Re.netH,Re.flow,ke _ _ eL,aL.imp fun _ _ h=>h.same ke,kg _ _ GoC,names',Se.ev,Se.g,fun Hf sf=>⟨_,rfl,fu ?_⟩⟩
  have OU':=Jr F OU zh
  have OV':=Jr F' OV zh
  exact⟨_,_,⟨_,_,rfl⟩,Re1.same sf,Re.same sf,Ke.trans (bY (bY sf)),by rw [show 199+32 * (at0+(j+1))=199+32 * (at0+j)+32 by omega];exact OU',by rw [show 199+32 * (j+1)=199+32 * j+32 by omega];exact OV',Se⟩
 rintro σ Hb ⟨U,V2,⟨v8',v17,rfl⟩,Rb,Rb2,Kb,OU,OV,Sb⟩
 have kg:aJ C0 Hb:=((K21.trans Kb).trans bu).trans bu
 have Nb:=NC'.same kg
 obtain⟨dxn',fsn',Rn,Fn,Pn,Gn,Tn,FLn,PLn,Wn⟩:=id Nb
 refine⟨_,rfl,n',dxn',fsn',rfl,Wn.obj,Wn.fl.no _ (by decide +kernel),n',ls',ps',rfl,Nb,fun T1 b1 b2 Hc sc _ _ _ TA=>⟨T1,b1,b2,ls',ps',rfl,TA,F'.l24,F'.p16,fun Hd T2 b3 b4 sd LI=>?_⟩⟩
 have LDd:=(LDC.same kg).same (sc.trans sd)
 refine⟨_,rfl,_,_,LI.dt,LDd.dt,gQ.shaped (by decide),gQ.shaped (by decide),?_⟩
 rw [gQ.eq]
 refine⟨_,rfl,kJ ?_⟩
 have Re2:=Rb2.same (sc.trans sd)
 obtain⟨dxr2,fsr2,R02⟩:=id Re2.run
 have eLcd:Hd Lc=some (.lst (cs.map V.int)):=(sc.trans sd) _ _ (kg _ _ (sCC _ _ eLcC))
 refine⟨_,rfl,r2,dxr2,fsr2,rfl,R02.1.1,R02.2.no _ (by decide +kernel),r2,_,_,_,rfl,Re2.run,_,rfl,_,cs.length,rfl,.inl ⟨_,bK.of eLcd,by rw [lM]⟩,_,rfl,_,_,rfl,rfl,rfl,?_⟩
 rw [lM,List.length_drop]
 rw [decide_eq_true (show V.int (((cs.length - at0:Nat):Int))=V.int ((cs.length:Int) - (at0:Int)) by rw [show((cs.length - at0:Nat):Int)=(cs.length:Int) - (at0:Int) by omega])]
 exact k _
end
theorem fin {l:PySem.W.OpenLaw} {w:World} {K:PySem.W.Frag} {mg:Str->Option Value} {fa r0 r1 r2 r3 r4 r5 r6 r7 r8 r9 r10 r11 r12 r13 r14 r15 r16 r17 r18 r19 r20 r21 r22 r23 r24 r25 r26 r27 r28 r29 r30 r31 r32 r33 r34 r35 r36 r37 r38 r39 r40 r41 r42 r43 r44 r45 r46 r47 r48 r49 r50 r51 r52 r53 r54 r55 r56 r57 r58 r59 r60 r61 r62 r63 r64 r65 r66 r67 r68 r69 r70 r71 r72 r73 r74 r75 r76 r77 r78 r79 r80 r81 r82 r83 r84 r85 r86 r87 r88 r89 r90 r91 r92 r93 r94 r95 r96 r97 r98 r99 r100 r101 r102 r103 r104 r105 r106 r107 r108 r109 r110 r111 r112 r113 r114:Addr} (hfa:mg "law" =some (.ref fa)) (T:Txt w K mg ⟨r0,r1,r2,r3,r4,r5,r6,r7,r8,r9,r10,r11,r12,r13,r14,r15,r16,r17,r18,r19,r20,r21,r22,r23,r24,r25,r26,r27,r28,r29,r30,r31,r32,r33,r34,r35,r36,r37,r38,r39,r40,r41,r42,r43,r44,r45,r46,r47,r48,r49,r50,r51,r52,r53,r54,r55,r56,r57,r58,r59,r60,r61,r62,r63,r64,r65,r66,r67,r68,r69,r70,r71,r72,r73,r74,r75,r76,r77,r78,r79,r80,r81,r82,r83,r84,r85,r86,r87,r88,r89,r90,r91,r92,r93,r94,r95,r96,r97,r98,r99,r100,r101,r102,r103,r104,r105,r106,r107,r108,r109,r110,r111,r112,r113,r114⟩):∃fd:FuncData,(∀(s:Shared) (v:Value),BindsTo s fd ⟨[v],[]⟩ [("_law_script",v)])/\∀base:Heap,K.In base->base.Ns mainGlobals mg->jB l.prog w K mg base Ao 9 fa fd ["_law_script"] (Em K):=by
 have e:=hfa.symm.trans T.N6.m
 cases e
 exact⟨_,V8 T.N6.F fun _ _ _ _ _ _ _=>rfl,fun base _ _=>V4 T⟩
theorem walk {l:PySem.W.OpenLaw} {q:Program} {loose:List Str} {XP:(Str->Option Value)->Heap->Prop} {YP:World->Heap->Prop} {d:DefRec} {K:Params->PySem.W.Frag} (hn:l.most=some 63) (hdf:d.params.defaults=[])
  (hY:∀(w:World) (h:Heap),YP w h->(K w.params).In h)
  (F:∀(w:World) (mg:Str->Option Value) (fa:Addr) (h:Heap),(K w.params).In h->h.Ns mainGlobals mg->mg d.name=some (.ref fa)->
   ∃fd:FuncData,(∀(s:Shared) (u:Value),BindsTo s fd ⟨[u],[]⟩ [("_law_script",u)])/\∀base:Heap,(K w.params).In base->base.Ns mainGlobals mg->jB l.prog w (K w.params) mg base Ao 9 fa fd ["_law_script"] (Em (K w.params))):
  PySem.W.WalkO q loose XP YP l.row.toRowW d [] (fun f vs=>PySem.call f vs):=
 L2.Ub (n:=63) (k:=9) (x:= "_law_script") (CX:=fun _=>Ao) (sp:=fun w=>Em (K w.params)) hn (by decide) hdf ⟨rfl,by decide,by decide⟩ hY F (fun _ _ a ns hl _ hS=>⟨a,ns,rfl,hS,hl,fun _=>rfl⟩) fun _ _ _ _ _ z=>z
end K46
open PySem PySem.W PyProof.Rows L2
set_option maxRecDepth 100000 in
set_option maxHeartbeats 0 in
theorem PySem.Challenge.cw_holdlane_k46_written_down_and_gone_on_holds : PySem.Challenge.rw_holdlane_k46_written_down_and_gone_on.Holds := by
 w_on;o_law
 refine HD.head (by rfl) (by rfl) (by rfl) (by rfl) (by first | assumption | decide +kernel) (by decide +kernel) ⟨rfl,rfl,rfl,rfl,rfl,by decide +kernel⟩ rfl (fun _=>rfl) ?_ ?_
 ·w_witness2
 k_fill
 refine K46.walk (l:=PySem.Challenge.rw_holdlane_k46_written_down_and_gone_on) rfl rfl (fun w h Y=>PySem.W.kIn_of Y) ?F
 case F=>
  intro w mg fa h KX G hmg
  refine' K46.fin hmg ⟨?q0,?q1,?q2,?q3,?q4,?q5,?q6,?q7,?q8,?q9,?q10,?q11,?q12,?q13,?q14,?q15,?q16,?q17,?q18,?q19,?q20,?q21,?q22,?q23,?q24,?q25,?q26,?q27,?q28,?q29,?q30,?q31,?q32,?q33,?q34,?q35,?q36,?q37,?q38,?q39,?q40,?q41,?q42,?q43,?q44,?q45,?q46,?q47,?q48,?q49,?q50,?q51,?q52,?q53,?q54,?q55,?q56,?q57,?q58,?q59,?q60,?q61,?q62,?q63,?q64,?q65,?q66,?q67,?q68,?q69,?q70,?q71,?q72,?q73,?q74,?q75,?q76,?q77,?q78,?q79,?q80,?q81,?q82,?q83,?q84,?q85,?q86,?q87,?q88,?q89,?q90,?q91,?q92,?q93,?q94,?q95,?q96,?q97,?q98,?q99,?q100,?q101,?q102,?q103,?q104,?q105,?q106,?q107,?q108,?q109,?q110,?q111,?q112,?q113,?q114,?q115,?q116,?q117,?q118,?q119,?q120,?q121,?q122,?q123,?q124,?q125,?q126,?q127,?q128,?q129,?q130,?q131,?q132,?q133,?q134,?q135,?q136,?q137⟩
  all_goals try dsimp only
  (case q0 | q1 | q2 | q3 | q4 | q5 | q6 | q7 | q8 | q9 | q10=>refine' ⟨mg_of KX G ?_,⟨?_,?_,?_,?_⟩,?_,?_,⟨?_,?_,?_,?_,?_,?_,?_,trivial⟩,⟨?_,?_,?_,?_,trivial⟩⟩ <;> (try dsimp only) <;> k_is)
  (case q11=>refine' ⟨mg_of KX G ?_,⟨?_,?_,?_,?_⟩,?_,?_,⟨?_,?_,?_,?_,?_,?_,?_,?_,?_,?_,?_,trivial⟩,⟨?_,?_,?_,?_,?_,trivial⟩⟩ <;> (try dsimp only) <;> k_is)
  (case q12=>refine' ⟨mg_of KX G ?_,⟨?_,?_,?_,?_⟩,?_,?_,⟨?_,?_,?_,?_,?_,?_,?_,?_,?_,?_,trivial⟩,⟨?_,?_,?_,?_,?_,?_,trivial⟩⟩ <;> (try dsimp only) <;> k_is)
  (case q13=>refine' ⟨mg_of KX G ?_,⟨?_,?_,?_,?_⟩,?_,?_,⟨?_,?_,?_,?_,?_,?_,?_,?_,?_,?_,?_,?_,trivial⟩,⟨?_,?_,?_,trivial⟩⟩ <;> (try dsimp only) <;> k_is)
  (case q14 | q15=>refine' .of (mg_of KX G ?_) (dU.of ?_ ?_ ?_ ?_ (fun _ _ _ _ _ _=>wQ fun _=>rfl)) <;> (try k_is);all_goals try k_is)
  (case q16=>refine' dU.of ?_ ?_ ?_ ?_ (fun _ _ _ _ _ _=>X6 fun _ _ _ _ _=>rfl) <;> try k_is)
  (case q17 | q18 | q19 | q20 | q21 | q22 | q23 | q24 | q25 | q26 | q27=>refine' dU.of ?_ ?_ ?_ ?_ (fun _ _ _ _ _ _=>wQ fun _=>rfl) <;> try k_is)
  (case q28=>refine' .of (mg_of KX G ?_) (dU.of ?_ ?_ ?_ ?_ (fun _ _ _ _ _ _=>wQ fun _=>rfl)) <;> (try k_is);all_goals try k_is)
  (case q29 | q30 | q31=>refine' .of (mg_of KX G ?_) (dU.of ?_ ?_ ?_ ?_ (fun _ _ _ _ _ _=>X6 fun _ _ _ _ _=>rfl)) <;> (try k_is);all_goals try k_is)
  (case q32=>refine' .of (mg_of KX G ?_) (dU.of ?_ ?_ ?_ ?_ (fun _ _ _ _ _ _=>wQ fun _=>rfl)) <;> (try k_is);all_goals try k_is)
  (case q33 | q34 | q35=>refine' dU.of ?_ ?_ ?_ ?_ (fun _ _ _ _ _ _=>yj fun _ _=>rfl) <;> try k_is)
  (case q36 | q37=>refine' dU.of ?_ ?_ ?_ ?_ (fun _ _ _ _ _ _=>wQ fun _=>rfl) <;> try k_is)
  (case q38 | q39=>refine' dU.of ?_ ?_ ?_ ?_ (fun _ _ _ _ _ _=>yj fun _ _=>rfl) <;> try k_is)
  (case q40 | q41 | q42 | q43 | q44 | q45 | q46 | q47 | q48 | q49 | q50=>refine' dU.of ?_ ?_ ?_ ?_ (fun _ _ _ _ _ _=>FQ fun _ _ _=>rfl) <;> try k_is)
  (case q51 | q52 | q53 | q54=>refine' .of (mg_of KX G ?_) (dU.of ?_ ?_ ?_ ?_ (fun _ _ _ _ _ _=>yj fun _ _=>rfl)) <;> (try k_is);all_goals try k_is)
  (case q55=>refine' .of (mg_of KX G ?_) (dU.of ?_ ?_ ?_ ?_ (fun _ _ _ _ _ _=>FQ fun _ _ _=>rfl)) <;> (try k_is);all_goals try k_is)
  (case q56=>refine' .of (mg_of KX G ?_) (dU.of ?_ ?_ ?_ ?_ (fun _ _ _ _ _ _=>yj fun _ _=>rfl)) <;> (try k_is);all_goals try k_is)
  (case q57=>refine' .of (mg_of KX G ?_) (dU.of ?_ ?_ ?_ ?_ (fun _ _ _ _ _ _=>Zb fun _ _ _ _ _ _=>rfl)) <;> (try k_is);all_goals try k_is)
  (case q58=>refine' .of (mg_of KX G ?_) (dU.of ?_ ?_ ?_ ?_ (fun _ _ _ _ _ _=>Us fun _ _ _ _=>rfl)) <;> (try k_is);all_goals try k_is)
  (case q59 | q60 | q61=>refine' .of (mg_of KX G ?_) (dU.of ?_ ?_ ?_ ?_ (fun _ _ _ _ _ _=>FQ fun _ _ _=>rfl)) <;> (try k_is);all_goals try k_is)
  (case q62=>refine' .of (mg_of KX G ?_) (dU.of ?_ ?_ ?_ ?_ (fun _ _ _ _ _ _=>Us fun _ _ _ _=>rfl)) <;> (try k_is);all_goals try k_is)
  (case q63=>refine' .of (mg_of KX G ?_) (dU.of ?_ ?_ ?_ ?_ (fun _ _ _ _ _ _=>wQ fun _=>rfl)) <;> (try k_is);all_goals try k_is)
  (case q64 | q65=>refine' .of (mg_of KX G ?_) (dU.of ?_ ?_ ?_ ?_ (fun _ _ _ _ _ _=>yj fun _ _=>rfl)) <;> (try k_is);all_goals try k_is)
  (case q66=>refine' .of (mg_of KX G ?_) (dU.of ?_ ?_ ?_ ?_ (fun _ _ _ _ _ _=>FQ fun _ _ _=>rfl)) <;> (try k_is);all_goals try k_is)
  (case q67=>refine' .of (mg_of KX G ?_) (dU.of ?_ ?_ ?_ ?_ (fun _ _ _ _ _ _=>yj fun _ _=>rfl)) <;> (try k_is);all_goals try k_is)
  (case q68=>refine' .of (mg_of KX G ?_) (dU.of ?_ ?_ ?_ ?_ (fun _ _ _ _ _ _=>Us fun _ _ _ _=>rfl)) <;> (try k_is);all_goals try k_is)
  (case q69 | q70 | q71=>refine' .of (mg_of KX G ?_) (dU.of ?_ ?_ ?_ ?_ (fun _ _ _ _ _ _=>FQ fun _ _ _=>rfl)) <;> (try k_is);all_goals try k_is)
  (case q72 | q73=>refine' dU.of ?_ ?_ ?_ ?_ (fun _ _ _ _ _ _=>wQ fun _=>rfl) <;> try k_is)
  (case q74=>refine' dU.of ?_ ?_ ?_ ?_ (fun _ _ _ _ _ _=>yj fun _ _=>rfl) <;> try k_is)
  (case q75 | q76=>refine' dU.of ?_ ?_ ?_ ?_ (fun _ _ _ _ _ _=>wQ fun _=>rfl) <;> try k_is)
  (case q77 | q78 | q79 | q80=>refine' dU.of ?_ ?_ ?_ ?_ (fun _ _ _ _ _ _=>yj fun _ _=>rfl) <;> try k_is)
  (case q81=>refine' .of (mg_of KX G ?_) (dU.of ?_ ?_ ?_ ?_ (fun _ _ _ _ _ _=>wQ fun _=>rfl)) <;> (try k_is);all_goals try k_is)
  (case q82=>refine' dU.of ?_ ?_ ?_ ?_ (fun _ _ _ _ _ _=>wQ fun _=>rfl) <;> try k_is)
  (case q83=>refine' dU.of ?_ ?_ ?_ ?_ (fun _ _ _ _ _ _=>FQ fun _ _ _=>rfl) <;> try k_is)
  (case q84 | q85 | q86 | q87 | q88 | q89 | q90=>refine' dU.of ?_ ?_ ?_ ?_ (fun _ _ _ _ _ _=>yj fun _ _=>rfl) <;> try k_is)
  (case q91 | q92=>refine' dU.of ?_ ?_ ?_ ?_ (fun _ _ _ _ _ _=>FQ fun _ _ _=>rfl) <;> try k_is)
  (case q93 | q94 | q95 | q96=>refine' dU.of ?_ ?_ ?_ ?_ (fun _ _ _ _ _ _=>yj fun _ _=>rfl) <;> try k_is)
  (case q97=>refine' dU.of ?_ ?_ ?_ ?_ (fun _ _ _ _ _ _=>wQ fun _=>rfl) <;> try k_is)
  (case q98=>refine' dU.of ?_ ?_ ?_ ?_ (fun _ _ _ _ _ _=>yj fun _ _=>rfl) <;> try k_is)
  (case q99=>refine' Xc.of ?_ ?_ ?_ ?_ ?_ (fun _ F=>F.binds fun _ _ _ _ _ _ _=>yj fun _ _=>⟨_,rfl,rfl⟩) <;> (try k_is);all_goals try k_is)
  (case q100=>refine' .of (mg_of KX G ?_) (dU.of ?_ ?_ ?_ ?_ (fun _ _ _ _ _ _=>wQ fun _=>rfl)) <;> (try k_is);all_goals try k_is)
  (case q101=>refine' .of (mg_of KX G ?_) (dU.of ?_ ?_ ?_ ?_ (fun _ _ _ _ _ _=>yj fun _ _=>rfl)) <;> (try k_is);all_goals try k_is)
  (case q102=>refine' dU.of ?_ ?_ ?_ ?_ (fun _ _ _ _ _ _=>FQ fun _ _ _=>rfl) <;> try k_is)
  (case q103 | q104=>refine' dU.of ?_ ?_ ?_ ?_ (fun _ _ _ _ _ _=>yj fun _ _=>rfl) <;> try k_is)
  (case q105=>refine' dU.of ?_ ?_ ?_ ?_ (fun _ _ _ _ _ _=>wQ fun _=>rfl) <;> try k_is)
  (case q106=>refine' dU.of ?_ ?_ ?_ ?_ (fun _ _ _ _ _ _=>yj fun _ _=>rfl) <;> try k_is)
  (case q107=>refine' dU.of ?_ ?_ ?_ ?_ (fun _ _ _ _ _ _=>wQ fun _=>rfl) <;> try k_is)
  (case q108=>refine' .of (mg_of KX G ?_) (dU.of ?_ ?_ ?_ ?_ (fun _ _ _ _ _ _=>FQ fun _ _ _=>rfl)) <;> (try k_is);all_goals try k_is)
  (case q109=>refine' .of (mg_of KX G ?_) (dU.of ?_ ?_ ?_ ?_ (fun _ _ _ _ _ _=>wQ fun _=>rfl)) <;> (try k_is);all_goals try k_is)
  (case q110=>refine' .of (mg_of KX G ?_) (dU.of ?_ ?_ ?_ ?_ (fun _ _ _ _ _ _=>FQ fun _ _ _=>rfl)) <;> (try k_is);all_goals try k_is)
  (case q111 | q112=>refine' .of (mg_of KX G ?_) (dU.of ?_ ?_ ?_ ?_ (fun _ _ _ _ _ _=>Us fun _ _ _ _=>rfl)) <;> (try k_is);all_goals try k_is)
  (case q113=>refine' .of (mg_of KX G ?_) (dU.of ?_ ?_ ?_ ?_ (fun _ _ _ _ _ _=>wQ fun _=>rfl)) <;> (try k_is);all_goals try k_is)
  (case q114=>refine' mg_of KX G ?_;k_is)
  (case q115=>
   refine' L2.KTab.mk' ?lk ?c1 ?c2 ?c3 ?c4 ?sm ?rows ?nd
   (case lk=>k_is)
   (case c1=>exact rfl)
   (case c2=>exact rfl)
   (case c3=>exact rfl)
   (case c4=>exact rfl)
   (case sm=>exact rfl)
   (case nd=>decide +kernel)
   (case rows=>
    refine' L2.kh.cons ?hh0 ?lk0 ?cc0 ?dd0 ?vv0 ?zz0 ?rest0
    (case hh0=>exact rfl)
    (case lk0=>k_is)
    (case cc0=>exact rfl)
    (case dd0=>exact rfl)
    (case vv0=>exact .cons ⟨_,rfl⟩ (.cons ⟨_,rfl⟩ (.cons ⟨_,rfl⟩ .nil)))
    (case zz0=>decide)
    refine' L2.kh.cons ?hh1 ?lk1 ?cc1 ?dd1 ?vv1 ?zz1 ?rest1
    (case hh1=>exact rfl)
    (case lk1=>k_is)
    (case cc1=>exact rfl)
    (case dd1=>exact rfl)
    (case vv1=>exact .cons ⟨_,rfl⟩ (.cons ⟨_,rfl⟩ (.cons ⟨_,rfl⟩ .nil)))
    (case zz1=>decide)
    refine' L2.kh.cons ?hh2 ?lk2 ?cc2 ?dd2 ?vv2 ?zz2 ?rest2
    (case hh2=>exact rfl)
    (case lk2=>k_is)
    (case cc2=>exact rfl)
    (case dd2=>exact rfl)
    (case vv2=>exact .cons ⟨_,rfl⟩ (.cons ⟨_,rfl⟩ (.cons ⟨_,rfl⟩ .nil)))
    (case zz2=>decide)
    refine' L2.kh.cons ?hh3 ?lk3 ?cc3 ?dd3 ?vv3 ?zz3 ?rest3
    (case hh3=>exact rfl)
    (case lk3=>k_is)
    (case cc3=>exact rfl)
    (case dd3=>exact rfl)
    (case vv3=>exact .cons ⟨_,rfl⟩ (.cons ⟨_,rfl⟩ (.cons ⟨_,rfl⟩ .nil)))
    (case zz3=>decide)
    refine' L2.kh.cons ?hh4 ?lk4 ?cc4 ?dd4 ?vv4 ?zz4 ?rest4
    (case hh4=>exact rfl)
    (case lk4=>k_is)
    (case cc4=>exact rfl)
    (case dd4=>exact rfl)
    (case vv4=>exact .cons ⟨_,rfl⟩ (.cons ⟨_,rfl⟩ (.cons ⟨_,rfl⟩ .nil)))
    (case zz4=>decide)
    refine' L2.kh.cons ?hh5 ?lk5 ?cc5 ?dd5 ?vv5 ?zz5 ?rest5
    (case hh5=>exact rfl)
    (case lk5=>k_is)
    (case cc5=>exact rfl)
    (case dd5=>exact rfl)
    (case vv5=>exact .cons ⟨_,rfl⟩ (.cons ⟨_,rfl⟩ (.cons ⟨_,rfl⟩ .nil)))
    (case zz5=>decide)
    refine' L2.kh.cons ?hh6 ?lk6 ?cc6 ?dd6 ?vv6 ?zz6 ?rest6
    (case hh6=>exact rfl)
    (case lk6=>k_is)
    (case cc6=>exact rfl)
    (case dd6=>exact rfl)
    (case vv6=>exact .cons ⟨_,rfl⟩ (.cons ⟨_,rfl⟩ (.cons ⟨_,rfl⟩ .nil)))
    (case zz6=>decide)
    refine' L2.kh.cons ?hh7 ?lk7 ?cc7 ?dd7 ?vv7 ?zz7 ?rest7
    (case hh7=>exact rfl)
    (case lk7=>k_is)
    (case cc7=>exact rfl)
    (case dd7=>exact rfl)
    (case vv7=>exact .cons ⟨_,rfl⟩ (.cons ⟨_,rfl⟩ (.cons ⟨_,rfl⟩ .nil)))
    (case zz7=>decide)
    refine' L2.kh.cons ?hh8 ?lk8 ?cc8 ?dd8 ?vv8 ?zz8 ?rest8
    (case hh8=>exact rfl)
    (case lk8=>k_is)
    (case cc8=>exact rfl)
    (case dd8=>exact rfl)
    (case vv8=>exact .cons ⟨_,rfl⟩ (.cons ⟨_,rfl⟩ (.cons ⟨_,rfl⟩ .nil)))
    (case zz8=>decide)
    refine' L2.kh.cons ?hh9 ?lk9 ?cc9 ?dd9 ?vv9 ?zz9 ?rest9
    (case hh9=>exact rfl)
    (case lk9=>k_is)
    (case cc9=>exact rfl)
    (case dd9=>exact rfl)
    (case vv9=>exact .cons ⟨_,rfl⟩ (.cons ⟨_,rfl⟩ (.cons ⟨_,rfl⟩ .nil)))
    (case zz9=>decide)
    refine' L2.kh.cons ?hh10 ?lk10 ?cc10 ?dd10 ?vv10 ?zz10 ?rest10
    (case hh10=>exact rfl)
    (case lk10=>k_is)
    (case cc10=>exact rfl)
    (case dd10=>exact rfl)
    (case vv10=>exact .cons ⟨_,rfl⟩ (.cons ⟨_,rfl⟩ (.cons ⟨_,rfl⟩ .nil)))
    (case zz10=>decide)
    exact .nil))
  (case q116 | q117 | q118 | q119 | q120 | q121 | q122 | q123 | q124 | q125 | q126 | q127 | q128 | q129=>refine' mg_none_of KX G ?_;k_is)
  (case q130 | q131 | q132 | q133 | q134 | q135 | q136 | q137=>refine' gC (mg_of KX G ?_) ?_ <;> (try k_is);all_goals exact⟨_,rfl⟩)
