import PyProof.Rows.All
import Wide.All
import OpenK.AllK
import Wide.FinOn
import Lean
import PyProof.EqAt
import PyProof.EqKinds
import PyProof.TupleCall
import PyProof.StrLawsChain
import PyProof.StrLawsOccR
import PyProof.StrLawsReplace
import PyProof.NeKinds
import PyProof.EnumStmt
import PyProof.EnumMake
import PyProof.ListRange
import PyProof.StationsW
import PyProof.ExcClass2
import PyProof.ExcInit
import PyProof.InstStoreFacts
import OpenK.KRaise
import PyProof.NsDelKeeps
import PyProof.RulesAs
import PyProof.Rows.Catch
import OpenK.KOwn
import PyProof.ExcArgsOwn
import PyProof.ExcAttrAll.ValueError
import PyProof.IsiBase
import PyProof.MaxThree
import PyProof.SeqI3
import KE.KIsAll
import KE.IntTextLaws
import PyProof.StrLawsIdx
import PyProof.FitsInt
import PySem.Challenge.RW_holdlane_k45_whole_a_beginning_of_the_pl
set_option Elab.async false
set_option linter.all false
set_option maxRecDepth 100000
namespace L2
open PySem PySem.Spec PyProof.Rows
noncomputable abbrev Key:=Sum Int Str
noncomputable def Gh:Key->Value->Bool
 | .inl k,v=>Value.isInt k v
 | .inr x,v=>Value.isStrOf x v
noncomputable def Zr (w:World):Key->Int
 | .inl k=>hashInt k
 | .inr x=>hashStr w x
theorem eX:∀{k:Key} {v:Value},Gh k v=true->(∃i t,k=Sum.inl i/\v=Value.int i t)∨(∃x t,k=Sum.inr x/\v=Value.str x t)
 | .inl i,v,h=>by
  obtain⟨t,e⟩:=Value.isInt_shape (k:=i) (v:=v) h
  exact .inl ⟨i,t,rfl,e⟩
 | .inr x,v,h=>by
  obtain⟨t,e⟩:=Value.isStrOf_shape (x:=x) (v:=v) h
  exact .inr ⟨x,t,rfl,e⟩
theorem O1 (i:Int) (t:Tok):Gh (.inl i) (.int i t)=true:=by simp [Gh,Value.isInt]
theorem Od (x:Str) (t:Tok):Gh (.inr x) (.str x t)=true:=by simp [Gh,Value.isStrOf]
theorem VL (a b:Int):decide ((Sum.inl a:Key)=Sum.inl b)=(a == b):=by
 by_cases e:a=b
 ·subst e;simp
 ·have h:¬(Sum.inl a:Key)=Sum.inl b:=fun q=>e (Sum.inl.inj q)
  rw [decide_eq_false h]
  exact(beq_eq_false_iff_ne.mpr e).symm
theorem WD (a b:Str):decide ((Sum.inr a:Key)=Sum.inr b)=decide (a=b):=by
 by_cases e:a=b
 ·subst e;simp
 ·have h:¬(Sum.inr a:Key)=Sum.inr b:=fun q=>e (Sum.inr.inj q)
  rw [decide_eq_false h,decide_eq_false e]
theorem Wg (a:Int) (b:Str):decide ((Sum.inl a:Key)=Sum.inr b)=false:=decide_eq_false (fun q=>nomatch q)
theorem V4 (a:Str) (b:Int):decide ((Sum.inr a:Key)=Sum.inl b)=false:=decide_eq_false (fun q=>nomatch q)
noncomputable def cZ (prog:Program) (w:World):PySem.KeyKind prog w Key where
 is:=Gh
 hash:=Zr w
 inj:=fun v a b ha hb=>by
  rcases eX ha with ⟨i,t,rfl,rfl⟩ | ⟨x,t,rfl,rfl⟩
  ·rcases eX hb with ⟨j,u,rfl,e⟩ | ⟨y,u,rfl,e⟩
   ·injection e with e1 _;rw [e1]
   ·exact nomatch e
  ·rcases eX hb with ⟨j,u,rfl,e⟩ | ⟨y,u,rfl,e⟩
   ·exact nomatch e
   ·injection e with e1 _;rw [e1]
 byValue:=fun k v h=>by
  rcases eX h with ⟨i,t,rfl,rfl⟩ | ⟨x,t,rfl,rfl⟩ <;> rfl
 pyHash:=fun hv h=>by
  rcases eX hv with ⟨i,t,rfl,rfl⟩ | ⟨x,t,rfl,rfl⟩
  ·exact wpAny_pyHash_int h
  ·exact wpAny_pyHash_str h
 eqBool:=fun hu hv h=>by
  rcases eX hu with ⟨i,t,rfl,rfl⟩ | ⟨x,t,rfl,rfl⟩
  ·rcases eX hv with ⟨j,u,rfl,rfl⟩ | ⟨y,u,rfl,rfl⟩
   ·rw [VL] at h;exact wpAny_eqBool_int h
   ·rw [Wg] at h;exact SeqAt.EqAt.int_str i t y u _ _ _ _ h
  ·rcases eX hv with ⟨j,u,rfl,rfl⟩ | ⟨y,u,rfl,rfl⟩
   ·rw [V4] at h;exact SeqAt.EqAt.str_int x t j u _ _ _ _ h
   ·rw [WD] at h;exact wpAny_eqBool_str h
 «strs» :=fun k x t v h=>by
  rcases eX h with ⟨i,u,rfl,e⟩ | ⟨y,u,rfl,e⟩
  ·exact nomatch e
  ·injection e with e1 _
   subst e1
   cases v <;> rfl
theorem Jr (prog:Program) (w:World) (i:Int) (t:Tok):(cZ prog w).is (.inl i) (.int i t)=true:=O1 i t
theorem my (prog:Program) (w:World) (x:Str) (t:Tok):(cZ prog w).is (.inr x) (.str x t)=true:=Od x t
inductive V where
 | non | bl (b:Bool) | int (i:Int) | str (x:Str) | byt (b:Array UInt8) | flt (b:UInt64) | ref (a:Addr) | ty (n:String)
 deriving DecidableEq
noncomputable def RelV:V->Value->Prop
 | .non,u=>u=Value.none
 | .bl b,u=>u=Value.bool b
 | .int i,u=>∃t,u=Value.int i t
 | .str x,u=>∃t,u=Value.str x t
 | .byt b,u=>∃t,u=Value.bytes b t
 | .flt b,u=>∃t,u=Value.float b t
 | .ref a,u=>u=Value.ref a
 | .ty n,u=>u=Value.type n
noncomputable abbrev Vals:List V->List Value->Prop:=Paired RelV
theorem Vals.length {xs:List V} {us:List Value} (r:Vals xs us):xs.length=us.length:=Paired.length r
theorem Vals.get:∀{xs:List V} {us:List Value} {i:Nat} {x:V},Vals xs us->xs[i]?=some x->∃u,us[i]?=some u/\RelV x u
 | _,_,_,_,.nil,e=>by simp at e
 | _,_,0,_,.cons r _,e=>by simp at e;subst e;exact⟨_,rfl,r⟩
 | _,_,i+1,x,.cons _ t,e=>by
  obtain⟨u,h1,h2⟩:=Vals.get (i:=i) (x:=x) t (by simpa using e)
  exact⟨u,by simpa using h1,h2⟩
theorem Vals.set {x:V} {u:Value} (r:RelV x u):∀{xs:List V} {us:List Value} (i:Nat),Vals xs us->Vals (xs.set i x) (us.set i u)
 | _,_,_,.nil=>.nil
 | _,_,0,.cons _ t=>.cons r t
 | _,_,i+1,.cons q t=>.cons q (Vals.set r i t)
theorem Vals.append:∀{xs ys:List V} {us ws:List Value},Vals xs us->Vals ys ws->Vals (xs ++ ys) (us ++ ws)
 | _,_,_,_,.nil,s=>s
 | _,_,_,_,.cons r t,s=>.cons r (Vals.append t s)
theorem Vals.take:∀{xs:List V} {us:List Value} (n:Nat),Vals xs us->Vals (xs.take n) (us.take n)
 | _,_,0,_=>.nil
 | _,_,_+1,.nil=>.nil
 | _,_,n+1,.cons r t=>.cons r (Vals.take n t)
theorem Vals.drop:∀{xs:List V} {us:List Value} (n:Nat),Vals xs us->Vals (xs.drop n) (us.drop n)
 | _,_,0,r=>r
 | _,_,_+1,.nil=>.nil
 | _,_,n+1,.cons _ t=>Vals.drop n t
noncomputable def tR:Option V->Option Value->Prop
 | some v,some u=>RelV v u
 | none,none=>True
 | _,_=>False
noncomputable def KV {κ:Type}:List (κ×V)->List (κ×Value)->Prop:=Paired fun(p:κ×V) (q:κ×Value)=>p.1=q.1/\RelV p.2 q.2
noncomputable def kV:Key->V
 | .inl i=>.int i
 | .inr x=>.str x
inductive HO where
  | lst (xs:List V)
  | tup (xs:List V)
  | dK (kvs:List (Key×V)) | dT (kvs:List (List Key×V))
  | set (S:Int->Bool) (n:Nat)
  | ins (C dx:Addr) (fs:List (Str×V))
  | own (x:Addr)
  | xd (fs:List (Str×V))
  | met (f x:Addr)
  | rng (lo hi:Int)
  | frz (o:Obj) (u:HO)
  | tbl (ps:Array Value)
  | ext (φ:Heap->Prop)
noncomputable abbrev Hp:=Addr->Option HO
noncomputable def upd (H:Hp) (a:Addr) (o:HO):Hp:=fun b=>if b=a then some o else H b
theorem az {H:Hp} {a:Addr} {o:HO}:upd H a o a=some o:=by unfold upd;rw [if_pos rfl]
theorem aH {H:Hp} {a b:Addr} {o:HO} (h:b≠a):upd H a o b=H b:=by unfold upd;rw [if_neg h]
theorem sZ {H:Hp} {a:Addr} {o u:HO}:upd (upd H a o) a u=upd H a u:=by
 funext b;unfold upd;split <;> rfl
theorem vZ {H:Hp} {a b:Addr} {o u:HO} (h:H a=some o) (h':H b=some u) (d:o≠u):a≠b:=by
 intro e;subst e;rw [h] at h';exact d (Option.some.inj h')
theorem aF {H:Hp} {a b:Addr} {o:HO} (h:H a=some o) (h':H b=none):a≠b:=by
 intro e;subst e;rw [h] at h';cases h'
section
variable (P:Program) (w:World)
noncomputable def fY (H:Hp) (h:Heap) (a:Addr):HO->Prop
 | .lst xs=>xs.length<=sizeLine/\∃(its:List Value) (n:Nat),Vals xs its/\h.get? a=some { cls:=.type "list",data:=.seq its.toArray n }
 | .tup xs=>xs.length<=sizeLine/\∃its:List Value,Vals xs its/\IsTup h a its.toArray
 | .dK kvs=>kvs.length<=sizeLine/\(a == sysModules)=false/\∃vs,KV kvs vs/\h.DictOf (cZ P w) a vs
 | .dT kvs=>kvs.length<=sizeLine/\(a == sysModules)=false/\∃xs:List (List Key×Addr×Value),
   Paired (fun(p:List Key×V) (q:List Key×Addr×Value)=>p.1=q.1/\H q.2.1=some (.tup (p.1.map kV))/\RelV p.2 q.2.2) kvs xs/\
   ∃o es ep,h.get? a=some o/\o.ExactDict/\o.data=.dict es ep/\es.toList=xs.map (entryOfKey (tupleKind (cZ P w)))/\(xs.map (·.1)).Nodup
 | .set S n=>h.SetOf (intKind P w) a S n
 | .ins C dx fs=>H dx=some (.own a)/\fs.length<=1000/\dx≠a/\h.get? a=some (PySem.W.instObj C dx)/\
   ∃mA,h.Ns1 dx mA/\(∀f,tR (fs.lookup f) (mA f))/\PySem.Within mA (fs.map (·.1))
 | .own _=>∃o,h.get? a=some o
 | .xd fs=>∃mA,h.Ns1 a mA/\∀f,tR (fs.lookup f) (mA f)
 | .rng lo hi=>∃t u v,h.get? a=some { cls:=.type "range",data:=.fields #[.int lo t,.int hi u,.int 1 v] }
 | .frz o u=>h.get? a=some o/\fY H h a u
 | .tbl ps=>h.get? a=some { cls:=.none,data:=.fields ps }
 | .met f x=>h.get? a=some (PySem.W.methodObj (.ref f) (.ref x))
 | .ext φ=>φ h/\(∃o,h.get? a=some o)/\∀h1 h2:Heap,φ h1->(∀o,h1.get? a=some o->h2.get? a=some o)->φ h2
noncomputable def vf (H:Hp) (h:Heap):Prop:=∀a o,H a=some o->fY P w H h a o
end
section
variable {P:Program} {w:World} {H H':Hp} {h h':Heap} {a:Addr} {o:HO}
theorem fY.lt (x:fY P w H h a o):a <h.objs.size:=by
 cases o with
 | lst xs=>obtain⟨_,_,_,_,e⟩:=x;exact Heap.lt_size e
 | tup xs=>obtain⟨_,_,_,p⟩:=x;exact p.lt
 | dK kvs=>obtain⟨_,_,_,_,o,_,_,e,_⟩:=x;exact Heap.lt_size e
 | dT kvs=>obtain⟨_,_,_,_,o,_,_,e,_⟩:=x;exact Heap.lt_size e
 | set S n=>obtain⟨o,_,_,_,e,_⟩:=x;exact Heap.lt_size e
 | ins C dx fs=>obtain⟨_,_,_,e,_⟩:=x;exact Heap.lt_size e
 | own y=>obtain⟨_,e⟩:=x;exact Heap.lt_size e
 | xd fs=>obtain⟨_,⟨_,_,_,e,_⟩,_⟩:=x;exact Heap.lt_size e
 | rng lo hi=>obtain⟨_,_,_,e⟩:=x;exact Heap.lt_size e
 | frz ob u=>obtain⟨e,_⟩:=x;exact Heap.lt_size e
 | tbl ps=>exact Heap.lt_size (show h.get? a=some _ from x)
 | met f y=>exact Heap.lt_size (show h.get? a=some _ from x)
 | ext φ=>obtain⟨_,⟨_,e⟩,_⟩:=x;exact Heap.lt_size e
theorem Paired.mapP {α β:Type} {F G:α->β->Prop}:∀{l₁:List α} {l₂:List β},Paired F l₁ l₂->(∀a b,F a b->G a b)->Paired G l₁ l₂
 | _,_,.nil,_=>.nil
 | _,_,.cons r t,f=>.cons (f _ _ r) (Paired.mapP t f)
theorem fY.stay (x:fY P w H h a o) (k:∀b u,(b=a∨H b=some (.own a))->h.get? b=some u->h'.get? b=some u)
  (ho:∀b,H b=some (.own a)->H' b=some (.own a)) (ht:∀b xs,H b=some (.tup xs)->H' b=some (.tup xs)):fY P w H' h' a o:=by
 induction o with
 | lst xs=>obtain⟨z,its,n,r,e⟩:=x;exact⟨z,its,n,r,k _ _ (.inl rfl) e⟩
 | tup xs=>obtain⟨z,its,r,ob,e,c⟩:=x;exact⟨z,its,r,ob,k _ _ (.inl rfl) e,c⟩
 | dK kvs=>obtain⟨z,y,vs,r,ob,es,ep,e,c⟩:=x;exact⟨z,y,vs,r,ob,es,ep,k _ _ (.inl rfl) e,c⟩
 | dT kvs=>
  obtain⟨z,y,xs,r,ob,es,ep,e,c⟩:=x
  exact⟨z,y,xs,Paired.mapP r fun p q z=>⟨z.1,ht _ _ z.2.1,z.2.2⟩,ob,es,ep,k _ _ (.inl rfl) e,c⟩
 | set S n=>obtain⟨ob,es,ep,t,e,c⟩:=x;exact⟨ob,es,ep,t,k _ _ (.inl rfl) e,c⟩
 | ins C dx fs=>
  obtain⟨d,z,ne,e,mA,⟨od,es,ep,e2,c⟩,r⟩:=x
  exact⟨ho _ d,z,ne,k _ _ (.inl rfl) e,mA,⟨od,es,ep,k _ _ (.inr d) e2,c⟩,r⟩
 | own y=>obtain⟨ob,e⟩:=x;exact⟨ob,k _ _ (.inl rfl) e⟩
 | xd fs=>obtain⟨mA,⟨od,es,ep,e,c⟩,r⟩:=x;exact⟨mA,⟨od,es,ep,k _ _ (.inl rfl) e,c⟩,r⟩
 | rng lo hi=>obtain⟨t,u,v,e⟩:=x;exact⟨t,u,v,k _ _ (.inl rfl) e⟩
 | frz ob u ih=>obtain⟨e,q⟩:=x;exact⟨k _ _ (.inl rfl) e,ih q⟩
 | tbl ps=>
  have e:h.get? a=some { cls:=.none,data:=.fields ps }:=x
  show h'.get? a=some { cls:=.none,data:=.fields ps }
  exact k a _ (.inl rfl) e
 | met f y=>
  have e:h.get? a=some (PySem.W.methodObj (.ref f) (.ref y)):=x
  show h'.get? a=some (PySem.W.methodObj (.ref f) (.ref y))
  exact k a _ (.inl rfl) e
 | ext φ=>obtain⟨p,⟨o,e⟩,st⟩:=x;exact⟨st _ _ p fun o q=>k _ _ (.inl rfl) q,⟨o,k _ _ (.inl rfl) e⟩,st⟩
theorem vf.lt (x:vf P w H h) (e:H a=some o):a <h.objs.size:=(x a o e).lt
theorem vf.fresh (x:vf P w H h) (e:h.objs.size<=a):H a=none:=by
 cases q:H a with
 | none=>rfl
 | some u=>exact absurd (Nat.lt_of_lt_of_le (x.lt q) e) (Nat.lt_irrefl _)
theorem vf.kept (x:vf P w H h) (k:∀b u,h.get? b=some u->h'.get? b=some u):vf P w H h':=fun a o e=>
 (x a o e).stay (fun b u _ q=>k b u q) (fun _ q=>q) fun _ _ q=>q
theorem vf.laid (x:vf P w H h) (k:∀b u,h.get? b=some u->h'.get? b=some u) (hp:h.objs.size<=a) (new:fY P w (upd H a o) h' a o):vf P w (upd H a o) h':=fun b u e=>by
 have hn:=x.fresh hp
 by_cases hb:b=a
 ·subst hb;rw [az] at e;cases e;exact new
 ·rw [aH hb] at e
  exact(x b u e).stay (fun c v _ q=>k c v q) (fun c q=>by rw [aH (aF q hn)];exact q) fun c xs q=>by rw [aH (aF q hn)];exact q
end
noncomputable def Rd (H:Hp) (a:Addr) (u:HO):Prop:=H a=some u∨∃o,H a=some (.frz o u)
theorem Rd.ok {P:Program} {w:World} {H:Hp} {h:Heap} {a:Addr} {u:HO} (r:Rd H a u) (x:vf P w H h):fY P w H h a u:=by
 rcases r with r | ⟨o,r⟩
 ·exact x a u r
 ·obtain⟨_,q⟩:=x a _ r
  exact q
noncomputable def XR:Option HO->Prop
 | some (.lst _)=>True
 | some (.dK _)=>True
 | some (.dT _)=>True
 | some (.set _ _)=>True
 | some (.ins _ _ _)=>True
 | some (.ext _)=>True
 | _=>False
section
variable {P:Program} {w:World} {H:Hp} {h h':Heap} {x e:Addr} {o':HO}
theorem vf.write (ok:vf P w H h) (mu:XR (H x)) (he:e=x∨H e=some (.own x)) (k:∀b u,b≠e->h.get? b=some u->h'.get? b=some u) (heo:∃u,h'.get? e=some u)
  (new:fY P w (upd H x o') h' x o'):vf P w (upd H x o') h':=fun b u q=>by
 have nown:∀c y,H c=some (.own y)->c≠x:=fun c y r z=>by subst z;rw [r] at mu;exact mu
 have ntup:∀c xs,H c=some (.tup xs)->c≠x:=fun c xs r z=>by subst z;rw [r] at mu;exact mu
 by_cases hb:b=x
 ·subst hb;rw [az] at q;cases q;exact new
 ·rw [aH hb] at q
  by_cases hbe:b=e
  ·have q':H b=some (.own x):=by
    rcases he with z | z
    ·exact absurd (hbe.trans z) hb
    ·rw [hbe];exact z
   rw [q] at q';cases q'
   obtain⟨v,hv⟩:=heo
   exact⟨v,by rw [hbe];exact hv⟩
  ·refine(ok b u q).stay (fun c v hc r=>k c v ?_ r) (fun c r=>by rw [aH (nown c b r)];exact r) fun c xs r=>by rw [aH (ntup c xs r)];exact r
   rcases hc with rfl | hc
   ·exact hbe
   ·rintro rfl
    rcases he with z | z
    ·exact nown c b hc z
    ·rw [hc] at z;cases z;exact hb rfl
end
structure Un (fs ex:List Addr) (H H':Hp) (h h':Heap):Prop where
 keep:∀b o,h.get? b=some o->H b=none->b∉fs->b∉ex->h'.get? b=some o
 slot:∀b o,h.get? b=some o->H b=none->b∈fs->b∉ex->∃sl,h'.get? b=some { o with slots:=sl }
 free:∀b o,h.get? b=some o->H b=none->b∉ex->H' b=none
 there:∀b o,h.get? b=some o->b∉ex->∃o',h'.get? b=some o'
 tups:∀b xs,H b=some (.tup xs)->H' b=some (.tup xs)
 frzs:∀b o u,H b=some (.frz o u)->H' b=some (.frz o u)
 tbls:∀b ps,H b=some (.tbl ps)->∃more,H' b=some (.tbl (ps ++ more))
section
variable {fs fs' ex ex':List Addr} {H H1 H2:Hp} {h h1 h2 h':Heap} {a x e:Addr} {o:HO}
theorem Un.any (u:Un fs ex H H1 h h1) {b:Addr} {ob:Obj} (q:h.get? b=some ob) (n:H b=none) (hx:b∉ex):∃sl,h1.get? b=some { ob with slots:=sl }:=by
 by_cases hb:b∈fs
 ·exact u.slot b ob q n hb hx
 ·exact⟨ob.slots,u.keep b ob q n hb hx⟩
theorem Un.kept (k:∀b u,h.get? b=some u->h'.get? b=some u):Un fs ex H H h h':=
 ⟨fun b ob q _ _ _=>k b ob q,fun b ob q _ _ _=>⟨ob.slots,k b ob q⟩,fun _ _ _ n _=>n,fun b ob q _=>⟨ob,k b ob q⟩,fun _ _ q=>q,fun _ _ _ q=>q,fun _ ps q=>⟨#[],by rw [q];simp⟩⟩
theorem Un.refl:Un fs ex H H h h:=Un.kept fun _ _ q=>q
theorem Un.laid (k:∀b u,h.get? b=some u->h'.get? b=some u) (hp:h.objs.size<=a) (hn:H a=none):Un fs ex H (upd H a o) h h' where
 keep:=fun b u q _ _ _=>k b u q
 slot:=fun b u q _ _ _=>⟨u.slots,k b u q⟩
 free:=fun b u q n _=>by rw [aH (Nat.ne_of_lt (Nat.lt_of_lt_of_le (Heap.lt_size q) hp))];exact n
 there:=fun b u q _=>⟨u,k b u q⟩
 tups:=fun b xs q=>by rw [aH (aF q hn)];exact q
 frzs:=fun b u xs q=>by rw [aH (aF q hn)];exact q
 tbls:=fun b ps q=>⟨#[],by rw [aH (aF q hn),q];simp⟩
theorem Un.write (mu:XR (H x)) (he:e=x∨H e=some (.own x)) (k:∀b u,b≠e->h.get? b=some u->h'.get? b=some u) (heo:∃u,h'.get? e=some u):Un fs ex H (upd H x o) h h':=by
 have hx:∀b,H b=none->b≠x:=fun b n z=>by subst z;rw [n] at mu;exact mu
 have hb:∀b,H b=none->b≠e:=fun b n z=>by
  subst z
  rcases he with r | r
  ·exact hx b n r
  ·rw [n] at r;cases r
 have hm:∀b u,H b=some u->¬XR (some u)->b≠x:=fun b u q nm z=>by subst z;rw [q] at mu;exact nm mu
 refine⟨fun b u q n _ _=>k b u (hb b n) q,fun b u q n _ _=>⟨u.slots,k b u (hb b n) q⟩,fun b u q n _=>by rw [aH (hx b n)];exact n,fun b u q _=>?_,
  fun b xs q=>by rw [aH (hm b _ q fun z=>z)];exact q,fun b u xs q=>by rw [aH (hm b _ q fun z=>z)];exact q,fun b ps q=>⟨#[],by rw [aH (hm b _ q fun z=>z),q];simp⟩⟩
 by_cases hbe:b=e
 ·subst hbe;exact heo
 ·exact⟨u,k b u hbe q⟩
end
noncomputable def YT (h:Heap) (H:Hp):List Addr:=(List.range h.objs.size).filter fun a=>(H a).isSome
noncomputable def Jk (h:Heap) (H:Hp):Heap:=PySem.W.hideAll h (YT h H)
theorem Oo (h:Heap) (H:Hp):(Jk h H).objs.size=h.objs.size:=PySem.W.hideAll_size _ _
theorem Qw {h:Heap} {H:Hp} {b:Addr} {o:Obj} (e:h.get? b=some o) (n:H b=none):(Jk h H).get? b=some o:=
 PySem.W.hideAll_get _ e fun hm=>by
  have q:(H b).isSome=true:=(List.mem_filter.mp hm).2
  rw [n] at q;simp at q
theorem Ub {h:Heap} {H:Hp} {b:Addr} {o:Obj} (e:(Jk h H).get? b=some o):h.get? b=some o/\H b=none:=by
 have e':h.get? b=some o:=PySem.W.of_hideAll (YT h H) e
 refine⟨e',?_⟩
 cases q:H b with
 | none=>rfl
 | some x=>
  have hm:b∈YT h H:=List.mem_filter.mpr ⟨List.mem_range.mpr (Heap.lt_size e'),by simp [q]⟩
  have z:(Jk h H).get? b=none:=PySem.W.hideAll_none (YT h H) hm
  rw [z] at e;cases e
structure Mod (K:PySem.W.Frag) (mg:Str->Option Value) (base:Heap):Prop where
 kin:K.In base
 glob:base.Ns mainGlobals mg
 blt:∃mb,base.Ns builtinsNs mb/\∀x:Str,x≠ "__name__" ->mb x=bootBuiltins x
 nolimit:base.NoLimit
structure Cx where
 prog:Program
 w:World
 K:PySem.W.Frag
 mg:Str->Option Value
 base:Heap
 A:Around
 N:List Str
 s₀:Shared
 H₀:Hp
 env:Env
 outer:List Env
 stack:List Env
 ex:List Addr
 fn:Str->Bool
 calm:Bool
 pn:List (Addr×Obj)
 xe:Value->Shared->Prop
noncomputable def frs (l:List Env):List Addr:=l.filterMap (·.frame)
noncomputable abbrev Cx.fs (X:Cx):List Addr:=frs X.outer
noncomputable def YZ (sc:Scope) (x:Str):Prop:=sc.names.lookup x=some .local∨sc.names.lookup x=some .cell∨sc.names.lookup x=some .free
noncomputable def Loc (sc:Scope) (x:Str):Prop:=sc.names.lookup x=some .local∨sc.names.lookup x=some .cell
noncomputable def Look (env:Env) (h:Heap) (m:Str->Option Value) (x:Str) (u:Value):Prop:=
 (env.kindOf x=some .local/\m x=some u)∨((env.kindOf x=some .cell∨env.kindOf x=some .free)/\∃c,env.cells.lookup x=some c/\h.IsCell c (some u))
structure Cx.Ok (X:Cx):Prop where
 mod:Mod X.K X.mg X.base
 kind:X.env.scope.kind=.function
 glob:X.env.globals=mainGlobals
 blt:X.env.builtins=builtinsNs
 above:X.s₀.heap.objs.size<=X.env.locals
 inj:∀x y c,X.env.cells.lookup x=some c->X.env.cells.lookup y=some c->x=y
 has:∀x,(X.env.kindOf x=some .cell∨X.env.kindOf x=some .free)->∃c,X.env.cells.lookup x=some c
 cab:∀x c,X.fn x=true->X.env.cells.lookup x=some c->X.s₀.heap.objs.size<=c
 hd:X.calm=true->X.A.handled=none
 frames:X.A.frames=some X.stack
 stk:X.stack=X.outer∨(X.stack=X.env:: X.outer/\X.env.frame=some X.env.locals)
 exf:∀b∈X.ex,b≠X.env.locals/\∀x c,X.env.cells.lookup x=some c->c≠b
 bs:∀b o,X.base.get? b=some o->X.s₀.heap.get? b=some o/\X.H₀ b=none
 bsz:X.base.objs.size<=X.s₀.heap.objs.size
 noex:∀b o,X.base.get? b=some o->b∉X.ex
 exfs:∀b∈X.ex,b∉X.fs
 funs:X.s₀.heap.FunFrames X.base X.outer
 frf:∀b∈X.fs,X.H₀ b=none
structure Inv (X:Cx) (pins:List (Addr×Obj)) (σ:List (Option V)) (H:Hp) (s:Shared):Prop where
 ok:X.Ok
 os:s.os=X.s₀.os
 bare:AllBare s.gens
 base:Un X.fs X.ex X.H₀ H X.s₀.heap s.heap
 loc:∃m,s.heap.Ns X.env.locals m/\∀(i:Nat) (x:Str) (v:V),X.N[i]?=some x->σ[i]?=some (some v)->YZ X.env.scope x->∃u,RelV v u/\Look X.env s.heap m x u
 cell:∀x c,X.env.cells.lookup x=some c->∃v,s.heap.IsCell c v
 free:H X.env.locals=none
 freeC:∀x c,X.env.cells.lookup x=some c->H c=none
 pin:∀p∈X.pn ++ pins,s.heap.get? p.1=some p.2/\H p.1=none/\p.1≠X.env.locals/\p.1∉X.fs/\∀v,p.2.data≠.cell v
 hok:vf X.prog X.w H s.heap
 len:σ.length=X.N.length
section
variable {X:Cx} {pins:List (Addr×Obj)} {σ:List (Option V)} {H H':Hp} {s:Shared} {h':Heap}
theorem Cx.Ok.nofr (ok:X.Ok) {b:Addr} {o:Obj} (e:X.base.get? b=some o):b∉X.fs:=fun hb=>by
 have:=(ok.funs.mem hb).1
 rw [e] at this;cases this
theorem Inv.bs (I:Inv X pins σ H s):∀b o,X.base.get? b=some o->s.heap.get? b=some o/\H b=none:=fun b o e=>
 ⟨I.base.keep b o (I.ok.bs b o e).1 (I.ok.bs b o e).2 (I.ok.nofr e) (I.ok.noex b o e),I.base.free b o (I.ok.bs b o e).1 (I.ok.bs b o e).2 (I.ok.noex b o e)⟩
theorem Inv.bk (I:Inv X pins σ H s):∀b o,X.base.get? b=some o->s.heap.get? b=some o:=fun b o e=>(I.bs b o e).1
theorem Inv.mod (I:Inv X pins σ H s):Mod X.K X.mg X.base:=I.ok.mod
theorem Inv.kIn (I:Inv X pins σ H s):X.K.In s.heap:=I.ok.mod.kin.keeps I.bk
theorem Inv.lt (I:Inv X pins σ H s):X.env.locals <s.heap.objs.size:=let ⟨_,hn,_⟩:=I.loc;hn.lt
theorem Inv.sz (I:Inv X pins σ H s):X.s₀.heap.objs.size<=s.heap.objs.size:=Nat.le_trans I.ok.above (Nat.le_of_lt I.lt)
theorem Inv.nofs (I:Inv X pins σ H s) {a:Addr} (h:s.heap.objs.size<=a):a∉X.fs:=fun hb=>by
 obtain⟨_,o,ho,_⟩:=I.ok.funs.mem hb
 exact absurd (Nat.lt_of_lt_of_le (Heap.lt_size ho) (Nat.le_trans I.sz h)) (Nat.lt_irrefl _)
theorem Inv.cne (I:Inv X pins σ H s):∀x c,X.env.cells.lookup x=some c->c≠X.env.locals:=fun x c e z=>by
 obtain⟨v,o,ho,hd⟩:=I.cell x c e
 obtain⟨m,⟨o',es,ep,ho',hd',_⟩,_⟩:=I.loc
 rw [z,ho'] at ho;cases ho;rw [hd'] at hd;cases hd
theorem Inv.funs (I:Inv X pins σ H s):s.heap.FunFrames X.base X.outer:=by
 have all:∀(l:List Env),(∀b∈frs l,b∈X.fs)->X.s₀.heap.FunFrames X.base l->s.heap.FunFrames X.base l:=by
  intro l
  induction l with
  | nil=>intro _ _;trivial
  | cons env r ih=>
   intro hs hl
   obtain⟨hk,⟨L,o,hf,hn,ho,hd⟩,hr⟩:=hl
   have hL:L∈X.fs:=hs L (by unfold frs;rw [List.filterMap_cons,hf];exact List.mem_cons_self)
   obtain⟨sl,e⟩:=I.base.slot L o ho (I.ok.frf L hL) hL fun z=>I.ok.exfs L z hL
   exact⟨hk,⟨L,_,hf,hn,e,hd⟩,ih (fun b hb=>hs b (by unfold frs;rw [List.filterMap_cons,hf];exact List.mem_cons_of_mem _ hb)) hr⟩
 exact all X.outer (fun _ hb=>hb) I.ok.funs
theorem Inv.stack (I:Inv X pins σ H s):s.heap.FunFrames X.base X.stack:=by
 rcases I.ok.stk with e | ⟨e,hf⟩
 ·rw [e];exact I.funs
 ·rw [e]
  obtain⟨m,hn,_⟩:=I.loc
  refine .cons (by rw [I.ok.kind];decide) hf hn ?_ I.funs
  exact Heap.get?_none_of_le (Nat.le_trans I.ok.bsz I.ok.above)
theorem Inv.stkSub (I:Inv X pins σ H s):∀b∈frs X.stack,b∈X.env.locals:: X.fs:=fun b hb=>by
 rcases I.ok.stk with e | ⟨e,hf⟩
 ·rw [e] at hb;exact List.mem_cons_of_mem _ hb
 ·rw [e] at hb
  unfold frs at hb
  rw [List.filterMap_cons,hf] at hb
  exact hb
theorem Inv.stkFree (I:Inv X pins σ H s):∀b∈frs X.stack,H b=none:=fun b hb=>by
 rcases List.mem_cons.mp (I.stkSub b hb) with e | hb
 ·rw [e];exact I.free
 ·obtain⟨_,o,ho,_⟩:=I.ok.funs.mem hb
  exact I.base.free b o ho (I.ok.frf b hb) fun z=>I.ok.exfs b z hb
theorem Inv.step {g':Array GenState} {t':Nat} {d':Drawn} {ch:List Addr} (I:Inv X pins σ H s)
  (hch:∀b∈ch,(b∈X.ex∨X.s₀.heap.objs.size<=b)/\b≠X.env.locals/\(∀x c,X.env.cells.lookup x=some c->c≠b)/\∀p∈X.pn ++ pins,p.1≠b)
  (keep:∀b o,b≠X.env.locals->b∉X.fs->b∉ch->s.heap.get? b=some o->H b=none->h'.get? b=some o)
  (slot:∀b o,b≠X.env.locals->b∈X.fs->b∉ch->s.heap.get? b=some o->H b=none->∃sl,h'.get? b=some { o with slots:=sl }) (free:∀b o,b∉ch->s.heap.get? b=some o->H b=none->H' b=none)
  (there:∀b o,b∉ch->s.heap.get? b=some o->∃o',h'.get? b=some o')
  (tups:∀b xs,H b=some (.tup xs)->H' b=some (.tup xs)) (frzs:∀b o u,H b=some (.frz o u)->H' b=some (.frz o u)) (tbls:∀b ps,H b=some (.tbl ps)->∃more,H' b=some (.tbl (ps ++ more)))
  (ns:∀m,s.heap.Ns X.env.locals m->h'.Ns X.env.locals m) (hok:vf X.prog X.w H' h') (hg:AllBare g'):
  Inv X pins σ H' { s with heap:=h',gens:=g',drawn:=d',toks:=t' }:=by
 have neL:∀b o,X.s₀.heap.get? b=some o->b≠X.env.locals:=fun b o e=>Nat.ne_of_lt (Nat.lt_of_lt_of_le (Heap.lt_size e) I.ok.above)
 have neC:∀b o,X.s₀.heap.get? b=some o->b∉X.ex->b∉ch:=fun b o e hx hb=>by
  rcases(hch b hb).1 with z | z
  ·exact hx z
  ·exact absurd (Nat.lt_of_lt_of_le (Heap.lt_size e) z) (Nat.lt_irrefl _)
 have cellK:∀x c,X.env.cells.lookup x=some c->∀v,s.heap.IsCell c v->h'.IsCell c v:=fun x c e v ⟨o,ho,hd⟩=>by
  have nch:c∉ch:=fun z=>(hch c z).2.2.1 x c e rfl
  by_cases hc:c∈X.fs
  ·obtain⟨sl,q⟩:=slot c o (I.cne x c e) hc nch ho (I.freeC x c e)
   exact⟨_,q,hd⟩
  ·exact⟨o,keep c o (I.cne x c e) hc nch ho (I.freeC x c e),hd⟩
 refine⟨I.ok,I.os,hg,⟨fun b o e n hb hx=>?_,fun b o e n hb hx=>?_,fun b o e n hx=>?_,fun b o e hx=>?_,fun b xs e=>tups b xs (I.base.tups b xs e),fun b o xs e=>frzs b o xs (I.base.frzs b o xs e),fun b ps e=>?_⟩,?_,fun x c e=>?_,?_,fun x c e=>?_,fun p hp=>?_,hok,I.len⟩
 ·exact keep b o (neL b o e) hb (neC b o e hx) (I.base.keep b o e n hb hx) (I.base.free b o e n hx)
 ·obtain⟨sl,e1⟩:=I.base.slot b o e n hb hx
  obtain⟨sl',e2⟩:=slot b _ (neL b o e) hb (neC b o e hx) e1 (I.base.free b o e n hx)
  exact⟨sl',e2⟩
 ·obtain⟨o',e1⟩:=I.base.there b o e hx
  exact free b o' (neC b o e hx) e1 (I.base.free b o e n hx)
 ·obtain⟨o',e1⟩:=I.base.there b o e hx
  exact there b o' (neC b o e hx) e1
 ·obtain⟨m1,e1⟩:=I.base.tbls b ps e
  obtain⟨m2,e2⟩:=tbls b _ e1
  exact⟨m1 ++ m2,by rw [e2,Array.append_assoc]⟩
 ·obtain⟨m,hn,hl⟩:=I.loc
  refine⟨m,ns m hn,fun i x v e1 e2 e3=>?_⟩
  obtain⟨u,r,l⟩:=hl i x v e1 e2 e3
  refine⟨u,r,?_⟩
  rcases l with l | ⟨k,c,e,z⟩
  ·exact .inl l
  ·exact .inr ⟨k,c,e,cellK x c e _ z⟩
 ·obtain⟨v,z⟩:=I.cell x c e
  exact⟨v,cellK x c e v z⟩
 ·obtain⟨m,⟨o,_,_,ho,_⟩,_⟩:=I.loc
  exact free _ o (fun z=>(hch _ z).2.1 rfl) ho I.free
 ·obtain⟨v,o,ho,hd⟩:=I.cell x c e
  exact free c o (fun z=>(hch c z).2.2.1 x c e rfl) ho (I.freeC x c e)
 ·obtain⟨e,n,ne,nf,d⟩:=I.pin p hp
  have nch:p.1∉ch:=fun z=>(hch p.1 z).2.2.2 p hp rfl
  exact⟨keep p.1 p.2 ne nf nch e n,free p.1 p.2 nch e n,ne,nf,d⟩
theorem Inv.un {t':Nat} (I:Inv X pins σ H s) (u:Un X.fs [] H H' s.heap h') (hok:vf X.prog X.w H' h'):Inv X pins σ H' { s with heap:=h',toks:=t' }:=by
 obtain⟨m,⟨o,es,ep,ho,r⟩,_⟩:=id I.loc
 obtain⟨sl,hL⟩:=u.any ho I.free (by simp)
 exact I.step (g':=s.gens) (d':=s.drawn) (ch:=[]) (fun _ z=>nomatch z) (fun b o _ hb _ e n=>u.keep b o e n hb (by simp)) (fun b o _ hb _ e n=>u.slot b o e n hb (by simp)) (fun b o _ e n=>u.free b o e n (by simp)) (fun b o _ e=>u.there b o e (by simp)) u.tups u.frzs u.tbls (fun m' hm=>by
  obtain⟨o',es',ep',ho',r'⟩:=hm
  rw [ho] at ho';cases ho'
  exact⟨_,es',ep',hL,r'⟩) hok I.bare
theorem Inv.call {g':Array GenState} {t':Nat} {d':Drawn} {ch:List Addr} (I:Inv X pins σ H s) (u:Un (frs X.stack) ch H H' s.heap h') (hok:vf X.prog X.w H' h') (hg:AllBare g')
  (hch:∀b∈ch,(b∈X.ex∨X.s₀.heap.objs.size<=b)/\b≠X.env.locals/\(∀x c,X.env.cells.lookup x=some c->c≠b)/\∀p∈X.pn ++ pins,p.1≠b):
  Inv X pins σ H' { s with heap:=h',gens:=g',drawn:=d',toks:=t' }:=by
 obtain⟨m,⟨o,es,ep,ho,r⟩,_⟩:=id I.loc
 obtain⟨sl,hL⟩:=u.any ho I.free fun z=>(hch _ z).2.1 rfl
 exact I.step (ch:=ch) hch (fun b o hL hb hc e n=>u.keep b o e n (fun z=>(List.mem_cons.mp (I.stkSub b z)).elim hL hb) hc) (fun b o _ _ hc e n=>u.any e n hc) (fun b o hc e n=>u.free b o e n hc) (fun b o hc e=>u.there b o e hc) u.tups u.frzs u.tbls (fun m' hm=>by
  obtain⟨o',es',ep',ho',r'⟩:=hm
  rw [ho] at ho';cases ho'
  exact⟨_,es',ep',hL,r'⟩) hok hg
theorem Inv.turned {t':Nat} {it:Addr} (I:Inv X pins σ H s) (k:∀b o,b≠it->s.heap.get? b=some o->h'.get? b=some o) (hn:H it=none) (hL:it≠X.env.locals)
  (h1:it∈X.ex∨X.s₀.heap.objs.size<=it) (h2:∀x c,X.env.cells.lookup x=some c->c≠it) (h3:∀p∈X.pn ++ pins,p.1≠it):Inv X pins σ H { s with heap:=h',toks:=t' }:=by
 have nit:∀b u,H b=some u->b≠it:=fun b u e z=>by rw [z,hn] at e;cases e
 refine I.step (g':=s.gens) (d':=s.drawn) (ch:=[it]) (fun b hb=>?_) (fun b o _ _ hc e _=>k b o (fun z=>hc (by simp [z])) e) (fun b o _ _ hc e _=>⟨o.slots,k b o (fun z=>hc (by simp [z])) e⟩) (fun _ _ _ _ n=>n)
  (fun b o hc e=>⟨o,k b o (fun z=>hc (by simp [z])) e⟩) (fun _ _ e=>e) (fun _ _ _ e=>e) (fun b ps e=>⟨#[],by rw [e];simp⟩) (fun m hm=>?_) (fun b u e=>?_) I.bare
 ·have e:b=it:=by simpa using hb
  subst e
  exact⟨h1,hL,h2,h3⟩
 ·obtain⟨o,es,ep,ho,r⟩:=hm
  exact⟨o,es,ep,k _ o (Ne.symm hL) ho,r⟩
 ·refine(I.hok b u e).stay (fun c v hc q=>k c v ?_ q) (fun _ q=>q) fun _ _ q=>q
  rcases hc with z | z
  ·rw [z];exact nit b u e
  ·exact nit c _ z
theorem Inv.tok (I:Inv X pins σ H s) (t:Nat):Inv X pins σ H { s with toks:=t }:=I.un (h':=s.heap) (t':=t) Un.refl I.hok
theorem Inv.kept {t':Nat} (I:Inv X pins σ H s) (k:∀b u,s.heap.get? b=some u->h'.get? b=some u):Inv X pins σ H { s with heap:=h',toks:=t' }:=I.un (Un.kept k) (I.hok.kept k)
theorem Inv.laid {a:Addr} {o:HO} {t':Nat} (I:Inv X pins σ H s) (k:∀b u,s.heap.get? b=some u->h'.get? b=some u) (hp:s.heap.objs.size<=a) (new:fY X.prog X.w (upd H a o) h' a o):
  Inv X pins σ (upd H a o) { s with heap:=h',toks:=t' }:=I.un (Un.laid k hp (I.hok.fresh hp)) (I.hok.laid k hp new)
theorem Inv.write {x e:Addr} {o:HO} {t':Nat} (I:Inv X pins σ H s) (mu:XR (H x)) (he:e=x∨H e=some (.own x)) (k:∀b u,b≠e->s.heap.get? b=some u->h'.get? b=some u) (heo:∃u,h'.get? e=some u)
  (new:fY X.prog X.w (upd H x o) h' x o):Inv X pins σ (upd H x o) { s with heap:=h',toks:=t' }:=I.un (Un.write mu he k heo) (I.hok.write mu he k heo new)
theorem Inv.weak {σ':List (Option V)} (I:Inv X pins σ H s) (hl:σ'.length=σ.length) (w:∀(i:Nat) v,σ'[i]?=some (some v)->σ[i]?=some (some v)):Inv X pins σ' H s:=
 ⟨I.ok,I.os,I.bare,I.base,let ⟨m,hn,hl'⟩:=I.loc;⟨m,hn,fun i x v e1 e2 e3=>hl' i x v e1 (w i v e2) e3⟩,I.cell,I.free,I.freeC,I.pin,I.hok,hl.trans I.len⟩
theorem Inv.pins_of {pins':List (Addr×Obj)} (I:Inv X pins σ H s) (h:∀p∈pins',s.heap.get? p.1=some p.2/\H p.1=none/\p.1≠X.env.locals/\p.1∉X.fs/\∀v,p.2.data≠.cell v):Inv X pins' σ H s:=
 ⟨I.ok,I.os,I.bare,I.base,I.loc,I.cell,I.free,I.freeC,fun p hp=>(List.mem_append.mp hp).elim (fun z=>I.pin p (List.mem_append_left _ z)) (h p),I.hok,I.len⟩
theorem JF {N:List Str} (hN:N.Nodup) {i j:Nat} {x:Str} (a:N[i]?=some x) (b:N[j]?=some x):i=j:=by
 obtain⟨h1,e1⟩:=List.getElem?_eq_some_iff.mp a
 obtain⟨h2,e2⟩:=List.getElem?_eq_some_iff.mp b
 exact(List.getElem_inj hN).mp (e1.trans e2.symm)
theorem zP {M:Model} {A:Around} {E:Value->Shared->Prop} {i:Nat} {x:Str} {v:V} {u:Value} {Q:Unit->Shared->Prop} (I:Inv X pins σ H s) (hN:X.N.Nodup) (hi:X.N[i]?=some x) (hx:Loc X.env.scope x) (r:RelV v u)
  (h:∀s',Inv X pins (σ.set i (some v)) H s'->(∃a,Heap.SameBut a s.heap s'.heap/\(a=X.env.locals∨X.env.cells.lookup x=some a))->Q () s') (hf:X.fn x=true∨X.env.scope.names.lookup x=some .local:=by first | exact .inl rfl | exact .inr rfl | assumption):wpAny M A (storeName X.env x u) Q E s:=by
 obtain⟨m,hn,hl⟩:=id I.loc
 have hcls:(X.env.scope.kind == .class || (X.env.scope.kind == .module && X.env.locals != X.env.globals))=false:=by rw [I.ok.kind];rfl
 have hiσ:i <σ.length:=by rw [I.len];exact(List.getElem?_eq_some_iff.mp hi).1
 have cne:=I.cne
 have tracked:∀{a:Addr} {h':Heap},(∃o,s.heap.get? a=some o/\H a=none)->Heap.SameBut a s.heap h'->vf X.prog X.w H h':=fun {a h'} ha hs b ob e=>by
  obtain⟨_,_,hfree⟩:=ha
  refine(I.hok b ob e).stay (fun c w' hc q=>(hs.2 c ?_).trans q) (fun _ q=>q) fun _ _ q=>q
  rintro rfl
  rcases hc with rfl | hc
  ·rw [hfree] at e;cases e
  ·rw [hfree] at hc;cases hc
 rcases hx with hk | hk
 ·refine wpAny_storeName_local hk hn (fun h' hn' hs=>?_) hcls
  obtain⟨oL,_,_,hoL,_⟩:=id hn
  refine h _ ⟨I.ok,I.os,I.bare,⟨fun b o e n hb hx=>?_,fun b o e n hb hx=>?_,I.base.free,fun b o e hx=>?_,I.base.tups,I.base.frzs,I.base.tbls⟩,⟨_,hn',fun j y v' e1 e2 e3=>?_⟩,fun y c e=>?_,I.free,I.freeC,fun p hp=>?_,tracked ⟨oL,hoL,I.free⟩ hs,by simpa using I.len⟩ ⟨_,hs,.inl rfl⟩
  ·exact(hs.2 b (Nat.ne_of_lt (Nat.lt_of_lt_of_le (Heap.lt_size e) I.ok.above))).trans (I.base.keep b o e n hb hx)
  ·obtain⟨sl,e1⟩:=I.base.slot b o e n hb hx
   exact⟨sl,(hs.2 b (Nat.ne_of_lt (Nat.lt_of_lt_of_le (Heap.lt_size e) I.ok.above))).trans e1⟩
  ·obtain⟨o',e1⟩:=I.base.there b o e hx
   exact⟨o',(hs.2 b (Nat.ne_of_lt (Nat.lt_of_lt_of_le (Heap.lt_size e) I.ok.above))).trans e1⟩
  ·by_cases hj:j=i
   ·subst hj
    rw [hi] at e1;cases e1
    rw [List.getElem?_set_self hiσ] at e2
    cases e2
    exact⟨u,r,.inl ⟨hk,by simp⟩⟩
   ·rw [List.getElem?_set_ne (Ne.symm hj)] at e2
    obtain⟨u',r',q⟩:=hl j y v' e1 e2 e3
    refine⟨u',r',?_⟩
    rcases q with ⟨k,e⟩ | ⟨k,c,e,z⟩
    ·refine .inl ⟨k,?_⟩
     have:y≠x:=fun e=>hj (JF hN e1 (e ▸ hi))
     simp [this,e]
    ·exact .inr ⟨k,c,e,z.sameBut hs (cne y c e)⟩
  ·obtain⟨w',z⟩:=I.cell y c e
   exact⟨w',z.sameBut hs (cne y c e)⟩
  ·obtain⟨e,n,ne,nf,d⟩:=I.pin p hp
   exact⟨(hs.2 p.1 ne).trans e,n,ne,nf,d⟩
 ·have hfn:X.fn x=true:=by
   rcases hf with z | z
   ·exact z
   ·rw [z] at hk;cases hk
  obtain⟨c,hc⟩:=I.ok.has x (.inl hk)
  obtain⟨w',z⟩:=I.cell x c hc
  refine wpAny_storeName_cell I.ok.kind hk hc z (fun h' hc' hs=>?_)
  obtain⟨oc,hoc,hocd⟩:=id z
  refine h { s with heap:=h' } ⟨I.ok,I.os,I.bare,⟨fun b o e n hb hx=>?_,fun b o e n hb hx=>?_,I.base.free,fun b o e hx=>?_,I.base.tups,I.base.frzs,I.base.tbls⟩,⟨m,hn.sameBut hs (Ne.symm (cne x c hc)),fun j y v' e1 e2 e3=>?_⟩,fun y c' e=>?_,I.free,I.freeC,fun p hp=>?_,tracked ⟨oc,hoc,I.freeC x c hc⟩ hs,by simpa using I.len⟩ ⟨c,hs,.inr hc⟩
  ·exact(hs.2 b (Nat.ne_of_lt (Nat.lt_of_lt_of_le (Heap.lt_size e) (I.ok.cab x c hfn hc)))).trans (I.base.keep b o e n hb hx)
  ·obtain⟨sl,e1⟩:=I.base.slot b o e n hb hx
   exact⟨sl,(hs.2 b (Nat.ne_of_lt (Nat.lt_of_lt_of_le (Heap.lt_size e) (I.ok.cab x c hfn hc)))).trans e1⟩
  ·obtain⟨o',e1⟩:=I.base.there b o e hx
   exact⟨o',(hs.2 b (Nat.ne_of_lt (Nat.lt_of_lt_of_le (Heap.lt_size e) (I.ok.cab x c hfn hc)))).trans e1⟩
  ·by_cases hj:j=i
   ·subst hj
    rw [hi] at e1;cases e1
    rw [List.getElem?_set_self hiσ] at e2
    cases e2
    exact⟨u,r,.inr ⟨.inl hk,c,hc,hc'⟩⟩
   ·rw [List.getElem?_set_ne (Ne.symm hj)] at e2
    obtain⟨u',r',q⟩:=hl j y v' e1 e2 e3
    refine⟨u',r',?_⟩
    rcases q with q | ⟨k,c',e,z'⟩
    ·exact .inl q
    ·refine .inr ⟨k,c',e,z'.sameBut hs ?_⟩
     rintro rfl
     exact hj (JF hN e1 (I.ok.inj _ _ _ e hc ▸ hi))
  ·by_cases hcc:c'=c
   ·subst hcc;exact⟨_,hc'⟩
   ·obtain⟨w2,z2⟩:=I.cell y c' e
    exact⟨w2,z2.sameBut hs hcc⟩
  ·obtain⟨e,n,ne,nf,d⟩:=I.pin p hp
   refine⟨(hs.2 p.1 ?_).trans e,n,ne,nf,d⟩
   intro q
   rw [q,hoc] at e
   have q':oc=p.2:=Option.some.inj e
   exact d w' (by rw [<-q'];exact hocd)
theorem Ko {M:Model} {A:Around} {E:Value->Shared->Prop} {i:Nat} {x:Str} {v:V} {u:Value} {Q:Unit->Shared->Prop} (I:Inv X pins σ H s) (hN:X.N.Nodup) (hi:X.N[i]?=some x) (hx:Loc X.env.scope x) (r:RelV v u)
  (h:∀s',Inv X pins (σ.set i (some v)) H s'->Q () s') (hf:X.fn x=true∨X.env.scope.names.lookup x=some .local:=by first | exact .inl rfl | exact .inr rfl | assumption):wpAny M A (storeName X.env x u) Q E s:=
 zP I hN hi hx r (fun s' I' _=>h s' I') hf
theorem Inv.call' {s':Shared} {ch:List Addr} (I:Inv X pins σ H s) (ho:s'.os=s.os) (u:Un (frs X.stack) ch H H' s.heap s'.heap) (hok:vf X.prog X.w H' s'.heap) (hg:AllBare s'.gens)
  (hch:∀b∈ch,(b∈X.ex∨X.s₀.heap.objs.size<=b)/\b≠X.env.locals/\(∀x c,X.env.cells.lookup x=some c->c≠b)/\∀p∈X.pn ++ pins,p.1≠b):Inv X pins σ H' s':=by
 obtain⟨h',g',d',t',o'⟩:=s'
 have e:o'=s.os:=ho
 subst e
 exact I.call (g':=g') (t':=t') (d':=d') u hok hg hch
end
noncomputable abbrev XK:=Value->Option Addr->Hp->Prop
noncomputable abbrev St:=List (Option V)
noncomputable abbrev VK:=V->Hp->Prop
noncomputable abbrev TE:=St->Hp->VK->Prop
noncomputable abbrev TT:=St->Hp->(Bool->Hp->Prop)->Prop
noncomputable abbrev TA:=St->Hp->(List V->Hp->Prop)->Prop
structure Ends where
 nx:St->Hp->Prop
 rt:VK
 bk:St->Hp->Prop:=fun _ _=>False
 ct:St->Hp->Prop:=fun _ _=>False
noncomputable abbrev TS:=Ends->St->Hp->Prop
noncomputable def EP (X:Cx) (pins:List (Addr×Obj)) (σ:St) (Q:VK) (u:Value) (s':Shared):Prop:=∃v H',Inv X pins σ H' s'/\RelV v u/\Q v H'
noncomputable def TP (X:Cx) (pins:List (Addr×Obj)) (σ:St) (Q:Bool->Hp->Prop) (b:Bool) (s':Shared):Prop:=∃H',Inv X pins σ H' s'/\Q b H'
noncomputable def AP (X:Cx) (pins:List (Addr×Obj)) (σ:St) (Q:List V->Hp->Prop) (us:List Value) (s':Shared):Prop:=∃vs H',Inv X pins σ H' s'/\Vals vs us/\Q vs H'
noncomputable def SP (X:Cx) (pins:List (Addr×Obj)) (D:Ends) (f:Flow) (s':Shared):Prop:=
 match f with
 | .next=>∃σ' H',Inv X pins σ' H' s'/\D.nx σ' H'
 | .brk=>∃σ' H',Inv X pins σ' H' s'/\D.bk σ' H'
 | .cont=>∃σ' H',Inv X pins σ' H' s'/\D.ct σ' H'
 | .ret u=>∃v σ' H',Inv X pins σ' H' s'/\RelV v u/\D.rt v H'
noncomputable def PE (X:Cx) (e:Expr) (t:TE):Prop:=
 ∀(pins:List (Addr×Obj)) (s:Shared) (σ:St) (H:Hp) (Q:VK),Inv X pins σ H s->t σ H Q->wpAny (model X.prog X.w) X.A (eval e X.env) (EP X pins σ Q) X.xe s
noncomputable def PT (X:Cx) (e:Expr) (t:TT):Prop:=
 ∀(pins:List (Addr×Obj)) (s:Shared) (σ:St) (H:Hp) (Q:Bool->Hp->Prop),Inv X pins σ H s->t σ H Q->wpAny (model X.prog X.w) X.A (isTrue e X.env (eval e X.env)) (TP X pins σ Q) X.xe s
noncomputable def PW (X:Cx) (e:Expr) (t:TT):Prop:=
 ∀(whole:Sem Value) (pins:List (Addr×Obj)) (s:Shared) (σ:St) (H:Hp) (Q:Bool->Hp->Prop),Inv X pins σ H s->t σ H Q->wpAny (model X.prog X.w) X.A (isTrue e X.env whole) (TP X pins σ Q) X.xe s
theorem PW.pt {X:Cx} {e:Expr} {t:TT} (h:PW X e t):PT X e t:=h _
noncomputable def PA (X:Cx) (es:List Expr) (t:TA):Prop:=
 ∀(pos:Pos) (pins:List (Addr×Obj)) (s:Shared) (σ:St) (H:Hp) (Q:List V->Hp->Prop),Inv X pins σ H s->t σ H Q->wpAny (model X.prog X.w) X.A (spliced (backTo pos (starEach es X.env))) (AP X pins σ Q) X.xe s
noncomputable def PS (X:Cx) (st:Stmt) (t:TS):Prop:=
 ∀(pins:List (Addr×Obj)) (s:Shared) (σ:St) (H:Hp) (D:Ends),Inv X pins σ H s->t D σ H->wpAny (model X.prog X.w) X.A (exec st X.env) (SP X pins D) X.xe s
noncomputable def MP (X:Cx) (st:List Stmt) (t:TS):Prop:=
 ∀(pins:List (Addr×Obj)) (s:Shared) (σ:St) (H:Hp) (D:Ends),Inv X pins σ H s->t D σ H->wpAny (model X.prog X.w) X.A (execs st X.env) (SP X pins D) X.xe s
theorem dJ {α:Type} {t:Sem α} {Q Q':α->Shared->Prop} {M:Model} {A:Around} {E:Value->Shared->Prop} {s:Shared} (h:wpAny M A t Q E s) (hQ:∀a s,Q a s->Q' a s):wpAny M A t Q' E s:=wpAny_mono h hQ fun _ _ x=>x
section
variable {X:Cx}
inductive Va (i:Nat) (σ:St) (H:Hp) (Q:VK):Prop where
 | mk:∀v,σ[i]?=some (some v)->Q v H->Va i σ H Q
noncomputable def Yt (i:Nat):TE:=fun σ H Q=>Va i σ H Q
noncomputable def tC (v:V):TE:=fun _ H Q=>Q v H
theorem V0 {i:Nat} {x:Str} {pos:Pos} (hN:X.N[i]?=some x) (hv:YZ X.env.scope x) (hd:(x == ("__debug__" :Str))=false:=by decide) (hcd:(x == ("__classdict__" :Str))=false:=by decide):PE X (.Name x pos) (Yt i):=by
 intro pins s σ H Q I h
 obtain⟨v,e,h⟩:=h
 obtain⟨m,hn,hl⟩:=I.loc
 obtain⟨u,r,l⟩:=hl i x v hN e hv
 have fin:EP X pins σ Q u s:=⟨v,H,I,r,h⟩
 rcases l with ⟨hk,hm⟩ | ⟨hk,c,hc,hcell⟩
 ·exact wpAny_Name (wpAny_loadName_local I.ok.kind hk hn hm fin) hd
 ·rcases hk with hk | hk
  ·exact wpAny_Name (wpAny_loadName_cell I.ok.kind hk hc hcell fin) hd
  ·exact wpAny_Name (wpAny_loadName_free I.ok.kind hk hc hcell fin hcd) hd
theorem aq {i j pos}:PE X (.Constant (.int i) j pos) (tC (.int i)):=fun _ _ _ H _ I h=>wpAny_Constant_int ⟨.int i,H,I.tok _,⟨_,rfl⟩,h⟩
theorem iu {b j pos}:PE X (.Constant (.bool b) j pos) (tC (.bl b)):=fun _ _ _ H _ I h=>Constant_bool ⟨.bl b,H,I,rfl,h⟩
theorem qx {j pos}:PE X (.Constant .none j pos) (tC .non):=fun _ _ _ H _ I h=>Constant_none ⟨.non,H,I,rfl,h⟩
theorem bK {x j pos}:PE X (.Constant (.str x) j pos) (tC (.str x)):=fun _ _ _ H _ I h=>Calls.Constant_str ⟨.str x,H,I.tok _,⟨_,rfl⟩,h⟩
noncomputable def Gl (X:Cx) (x:Str):Prop:=X.env.kindOf x=some .globalImplicit
theorem Hg {E:Value->Shared->Prop} {pins:List (Addr×Obj)} {s:Shared} {σ:St} {H:Hp} {x:Str} {u:Value} {pos:Pos} {Q:Value->Shared->Prop} (I:Inv X pins σ H s) (hg:Gl X x) (hm:X.mg x=some u) (h:Q u s)
  (hd:(x == ("__debug__" :Str))=false:=by decide):wpAny (model X.prog X.w) X.A (eval (.Name x pos) X.env) Q E s:=
 Calls.Name_function_global I.ok.kind hg (Calls.loadGlobal_global (by rw [I.ok.glob];exact I.mod.glob.keeps I.bk) hm h) hd
theorem Ce {E:Value->Shared->Prop} {pins:List (Addr×Obj)} {s:Shared} {σ:St} {H:Hp} {x:Str} {u:Value} {pos:Pos} {Q:Value->Shared->Prop} (I:Inv X pins σ H s) (hg:Gl X x) (hm:X.mg x=none) (hv:bootBuiltins x=some u) (h:Q u s)
  (hn:x≠ "__name__" :=by decide) (hd:(x == ("__debug__" :Str))=false:=by decide):wpAny (model X.prog X.w) X.A (eval (.Name x pos) X.env) Q E s:=by
 obtain⟨mb,h1,h2⟩:=I.mod.blt
 exact Calls.Name_function_global I.ok.kind hg (Calls.loadGlobal_builtin (by rw [I.ok.glob];exact I.mod.glob.keeps I.bk) hm (by rw [I.ok.blt];exact h1.keeps I.bk) ((h2 x hn).trans hv) h) hd
theorem Hm {x:Str} {v:V} {u:Value} {pos:Pos} (hg:Gl X x) (hm:X.mg x=some u) (r:RelV v u) (hd:(x == ("__debug__" :Str))=false:=by decide):PE X (.Name x pos) (tC v):=
 fun _ _ _ H _ I h=>Hg I hg hm ⟨v,H,I,r,h⟩ hd
theorem Uk {x:Str} {v:V} {u:Value} {pos:Pos} (hg:Gl X x) (hm:X.mg x=none) (hv:bootBuiltins x=some u) (r:RelV v u) (hn:x≠ "__name__" :=by decide) (hd:(x == ("__debug__" :Str))=false:=by decide):PE X (.Name x pos) (tC v):=
 fun _ _ _ H _ I h=>Ce I hg hm hv ⟨v,H,I,r,h⟩ hn hd
variable {a b:Expr} {ta tb:TE} {pos:Pos}
noncomputable def PC (X:Cx) (op:CmpOp) (a b:Expr) (t:TE):Prop:=
 ∀(pins:List (Addr×Obj)) (s:Shared) (σ:St) (H:Hp) (Q:VK),Inv X pins σ H s->t σ H Q->
  wpAny (model X.prog X.w) X.A (eval a X.env) (fun v s₁=>wpAny (model X.prog X.w) X.A (eval b X.env) (fun u s₂=>wpAny (model X.prog X.w) X.A (compareOp op v u) (EP X pins σ Q) X.xe s₂) X.xe s₁) X.xe s
theorem JB (b:Expr) {op:CmpOp} (h:op≠.In) (h2:op≠.NotIn):behindInMarks op b=false:=by
 have e1:(op == CmpOp.In)=false:=by cases op <;> first | rfl | exact absurd rfl h
 have e2:(op == CmpOp.NotIn)=false:=by cases op <;> first | rfl | exact absurd rfl h2
 cases b <;> simp [behindInMarks,e1,e2]
noncomputable def ZX (ta:TE):TE:=fun σ H Q=>ta σ H fun x H1=>Q (.bl (decide (x=.non))) H1
noncomputable def X5 (ta:TE):TE:=fun σ H Q=>ta σ H fun x H1=>Q (.bl (!decide (x=.non))) H1
theorem RelV.none_iff {x:V} {v:Value} (r:RelV x v):(v == Value.none)=decide (x=.non):=by
 cases x with
 | non=>cases r;rfl
 | bl _=>cases r;rfl
 | int _=>obtain⟨t,rfl⟩:=r;rfl
 | str _=>obtain⟨t,rfl⟩:=r;rfl
 | byt _=>obtain⟨t,rfl⟩:=r;rfl
 | flt _=>obtain⟨t,rfl⟩:=r;rfl
 | ref _=>cases r;rfl
 | ty _=>cases r;rfl
theorem uM {j pos'} (ha:PE X a ta):PC X .Is a (.Constant .none j pos') (ZX ta):=by
 intro pins s σ H Q I h
 refine dJ (ha pins s σ H _ I h) fun v s1 hpt=>?_
 obtain⟨x,H1,I1,r1,q1⟩:=hpt
 exact Constant_none (is_none_gen ⟨.bl _,H1,I1,by rw [r1.none_iff];rfl,q1⟩)
theorem HY {j pos'} (ha:PE X a ta):PC X .IsNot a (.Constant .none j pos') (X5 ta):=by
 intro pins s σ H Q I h
 refine dJ (ha pins s σ H _ I h) fun v s1 hpt=>?_
 obtain⟨x,H1,I1,r1,q1⟩:=hpt
 exact Constant_none (isnot_none_gen ⟨.bl _,H1,I1,by rw [r1.none_iff];rfl,q1⟩)
inductive ZZ (Q:Bool->Hp->Prop) (x:V) (H1:Hp):Prop where
 | mk:∀c,x=.bl c->Q c H1->ZZ Q x H1
noncomputable def tB (t:TE):TT:=fun σ H Q=>t σ H fun x H1=>ZZ Q x H1
theorem HJ {op:CmpOp} {t:TE} (h:PC X op a b t) (h1:behindInMarks op b=false:=by first | exact JB _ (by decide) (by decide) | rfl):PE X (.Compare a [op] [b] pos) t:=fun pins s σ H Q I hw=>wpAny_Compare1 (h pins s σ H Q I hw) h1
theorem il {op:CmpOp} {t:TE} (h:PC X op a b t) (h1:behindInMarks op b=false:=by first | exact JB _ (by decide) (by decide) | rfl):PT X (.Compare a [op] [b] pos) (tB t):=by
 intro pins s σ H Q I hw
 refine wpAny_isTrue_Compare1 (dJ (h pins s σ H _ I hw) fun v s1 h1=>dJ h1 fun u s2 h2=>dJ h2 fun c s3 hpt=>?_) h1
 obtain⟨x,H1,I1,r1,q1⟩:=hpt
 obtain⟨d,rfl,q⟩:=q1
 cases r1
 exact wpAny_truthy_bool ⟨H1,I1,q⟩
theorem jo {e:Expr} {t:TE} (h:PE X e t) (he:∀whole,isTrue e X.env whole=(do let v <-whole;standAt e.pos;holding [v] (truthy v)):=by intro _;rfl):PT X e (tB t):=by
 intro pins s σ H Q I hw
 refine isTrue_plain (dJ (h pins s σ H _ I hw) fun v s1 ⟨x,H1,I1,r1,q1⟩=>?_) (he _)
 obtain⟨d,rfl,q⟩:=q1
 cases r1
 exact wpAny_truthy_bool ⟨H1,I1,q⟩
variable {tA tB':TT} {rest:List Expr}
noncomputable def ZF (t u:TT):TT:=fun σ H Q=>t σ H fun c H1=>if c=true then u σ H1 Q else Q false H1
noncomputable def tOr (t u:TT):TT:=fun σ H Q=>t σ H fun c H1=>if c=true then Q true H1 else u σ H1 Q
noncomputable def Zt (t:TT):TT:=fun σ H Q=>t σ H fun c H1=>Q (!c) H1
theorem vL (ha:PT X a tA):PW X (.BoolOp .And [a] pos) tA:=by
 intro wh pins s σ H Q I h
 refine isTrue_and (dJ (ha pins s σ H Q I h) fun c s1 e=>?_)
 cases c with
 | true=>exact isTrue_and_nil e
 | false=>exact e
theorem kj (ha:PT X a tA):PW X (.BoolOp .Or [a] pos) tA:=by
 intro wh pins s σ H Q I h
 refine isTrue_or (dJ (ha pins s σ H Q I h) fun c s1 e=>?_)
 cases c with
 | false=>exact isTrue_or_nil e
 | true=>exact e
theorem xr (ha:PT X a tA) (hb:PW X (.BoolOp .And (b:: rest) pos) tB'):PW X (.BoolOp .And (a:: b:: rest) pos) (ZF tA tB'):=by
 intro wh pins s σ H Q I h
 refine isTrue_and (dJ (ha pins s σ H _ I h) fun c s1 hpt=>?_)
 obtain⟨H1,I1,q1⟩:=hpt
 cases c with
 | true=>exact hb wh pins s1 σ H1 Q I1 q1
 | false=>exact⟨H1,I1,q1⟩
theorem rF (ha:PT X a tA) (hb:PW X (.BoolOp .Or (b:: rest) pos) tB'):PW X (.BoolOp .Or (a:: b:: rest) pos) (tOr tA tB'):=by
 intro wh pins s σ H Q I h
 refine isTrue_or (dJ (ha pins s σ H _ I h) fun c s1 hpt=>?_)
 obtain⟨H1,I1,q1⟩:=hpt
 cases c with
 | true=>exact⟨H1,I1,q1⟩
 | false=>exact hb wh pins s1 σ H1 Q I1 q1
theorem kJ (ha:PT X a tA):PT X (.UnaryOp .Not a pos) (Zt tA):=by
 intro pins s σ H Q I h
 exact isTrue_not (ha pins s σ H (fun c H1=>Q (!c) H1) I h)
inductive PN (tb:TE) (σ:St) (Q:VK) (x:V) (H1:Hp):Prop where
 | mk:∀c,x=.bl c->(if c=true then tb σ H1 Q else Q (.bl false) H1)->PN tb σ Q x H1
noncomputable def XF (ta tb:TE):TE:=fun σ H Q=>ta σ H fun x H1=>PN tb σ Q x H1
inductive Vf (tb:TE) (σ:St) (Q:VK) (x:V) (H1:Hp):Prop where
 | mk:∀c,x=.bl c->(if c=true then Q (.bl true) H1 else tb σ H1 Q)->Vf tb σ Q x H1
noncomputable def Zi (ta tb:TE):TE:=fun σ H Q=>ta σ H fun x H1=>Vf tb σ Q x H1
inductive QX (Q:VK) (x:V) (H1:Hp):Prop where
 | mk:∀c,x=.bl c->Q (.bl (!c)) H1->QX Q x H1
noncomputable def Xw (ta:TE):TE:=fun σ H Q=>ta σ H fun x H1=>QX Q x H1
theorem zL {op} {t:TE} (h:PE X a t):PE X (.BoolOp op [a] pos) t:=fun pins s σ H Q I hw=>BoolOp_one (h pins s σ H Q I hw)
theorem zz (ha:PE X a ta) (hb:PE X (.BoolOp .And (b:: rest) pos) tb):PE X (.BoolOp .And (a:: b:: rest) pos) (XF ta tb):=by
 intro pins s σ H Q I h
 refine BoolOp_and (dJ (ha pins s σ H _ I h) fun v s1 hpt=>?_)
 obtain⟨x,H1,I1,r1,q1⟩:=hpt
 obtain⟨c,rfl,q1⟩:=q1
 cases r1
 refine wpAny_truthy_bool ?_
 cases c with
 | true=>exact hb pins s1 σ H1 Q I1 q1
 | false=>exact⟨.bl false,H1,I1,rfl,q1⟩
theorem Xy (ha:PE X a ta) (hb:PE X (.BoolOp .Or (b:: rest) pos) tb):PE X (.BoolOp .Or (a:: b:: rest) pos) (Zi ta tb):=by
 intro pins s σ H Q I h
 refine BoolOp_or (dJ (ha pins s σ H _ I h) fun v s1 hpt=>?_)
 obtain⟨x,H1,I1,r1,q1⟩:=hpt
 obtain⟨c,rfl,q1⟩:=q1
 cases r1
 refine wpAny_truthy_bool ?_
 cases c with
 | false=>exact hb pins s1 σ H1 Q I1 q1
 | true=>exact⟨.bl true,H1,I1,rfl,q1⟩
theorem Wi (ha:PE X a ta):PE X (.UnaryOp .Not a pos) (Xw ta):=by
 intro pins s σ H Q I h
 refine UnaryOp_ (dJ (ha pins s σ H _ I h) fun v s1 hpt=>?_)
 obtain⟨x,H1,I1,r1,q1⟩:=hpt
 obtain⟨c,rfl,q1⟩:=q1
 cases r1
 exact not_of (wpAny_truthy_bool ⟨.bl (!c),H1,I1,rfl,q1⟩)
noncomputable def tIf (t:TT) (ta tb:TE):TE:=fun σ H Q=>t σ H fun c H1=>if c=true then ta σ H1 Q else tb σ H1 Q
theorem ue {c:Expr} (hc:PT X c tA) (ha:PE X a ta) (hb:PE X b tb):PE X (.IfExp c a b pos) (tIf tA ta tb):=by
 intro pins s σ H Q I h
 refine wpAny_IfExp (dJ (hc pins s σ H _ I h) fun d s1 hpt=>?_)
 obtain⟨H1,I1,q1⟩:=hpt
 cases d with
 | true=>exact ha pins s1 σ H1 Q I1 q1
 | false=>exact hb pins s1 σ H1 Q I1 q1
end
noncomputable def bI (K:PySem.W.Frag) (H:Hp) (a:Addr) (xs:List V):Prop:=
 Rd H a (.lst xs)∨
  ∃(o:Obj) (its:Array Value) (n:Nat),K.lookup a=some o/\o.cls=.type "list" /\o.dict=none/\o.data=.seq its n/\its.size<=sizeLine/\Vals xs its.toList
noncomputable def eQ (K:PySem.W.Frag) (H:Hp) (a:Addr) (xs:List V):Prop:=
 Rd H a (.tup xs)∨
  ∃(o:Obj) (its:Array Value) (n:Nat),K.lookup a=some o/\o.cls=.type "tuple" /\o.data=.seq its n/\its.size<=sizeLine/\Vals xs its.toList
noncomputable def Zm:Value->Option V
 | .none=>some .non
 | .bool b=>some (.bl b)
 | .int i _=>some (.int i)
 | .str x _=>some (.str x)
 | .bytes b _=>some (.byt b)
 | .float b _=>some (.flt b)
 | .ref a=>some (.ref a)
 | .type n=>some (.ty n)
 | _=>none
theorem RelV.abs {x:V} {u:Value} (r:RelV x u):Zm u=some x:=by
 cases x with
 | non=>cases r;rfl
 | bl _=>cases r;rfl
 | int _=>obtain⟨t,rfl⟩:=r;rfl
 | str _=>obtain⟨t,rfl⟩:=r;rfl
 | byt _=>obtain⟨t,rfl⟩:=r;rfl
 | flt _=>obtain⟨t,rfl⟩:=r;rfl
 | ref _=>cases r;rfl
 | ty _=>cases r;rfl
theorem RelV.inj {x y:V} {u:Value} (r:RelV x u) (q:RelV y u):x=y:=Option.some.inj (r.abs.symm.trans q.abs)
theorem Vals.inj:∀{xs ys:List V} {us:List Value},Vals xs us->Vals ys us->xs=ys
 | _,_,_,.nil,.nil=>rfl
 | _,_,_,.cons r t,.cons r' t'=>by rw [r.inj r',Vals.inj t t']
section
variable {X:Cx} {pins:List (Addr×Obj)} {σ:St} {H:Hp} {s:Shared} {a:Addr} {xs ys:List V}
theorem bI.of {K:PySem.W.Frag} (h:H a=some (.lst xs)):bI K H a xs:=.inl (.inl h)
theorem eQ.of {K:PySem.W.Frag} (h:H a=some (.tup xs)):eQ K H a xs:=.inl (.inl h)
theorem Inv.list (I:Inv X pins σ H s) (h:bI X.K H a xs):∃its:List Value,Vals xs its/\PlainL s.heap a its.toArray/\xs.length<=sizeLine:=by
 rcases h with h | ⟨o,its,n,hk,hc,hd,hs,hz,r⟩
 ·obtain⟨z,its,n,r,e⟩:=h.ok I.hok
  exact⟨its,r,⟨_,n,e,rfl,rfl,rfl⟩,z⟩
 ·refine⟨its.toList,r,⟨o,n,I.kIn a o hk,hc,hd,by simpa using hs⟩,?_⟩
  have e:=r.length
  simp only [Array.length_toList] at e
  omega
theorem Inv.tuple (I:Inv X pins σ H s) (h:eQ X.K H a xs):∃its:List Value,Vals xs its/\IsTup s.heap a its.toArray/\xs.length<=sizeLine:=by
 rcases h with h | ⟨o,its,n,hk,hc,hs,hz,r⟩
 ·obtain⟨z,its,r,p⟩:=h.ok I.hok
  exact⟨its,r,p,z⟩
 ·refine⟨its.toList,r,⟨o,I.kIn a o hk,hc,n,by simpa using hs⟩,?_⟩
  have e:=r.length
  simp only [Array.length_toList] at e
  omega
theorem Inv.list_inj (I:Inv X pins σ H s) (h:bI X.K H a xs) (h':bI X.K H a ys):xs=ys:=by
 obtain⟨its,r,⟨o,n,e,_,_,d⟩,_⟩:=I.list h
 obtain⟨its',r',⟨o',n',e',_,_,d'⟩,_⟩:=I.list h'
 rw [e] at e';cases e'
 rw [d] at d'
 injection d' with d1 _
 have:its=its':=by simpa using congrArg Array.toList d1
 subst this
 exact r.inj r'
theorem Inv.tuple_inj (I:Inv X pins σ H s) (h:eQ X.K H a xs) (h':eQ X.K H a ys):xs=ys:=by
 obtain⟨its,r,⟨o,e,_,n,d⟩,_⟩:=I.tuple h
 obtain⟨its',r',⟨o',e',_,n',d'⟩,_⟩:=I.tuple h'
 rw [e] at e';cases e'
 rw [d] at d'
 injection d' with d1 _
 have:its=its':=by simpa using congrArg Array.toList d1
 subst this
 exact r.inj r'
end
noncomputable abbrev Cx.wish (X:Cx) (E:Value->Shared->Prop):Cx:={ X with xe:=E }
noncomputable abbrev Cx.nox (X:Cx):Cx:=X.wish fun _ _=>False
theorem Cx.Ok.wish {X:Cx} (ok:X.Ok) (E:Value->Shared->Prop):(X.wish E).Ok:=
 ⟨ok.mod,ok.kind,ok.glob,ok.blt,ok.above,ok.inj,ok.has,ok.cab,ok.hd,ok.frames,ok.stk,ok.exf,ok.bs,ok.bsz,ok.noex,ok.exfs,ok.funs,ok.frf⟩
theorem Cx.Ok.unwish {X:Cx} {E:Value->Shared->Prop} (ok:(X.wish E).Ok):X.Ok:=
 ⟨ok.mod,ok.kind,ok.glob,ok.blt,ok.above,ok.inj,ok.has,ok.cab,ok.hd,ok.frames,ok.stk,ok.exf,ok.bs,ok.bsz,ok.noex,ok.exfs,ok.funs,ok.frf⟩
section
variable {X:Cx} {pins:List (Addr×Obj)} {σ:St} {H:Hp} {s:Shared} {E:Value->Shared->Prop}
theorem Inv.wish (I:Inv X pins σ H s) (E:Value->Shared->Prop):Inv (X.wish E) pins σ H s:=⟨I.ok.wish E,I.os,I.bare,I.base,I.loc,I.cell,I.free,I.freeC,I.pin,I.hok,I.len⟩
theorem Inv.unwish (I:Inv (X.wish E) pins σ H s):Inv X pins σ H s:=⟨I.ok.unwish,I.os,I.bare,I.base,I.loc,I.cell,I.free,I.freeC,I.pin,I.hok,I.len⟩
theorem SP.unwish {D:Ends} {f:Flow} {s':Shared} (h:SP (X.wish E) pins D f s'):SP X pins D f s':=by
 cases f with
 | next=>obtain⟨σ',H',I,q⟩:=h;exact⟨σ',H',I.unwish,q⟩
 | brk=>obtain⟨σ',H',I,q⟩:=h;exact⟨σ',H',I.unwish,q⟩
 | cont=>obtain⟨σ',H',I,q⟩:=h;exact⟨σ',H',I.unwish,q⟩
 | ret u=>obtain⟨v,σ',H',I,r,q⟩:=h;exact⟨v,σ',H',I.unwish,r,q⟩
theorem MP.nox {st:List Stmt} {t:TS} (h:MP X.nox st t):MP X st t:=fun pins s σ H D I hw=>
 wpAny_mono (h pins s σ H D (I.wish _) hw) (fun _ _ q=>q.unwish) fun _ _ z=>False.elim z
end
section
variable {X:Cx} {st:Stmt} {rest:List Stmt} {t u:TS} {e:Expr} {te:TE} {pos:Pos}
noncomputable def Yk:TS:=fun D σ H=>D.nx σ H
noncomputable def yP (t u:TS):TS:=fun D σ H=>t { D with nx:=u D } σ H
theorem aZ:MP X [] Yk:=fun _ _ σ H _ I h=>wpAny_execs_nil ⟨σ,H,I,h⟩
theorem au (h1:PS X st t) (h2:MP X rest u):MP X (st:: rest) (yP t u):=by
 intro pins s σ H D I h
 refine wpAny_execs_cons (dJ (h1 pins s σ H { D with nx:=u D } I h) fun f s1 q=>?_)
 cases f with
 | next=>
  obtain⟨σ',H',I',q⟩:=q
  exact h2 pins s1 σ' H' D I' q
 | ret v=>exact q
 | brk=>exact q
 | cont=>exact q
theorem aA (h1:PS X st t):MP X [st] t:=by
 intro pins s σ H D I h
 refine wpAny_execs_cons (dJ (h1 pins s σ H D I h) fun f s1 q=>?_)
 cases f with
 | next=>exact wpAny_execs_nil q
 | ret v=>exact q
 | brk=>exact q
 | cont=>exact q
theorem Inv.quiet {pins:List (Addr×Obj)} {σ:St} {H:Hp} {s:Shared} (I:Inv X pins σ H s):interactive X.env=false:=by simp [interactive,I.ok.kind]
noncomputable def Xl (te:TE):TS:=fun D σ H=>te σ H fun _ H1=>D.nx σ H1
theorem bL (he:PE X e te) (hs:swapsWith e none pos.line X.env=pure false:=by rfl):PS X (.Expr e pos) (Xl te):=by
 intro pins s σ H D I h
 exact wpAny_Expr_any (dJ (he pins s σ H _ I h) fun v s1 ⟨x,H1,I1,r1,q1⟩=>⟨σ,H1,I1,q1⟩) I.quiet hs
noncomputable def ZL (te:TE):TS:=fun D σ H=>te σ H D.rt
theorem aN (he:PE X e te):PS X (.Return (some e) pos) (ZL te):=by
 intro pins s σ H D I h
 exact wpAny_Return_some (dJ (he pins s σ H _ I h) fun v s1 ⟨x,H1,I1,r1,q1⟩=>⟨x,σ,H1,I1,r1,q1⟩)
noncomputable def Y7 (c:TT) (t u:TS):TS:=fun D σ H=>c σ H fun b H1=>if b=true then t D σ H1 else u D σ H1
theorem bR {c:Expr} {a b:List Stmt} {tc:TT} (hc:PT X c tc) (ha:MP X a t) (hb:MP X b u):PS X (.If c a b pos) (Y7 tc t u):=by
 intro pins s σ H D I h
 refine wpAny_If (dJ (hc pins s σ H _ I h) fun d s1 hpt=>?_)
 obtain⟨H1,I1,q1⟩:=hpt
 cases d with
 | true=>exact ha pins s1 σ H1 D I1 q1
 | false=>exact hb pins s1 σ H1 D I1 q1
noncomputable def Wy:TS:=fun _ _ _=>False
theorem dO:PS X st Wy:=fun _ _ _ _ _ _ h=>h.elim
end
noncomputable abbrev TG:=V->St->Hp->(St->Hp->Prop)->Prop
noncomputable abbrev R4:=List V->St->Hp->(St->Hp->Prop)->Prop
noncomputable def PG (X:Cx) (target:Expr) (t:TG):Prop:=
 ∀(pins:List (Addr×Obj)) (s:Shared) (σ:St) (H:Hp) (v:V) (u:Value) (Q:St->Hp->Prop),Inv X pins σ H s->RelV v u->t v σ H Q->
  wpAny (model X.prog X.w) X.A (assign target X.env u) (fun _ s'=>∃σ' H',Inv X pins σ' H' s'/\Q σ' H') X.xe s
noncomputable def Yh (X:Cx) (ts:List Expr) (t:R4):Prop:=
 ∀(pins:List (Addr×Obj)) (s:Shared) (σ:St) (H:Hp) (vs:List V) (us:List Value) (Q:St->Hp->Prop),Inv X pins σ H s->Vals vs us->t vs σ H Q->
  wpAny (model X.prog X.w) X.A (assignInOrder ((assignEach ts X.env).map (·.2)) us) (fun _ s'=>∃σ' H',Inv X pins σ' H' s'/\Q σ' H') X.xe s
noncomputable abbrev Qx:=V->V->V->Hp->(Hp->Prop)->Prop
noncomputable def Tp (X:Cx) (t:Qx):Prop:=
 ∀(pins:List (Addr×Obj)) (s:Shared) (σ:St) (H:Hp) (o i v:V) (ov iv u:Value) (Q:Hp->Prop),Inv X pins σ H s->RelV o ov->RelV i iv->RelV v u->t o i v H Q->
  wpAny (model X.prog X.w) X.A (setItem ov iv u) (fun _ s'=>∃H',Inv X pins σ H' s'/\Q H') X.xe s
noncomputable abbrev Y0:=V->V->Hp->VK->Prop
noncomputable def Z7 (X:Cx) (op:Operator) (t:Y0):Prop:=
 ∀(pins:List (Addr×Obj)) (s:Shared) (σ:St) (H:Hp) (x y:V) (v u:Value) (Q:VK),Inv X pins σ H s->RelV x v->RelV y u->t x y H Q->
  wpAny (model X.prog X.w) X.A (inplaceOp op v u) (EP X pins σ Q) X.xe s
section
variable {X:Cx} {pos:Pos}
noncomputable def yJ (i:Nat):TG:=fun v σ H Q=>Q (σ.set i (some v)) H
theorem lA {i:Nat} {x:Str} (hN:X.N.Nodup) (hi:X.N[i]?=some x) (hx:Loc X.env.scope x) (hf:X.fn x=true∨X.env.scope.names.lookup x=some .local:=by first | exact .inl rfl | exact .inr rfl | assumption):PG X (.Name x pos) (yJ i):=by
 intro pins s σ H v u Q I r h
 exact wpAny_assign_Name (Ko I hN hi hx r (fun s' I'=>⟨_,H,I',h⟩) hf)
noncomputable def Zo:R4:=fun vs σ H Q=>vs=[]/\Q σ H
inductive PQ (t:TG) (u:R4) (vs:List V) (σ:St) (H:Hp) (Q:St->Hp->Prop):Prop where
 | mk:∀v r,vs=v:: r->(t v σ H fun σ' H'=>u r σ' H' Q)->PQ t u vs σ H Q
noncomputable def XM (t:TG) (u:R4):R4:=fun vs σ H Q=>PQ t u vs σ H Q
theorem fQ:Yh X [] Zo:=by
 intro pins s σ H vs us Q I r h
 obtain⟨e,h⟩:=h
 subst e
 cases r
 exact assignInOrder_nil ⟨σ,H,I,h⟩
theorem bD {e:Expr} {es:List Expr} {t:TG} {u:R4} (h1:PG X e t) (h2:Yh X es u)
  (hs:(assignEach (e:: es) X.env).map (·.2)=assign e X.env:: (assignEach es X.env).map (·.2):=by rfl):Yh X (e:: es) (XM t u):=by
 intro pins s σ H vs us Q I r h
 obtain⟨v,vr,e1,h⟩:=h
 subst e1
 cases r with
 | cons r rr=>
  rw [hs]
  refine assignInOrder_cons (dJ (h1 pins s σ H _ _ _ I r h) fun _ s1 hpt=>?_)
  obtain⟨σ1,H1,I1,q1⟩:=hpt
  exact h2 pins s1 σ1 H1 _ _ Q I1 rr q1
inductive Vm (K:PySem.W.Frag) (n:Nat) (t:R4) (v:V) (σ:St) (H:Hp) (Q:St->Hp->Prop):Prop where
 | mk:∀a xs,v=.ref a->eQ K H a xs->xs.length=n->t xs σ H Q->Vm K n t v σ H Q
noncomputable def Yl (K:PySem.W.Frag) (n:Nat) (t:R4):TG:=fun v σ H Q=>Vm K n t v σ H Q
theorem jT {es:List Expr} {k:Nat} {t:R4} {n:Nat} (hc:X.calm=true) (h:Yh X es t)
  (hn:(assignEach es X.env).length=n:=by rfl) (hst:(assignEach es X.env).findIdx? (·.1)=none:=by rfl):PG X (.Tuple es k pos) (Yl X.K n t):=by
 intro pins s σ H v u Q I r hw
 obtain⟨a,xs,e1,hq,hl,hw⟩:=hw
 subst e1
 cases r
 obtain⟨its,rv,ht,hz⟩:=I.tuple hq
 refine assign_Tuple_tuple (I.ok.hd hc) ht (by simp [hn,<-hl,rv.length]) hst fun h' hx=>?_
 have I1:Inv X pins σ H { s with heap:=h' }:=I.kept (t':=s.toks) fun b o e=>hx b o (Nat.ne_of_lt (Heap.lt_size e)) e
 exact h pins _ σ H xs _ Q I1 (by simpa using rv) hw
noncomputable def ZK (to ti:TE) (t:Qx):TG:=fun v σ H Q=>to σ H fun o H1=>ti σ H1 fun i H2=>t o i v H2 fun H3=>Q σ H3
theorem V7 {o i:Expr} {to ti:TE} {t:Qx} (ho:PE X o to) (hi:PE X i ti) (hs:Tp X t)
  (ha:∀v,assign (.Subscript o i pos) X.env v=(do
   let ov <-holding [v] (eval o X.env)
   let iv <-holding [v,ov] (eval i X.env)
   standAt pos
   holding [v,ov,iv] (setItem ov iv v)
   release [v,ov,iv] []):=by intro _;rfl):PG X (.Subscript o i pos) (ZK to ti t):=by
 intro pins s σ H v u Q I r h
 rw [ha]
 refine wpAny_bind (wpAny_holding (dJ (ho pins s σ H _ I h) fun ov s1 hpt=>?_))
 obtain⟨x,H1,I1,r1,q1⟩:=hpt
 refine wpAny_bind (wpAny_holding (dJ (hi pins s1 σ H1 _ I1 q1) fun iv s2 hpt=>?_))
 obtain⟨y,H2,I2,r2,q2⟩:=hpt
 refine wpAny_bind (wpAny_standAt (wpAny_bind (wpAny_holding (dJ (hs pins s2 σ H2 x y v ov iv u _ I2 r1 r2 r q2) fun _ s3 hpt=>?_))))
 obtain⟨H3,I3,q3⟩:=hpt
 exact wpAny_release ⟨σ,H3,I3,q3⟩
noncomputable def QQ (te:TE) (g:TG):TS:=fun D σ H=>te σ H fun x H1=>g x σ H1 D.nx
theorem Mg {tg e:Expr} {te:TE} {g:TG} (he:PE X e te) (hg:PG X tg g) (hs:swapsWithSole [tg] e pos.line X.env=pure false:=by rfl) (hw:swappedStores [tg] e X.env=pure none:=by rfl)
  (h1:(assignEach [tg] X.env).map (·.2)=[assign tg X.env]:=by rfl):PS X (.Assign [tg] e pos) (QQ te g):=by
 intro pins s σ H D I h
 refine wpAny_Assign_stores (dJ (he pins s σ H _ I h) fun v s1 hpt=>?_) hs hw
 obtain⟨x,H1,I1,r1,q1⟩:=hpt
 rw [h1]
 exact dJ (hg pins s1 σ H1 x v _ I1 r1 q1) fun _ s2 q=>q
theorem WY {i:Nat} {x:Str} {e:Expr} {te:TE} {pos':Pos} (hN:X.N.Nodup) (hi:X.N[i]?=some x) (hx:Loc X.env.scope x) (he:PE X e te) (hs:swapsWith e (some (.Name x pos')) pos.line X.env=pure false:=by rfl) (hf:X.fn x=true∨X.env.scope.names.lookup x=some .local:=by first | exact .inl rfl | exact .inr rfl | assumption):
  PS X (.Assign [.Name x pos'] e pos) (QQ te (yJ i)):=by
 intro pins s σ H D I h
 refine wpAny_Assign_Name (dJ (he pins s σ H _ I h) fun v s1 hpt=>?_) hs
 obtain⟨y,H1,I1,r1,q1⟩:=hpt
 exact Ko I1 hN hi hx r1 (fun s2 I2=>⟨_,H1,I2,q1⟩) hf
noncomputable def Yx (to ti te:TE) (tget:V->V->Hp->VK->Prop) (tip:Y0) (tset:Qx):TS:=fun D σ H=>to σ H fun o H1=>ti σ H1 fun i H2=>tget o i H2 fun x H3=>te σ H3 fun y H4=>tip x y H4 fun z H5=>tset o i z H5 fun H6=>D.nx σ H6
noncomputable def XJ (X:Cx) (t:V->V->Hp->VK->Prop):Prop:=
 ∀(pins:List (Addr×Obj)) (s:Shared) (σ:St) (H:Hp) (o i:V) (ov iv:Value) (Q:VK),Inv X pins σ H s->RelV o ov->RelV i iv->t o i H Q->
  wpAny (model X.prog X.w) X.A (getItem ov iv) (EP X pins σ Q) X.xe s
theorem NZ {o i e:Expr} {to ti te:TE} {tget:V->V->Hp->VK->Prop} {tip:Y0} {tset:Qx} {op:Operator} {tpos:Pos} (ho:PE X o to) (hi:PE X i ti) (hg:XJ X tget) (he:PE X e te) (hp:Z7 X op tip) (hs:Tp X tset)
  (ha:∀ov iv new,augStore i ov iv new=(do holding [new,ov,iv] (setItem ov iv new);release [new,ov,iv] [];pure .next):=by intros;rfl):PS X (.AugAssign (.Subscript o i tpos) op e pos) (Yx to ti te tget tip tset):=by
 intro pins s σ H D I h
 refine wpAny_AugAssign_SubscriptAny (dJ (ho pins s σ H _ I h) fun ov s1 hpt=>?_) ha
 obtain⟨x1,H1,I1,r1,q1⟩:=hpt
 refine dJ (hi pins s1 σ H1 _ I1 q1) fun iv s2 hpt=>?_
 obtain⟨x2,H2,I2,r2,q2⟩:=hpt
 refine dJ (hg pins s2 σ H2 x1 x2 ov iv _ I2 r1 r2 q2) fun old s3 hpt=>?_
 obtain⟨x3,H3,I3,r3,q3⟩:=hpt
 refine dJ (he pins s3 σ H3 _ I3 q3) fun v s4 hpt=>?_
 obtain⟨x4,H4,I4,r4,q4⟩:=hpt
 refine dJ (hp pins s4 σ H4 x3 x4 old v _ I4 r3 r4 q4) fun new s5 hpt=>?_
 obtain⟨x5,H5,I5,r5,q5⟩:=hpt
 exact dJ (hs pins s5 σ H5 x1 x2 x5 ov iv new _ I5 r1 r2 r5 q5) fun _ s6 ⟨H6,I6,q6⟩=>⟨σ,H6,I6,q6⟩
noncomputable def ipI (f:Int->Int->Int):Y0:=fun x y H Q=>∃i j,x=.int i/\y=.int j/\Q (.int (f i j)) H
theorem Qa:Z7 X .Add (ipI fun i j=>i+j):=by
 intro pins s σ H x y v u Q I r1 r2 h
 obtain⟨i,j,e1,e2,q⟩:=h
 subst e1;subst e2
 obtain⟨t,rfl⟩:=r1
 obtain⟨t',rfl⟩:=r2
 exact iadd_int ⟨.int _,H,I.tok _,⟨_,rfl⟩,q⟩
end
section
variable {X:Cx} {pos:Pos}
inductive Nk (c:TT) (tb:TS) (D:Ends) (σ:St) (H:Hp):Prop where
 | mk:∀W:Nat->St->Hp->Prop,((∃m,W m σ H))->(∀m σ H,W m σ H->
 c σ H fun b H1=>if b=true then ∃N:St->Hp->Prop,(∀σ' H',N σ' H'->∃m',m' <m/\W m' σ' H')/\tb { D with nx:=N,ct:=N,bk:=D.nx } σ H1 else D.nx σ H1)->Nk c tb D σ H
noncomputable def Qv (c:TT) (tb:TS):TS:=fun D σ H=>Nk c tb D σ H
theorem yZ {c:Expr} {body:List Stmt} {tc:TT} {tb:TS} (hp:PassesOwn (model X.prog X.w) X.A X.env X.xe) (hc:PT X c tc) (hb:MP X body tb):PS X (.While c body [] pos) (Qv tc tb):=by
 intro pins s σ H D I h
 obtain⟨W,⟨m0,w0⟩,turn⟩:=h
 refine wpAny_While (codeAny_whileLoop (fun n s'=>∃σ' H',Inv X pins σ' H' s'/\W n σ' H') ?_ m0 ⟨σ,H,I,w0⟩)
 rintro n s1 ⟨σ1,H1,I1,w1⟩
 refine wpAny_passesOwn hp (dJ (hc pins s1 σ1 H1 _ I1 (turn n σ1 H1 w1)) fun b s2 hpt=>?_)
 obtain⟨H2,I2,q2⟩:=hpt
 cases b with
 | true=>
  obtain⟨N,hN,q2⟩:=q2
  rw [if_pos rfl]
  refine wpAny_passesOwn hp (dJ (hb pins s2 σ1 H2 _ I2 q2) fun f s3 q3=>?_)
  cases f with
  | next=>
   obtain⟨σ3,H3,I3,n3⟩:=q3
   obtain⟨m',hm,w3⟩:=hN σ3 H3 n3
   exact⟨m',hm,σ3,H3,I3,w3⟩
  | cont=>
   obtain⟨σ3,H3,I3,n3⟩:=q3
   obtain⟨m',hm,w3⟩:=hN σ3 H3 n3
   exact⟨m',hm,σ3,H3,I3,w3⟩
  | brk=>exact q3
  | ret v=>exact q3
 | false=>
  rw [if_neg Bool.false_ne_true]
  exact wpAny_execs_nil ⟨σ1,H2,I2,q2⟩
end
structure It where
 go:Nat->Hp->Prop
 yld:Nat->Hp->V->Hp->Prop
 stop:Nat->Hp->Prop
noncomputable def Ik (X:Cx) (pins:List (Addr×Obj)) (H:Hp) (b:Addr):Prop:=
 H b=none/\b≠X.env.locals/\b∉X.fs/\(b∈X.ex∨X.s₀.heap.objs.size<=b)/\(∀x c,X.env.cells.lookup x=some c->c≠b)/\∀p∈X.pn ++ pins,p.1≠b
theorem Inv.fpOk {X:Cx} {pins:List (Addr×Obj)} {σ:St} {H H':Hp} {s:Shared} {b:Addr} (I:Inv X pins σ H s) (hb:s.heap.objs.size<=b) (hn:H' b=none):Ik X pins H' b:=by
 refine⟨hn,Nat.ne_of_gt (Nat.lt_of_lt_of_le I.lt hb),I.nofs hb,.inr (Nat.le_trans I.sz hb),fun x c e z=>?_,fun p hp z=>?_⟩
 ·obtain⟨v,q⟩:=I.cell x c e
  exact absurd (Nat.lt_of_lt_of_le q.lt (by rw [z];exact hb)) (Nat.lt_irrefl _)
 ·exact absurd (Nat.lt_of_lt_of_le (Heap.lt_size (I.pin p hp).1) (by rw [z];exact hb)) (Nat.lt_irrefl _)
structure Turn (P:Program) (w:World) (K:PySem.W.Frag) (tg:Expr) (J:It) (fp:List Addr) (it:Addr) (tn:Nat->Heap->Prop):Prop where
 mem:it∈fp
 obj:∀i h,tn i h->∀b∈fp,∃o,h.get? b=some o/\∀v,o.data≠.cell v
 keep:∀i h h',tn i h->(∀b∈fp,∀o,h.get? b=some o->h'.get? b=some o)->tn i h'
 item:∀(X:Cx),X.prog=P->X.w=w->X.K=K->X.calm=true->∀(i:Nat) (pins:List (Addr×Obj)) (s:Shared) (σ:St) (H:Hp) (E:Value->Shared->Prop),Inv X pins σ H s->(∀b∈fp,Ik X pins H b)->tn i s.heap->J.go i H->
  wpAny (model P w) X.A (pyNext (.ref it)) (fun r s1=>∃u,r=some u/\
   wpAny (model P w) X.A (letOwnedTupleGo tg (.ref it) u) (fun _ s2=>∃x H',Inv X pins σ H' s2/\RelV x u/\J.yld i H x H'/\tn (i+1) s2.heap/\∀b∈fp,H' b=none) E s1) E s
 done:∀(X:Cx),X.prog=P->X.w=w->X.K=K->X.calm=true->∀(i:Nat) (pins:List (Addr×Obj)) (s:Shared) (σ:St) (H:Hp) (E:Value->Shared->Prop),Inv X pins σ H s->(∀b∈fp,Ik X pins H b)->tn i s.heap->J.stop i H->
  wpAny (model P w) X.A (pyNext (.ref it)) (fun r s1=>r=none/\Inv X pins σ H s1) E s
 self:∀(A:Around) (i:Nat) (s:Shared) (Q:Value->Shared->Prop) (E:Value->Shared->Prop),tn i s.heap->Q (.ref it) s->wpAny (model P w) A (pyIter (.ref it)) Q E s
noncomputable abbrev TI:=St->Hp->(It->Hp->Prop)->Prop
noncomputable def PIE (X:Cx) (pins:List (Addr×Obj)) (σ:St) (tg:Expr) (R:It->Hp->Prop) (itv:Value) (s2:Shared):Prop:=
 ∃(it:Addr) (fp:List Addr) (tn:Nat->Heap->Prop) (J:It) (H':Hp),itv=.ref it/\Inv X pins σ H' s2/\Turn X.prog X.w X.K tg J fp it tn/\tn 0 s2.heap/\(∀b∈fp,Ik X pins H' b)/\R J H'
noncomputable def PI (X:Cx) (tg iter:Expr) (wi:TI):Prop:=
 ∀(pins:List (Addr×Obj)) (s:Shared) (σ:St) (H:Hp) (R:It->Hp->Prop),Inv X pins σ H s->wi σ H R->
  wpAny (model X.prog X.w) X.A (eval iter X.env) (fun v s1=>wpAny (model X.prog X.w) X.A (pyIter v) (PIE X pins σ tg R) X.xe s1) X.xe s
theorem Kc {M:Model} {A:Around} {E:Value->Shared->Prop} {s:Shared} {tg:Expr} {it:Addr} {u:Value} {o:Obj} {n:String} {vs:Array Value} {Q:Unit->Shared->Prop} (ho:s.heap.get? it=some o) (hc:o.cls=.type n) (hd:o.data=.fields vs)
  (hn:["enumerate", "zip", "dict_itemiterator", "dict_reverseitemiterator", "odict_iterator", "itertools.zip_longest", "itertools.pairwise"].contains n=false) (hQ:Q () s):wpAny M A (letOwnedTupleGo tg (.ref it) u) Q E s:=by
 unfold letOwnedTupleGo
 cases tg <;> first
  | exact wpAny_pure hQ
  | (cases u <;> first
    | exact wpAny_pure hQ
    | (refine wpAny_bind (wpAny_load ho ?_)
       rw [hc,hd]
       show wpAny M A (if (["enumerate", "zip", "dict_itemiterator", "dict_reverseitemiterator", "odict_iterator", "itertools.zip_longest", "itertools.pairwise"].contains n && vs[0]? == some (rawInt _))=true then _ else _) Q E s
       rw [if_neg (by intro h;rw [hn,Bool.false_and] at h;cases h)]
       exact wpAny_pure hQ))
noncomputable def Wt (K:PySem.W.Frag) (a:Addr):It:=
 ⟨fun i H=>∃xs x,bI K H a xs/\xs[i]?=some x,fun i H x H'=>H'=H/\∀xs,bI K H a xs->xs[i]?=some x,fun i H=>∃xs,bI K H a xs/\xs.length<=i⟩
noncomputable def Xb (K:PySem.W.Frag) (a:Addr):It:=
 ⟨fun i H=>∃xs x,eQ K H a xs/\xs[i]?=some x,fun i H x H'=>H'=H/\∀xs,eQ K H a xs->xs[i]?=some x,fun i H=>∃xs,eQ K H a xs/\xs.length<=i⟩
noncomputable def Wq (lo:Int) (n:Nat):It:=⟨fun i _=>i <n,fun i H x H'=>H'=H/\x=.int (lo+i),fun i _=>n<=i⟩
theorem N6 {P:Program} {w:World} {K:PySem.W.Frag} {tg:Expr} (a it:Addr):Turn P w K tg (Wt K a) [it] it (fun i h=>h.IsListIter it a i) where
 mem:=by simp
 obj:=fun i h st b hb=>by
  have e:b=it:=by simpa using hb
  subst e
  obtain⟨o,e,c,d⟩:=st
  exact⟨o,e,fun v z=>by rw [d] at z;cases z⟩
 keep:=fun i h h' st k=>st.at fun o e=>k it (by simp) o e
 item:=by
  intro X hP hw hK hc i pins s σ H E I hf st hg
  subst hP hw hK
  obtain⟨xs,x,hq,hx⟩:=hg
  obtain⟨its,rv,p,hz⟩:=I.list hq
  obtain⟨u,hu,ru⟩:=rv.get hx
  obtain⟨f0,f1,f2,f3,f4,f5⟩:=hf it (by simp)
  refine wpAny_pyNext_list_item st p.isList (x:=u) (by simpa using hu) fun h' st' sb=>?_
  have I1:Inv X pins σ H { s with heap:=h' }:=I.turned (t':=s.toks) (fun b o hb e=>(sb.2 b hb).trans e) f0 f1 f3 f4 f5
  obtain⟨o,e,c,d⟩:=id st'
  exact⟨u,rfl,Kc (s:={ s with heap:=h' }) e c d (by decide) ⟨x,H,I1,ru,⟨rfl,fun ys hy=>by rw [I.list_inj hy hq];exact hx⟩,st',fun b hb=>(hf b hb).1⟩⟩
 done:=by
  intro X hP hw hK hc i pins s σ H E I hf st hg
  subst hP hw hK
  obtain⟨xs,hq,hx⟩:=hg
  obtain⟨its,rv,p,hz⟩:=I.list hq
  obtain⟨f0,f1,f2,f3,f4,f5⟩:=hf it (by simp)
  have hl:=rv.length
  exact wpAny_pyNext_list_end (I.ok.hd hc) st p.isList (by simp;omega) fun h' eb=>⟨rfl,I.turned (t':=s.toks) (fun b o hb e=>eb b o hb e) f0 f1 f3 f4 f5⟩
 self:=fun _ _ _ _ _ st h=>wpAny_pyIter_listiter st h
theorem Lk {P:Program} {w:World} {K:PySem.W.Frag} {tg:Expr} (a it:Addr):Turn P w K tg (Xb K a) [it] it (fun i h=>h.IsTupleIter it a i) where
 mem:=by simp
 obj:=fun i h st b hb=>by
  have e:b=it:=by simpa using hb
  subst e
  obtain⟨o,e,c,d⟩:=st
  exact⟨o,e,fun v z=>by rw [d] at z;cases z⟩
 keep:=fun i h h' st k=>st.at fun o e=>k it (by simp) o e
 item:=by
  intro X hP hw hK hc i pins s σ H E I hf st hg
  subst hP hw hK
  obtain⟨xs,x,hq,hx⟩:=hg
  obtain⟨its,rv,p,hz⟩:=I.tuple hq
  obtain⟨u,hu,ru⟩:=rv.get hx
  obtain⟨f0,f1,f2,f3,f4,f5⟩:=hf it (by simp)
  refine wpAny_pyNext_tuple_item st (show s.heap.IsTuple a its.toArray from p) (x:=u) (by simpa using hu) fun h' st' sb=>?_
  have I1:Inv X pins σ H { s with heap:=h' }:=I.turned (t':=s.toks) (fun b o hb e=>(sb.2 b hb).trans e) f0 f1 f3 f4 f5
  obtain⟨o,e,c,d⟩:=id st'
  exact⟨u,rfl,Kc (s:={ s with heap:=h' }) e c d (by decide) ⟨x,H,I1,ru,⟨rfl,fun ys hy=>by rw [I.tuple_inj hy hq];exact hx⟩,st',fun b hb=>(hf b hb).1⟩⟩
 done:=by
  intro X hP hw hK hc i pins s σ H E I hf st hg
  subst hP hw hK
  obtain⟨xs,hq,hx⟩:=hg
  obtain⟨its,rv,p,hz⟩:=I.tuple hq
  obtain⟨f0,f1,f2,f3,f4,f5⟩:=hf it (by simp)
  have hl:=rv.length
  exact wpAny_pyNext_tuple_end (I.ok.hd hc) st (show s.heap.IsTuple a its.toArray from p) (by simp;omega) fun h' eb=>⟨rfl,I.turned (t':=s.toks) (fun b o hb e=>eb b o hb e) f0 f1 f3 f4 f5⟩
 self:=fun _ _ _ _ _ st h=>wpAny_pyIter_tupleiter st h
theorem Ly {P:Program} {w:World} {K:PySem.W.Frag} {tg:Expr} (it:Addr) (lo:Int) (n:Nat):Turn P w K tg (Wq lo n) [it] it (fun i h=>IsRangeIter h it (lo+(i:Nat) * 1) ((n:Int) - (i:Nat)) 1) where
 mem:=by simp
 obj:=fun i h st b hb=>by
  have e:b=it:=by simpa using hb
  subst e
  exact⟨_,st,fun v z=>by
   have z':Data.fields _=Data.cell v:=z
   cases z'⟩
 keep:=fun i h h' st k=>k it (by simp) _ st
 item:=by
  intro X hP hw hK hc i pins s σ H E I hf st hg
  subst hP hw hK
  obtain⟨f0,f1,f2,f3,f4,f5⟩:=hf it (by simp)
  have W:=Walks.range (prog:=X.prog) (w:=X.w) (I.ok.hd hc) it lo 1 n
  refine W.item i s _ _ hg st fun v h' tk hv st' kk=>?_
  obtain⟨t,rfl⟩:=hv
  have I1:Inv X pins σ H { s with heap:=h',toks:=tk }:=I.turned (fun b o hb e=>kk b o (by simpa using hb) e) f0 f1 f3 f4 f5
  refine⟨_,rfl,Kc (s:={ s with heap:=h',toks:=tk }) (n:= "range_iterator") st' rfl rfl (by decide) ⟨.int (lo+i),H,I1,⟨t,?_⟩,⟨rfl,rfl⟩,st',fun b hb=>(hf b hb).1⟩⟩
  rw [Int.mul_one]
 done:=by
  intro X hP hw hK hc i pins s σ H E I hf st hg
  subst hP hw hK
  obtain⟨f0,f1,f2,f3,f4,f5⟩:=hf it (by simp)
  exact wpAny_pyNext_range_end (I.ok.hd hc) st (by have:n<=i:=hg;omega) fun h' eb=>⟨rfl,I.turned (t':=s.toks) (fun b o hb e=>eb b o hb e) f0 f1 f3 f4 f5⟩
 self:=fun _ _ _ _ _ st h=>wpAny_pyIter_rangeiter st h
section
variable {X:Cx} {tg:Expr}
inductive Qh (K:PySem.W.Frag) (R:It->Hp->Prop) (x:V) (H1:Hp):Prop where
 | mk:∀a,x=.ref a->((∃xs,bI K H1 a xs))->R (Wt K a) H1->Qh K R x H1
noncomputable def Ve (K:PySem.W.Frag) (tl:TE):TI:=fun σ H R=>tl σ H fun x H1=>Qh K R x H1
inductive Vl (K:PySem.W.Frag) (R:It->Hp->Prop) (x:V) (H1:Hp):Prop where
 | mk:∀a,x=.ref a->((∃xs,eQ K H1 a xs))->R (Xb K a) H1->Vl K R x H1
noncomputable def Ye (K:PySem.W.Frag) (tl:TE):TI:=fun σ H R=>tl σ H fun x H1=>Vl K R x H1
theorem b8 {l:Expr} {tl:TE} (hl:PE X l tl):PI X tg l (Ve X.K tl):=by
 intro pins s σ H R I h
 refine dJ (hl pins s σ H _ I h) fun v s1 hpt=>?_
 obtain⟨x,H1,I1,r1,q1⟩:=hpt
 obtain⟨a,e,⟨xs,hq⟩,q⟩:=q1
 subst e
 cases r1
 obtain⟨its,rv,p,hz⟩:=I1.list hq
 refine wpAny_pyIter_list p.isList ?_
 refine⟨s1.heap.objs.size,[s1.heap.objs.size],_,_,H1,rfl,I1.kept (t':=s1.toks) fun b o e=>Heap.get?_push_of_some _ e,N6 a _,⟨_,Heap.get?_push_size _ rfl,rfl,rfl⟩,fun b hb=>?_,q⟩
 have e:b=s1.heap.objs.size:=by simpa using hb
 subst e
 exact I1.fpOk (Nat.le_refl _) (I1.hok.fresh (Nat.le_refl _))
theorem Jb {l:Expr} {tl:TE} (hl:PE X l tl):PI X tg l (Ye X.K tl):=by
 intro pins s σ H R I h
 refine dJ (hl pins s σ H _ I h) fun v s1 hpt=>?_
 obtain⟨x,H1,I1,r1,q1⟩:=hpt
 obtain⟨a,e,⟨xs,hq⟩,q⟩:=q1
 subst e
 cases r1
 obtain⟨its,rv,p,hz⟩:=I1.tuple hq
 refine wpAny_pyIter_tuple (show s1.heap.IsTuple a its.toArray from p) ?_
 refine⟨s1.heap.objs.size,[s1.heap.objs.size],_,_,H1,rfl,I1.kept (t':=s1.toks) fun b o e=>Heap.get?_push_of_some _ e,Lk a _,⟨_,Heap.get?_push_size _ rfl,rfl,rfl⟩,fun b hb=>?_,q⟩
 have e:b=s1.heap.objs.size:=by simpa using hb
 subst e
 exact I1.fpOk (Nat.le_refl _) (I1.hok.fresh (Nat.le_refl _))
theorem Ql {pins:List (Addr×Obj)} {σ:St} {H:Hp} {s:Shared} {R:It->Hp->Prop} {E:Value->Shared->Prop} {lo hi:Int} {t u v:Tok} {tk:Nat} (I:Inv X pins σ H s) (h1: -(2 ^ 62)<=lo) (h2:lo <2 ^ 62) (h3: -(2 ^ 62)<=hi) (h4:hi <2 ^ 62)
  (q:R (Wq lo (hi - lo).toNat) H):wpAny (model X.prog X.w) X.A (pyIter (.ref s.heap.objs.size)) (PIE X pins σ tg R) E { s with heap:=s.heap.push { cls:=.type "range",data:=.fields #[.int lo t,.int hi u,.int 1 v] },toks:=tk }:=by
 refine wpAny_pyIter_range (IsRange.new ..) (small_one h1 h2 h3 h4) ?_
 have I1:Inv X pins σ H { s with heap:=s.heap.push { cls:=.type "range",data:=.fields #[.int lo t,.int hi u,.int 1 v] },toks:=tk }:=I.kept fun b o e=>Heap.get?_push_of_some _ e
 refine⟨(s.heap.push { cls:=.type "range",data:=.fields #[.int lo t,.int hi u,.int 1 v] }).objs.size,[(s.heap.push { cls:=.type "range",data:=.fields #[.int lo t,.int hi u,.int 1 v] }).objs.size],_,_,H,rfl,
  I1.kept (t':=tk) fun b o e=>Heap.get?_push_of_some _ e,Ly _ lo (hi - lo).toNat,?_,fun b hb=>?_,q⟩
 ·have e1:lo+((0:Nat):Int) * 1=lo:=by simp
  have e2:(((hi - lo).toNat:Nat):Int) - ((0:Nat):Int)=Builtin.Range.rangeSize lo hi 1:=by rw [rangeSize_one];split <;> omega
  show IsRangeIter _ _ (lo+((0:Nat):Int) * 1) ((((hi - lo).toNat:Nat):Int) - ((0:Nat):Int)) 1
  rw [e1,e2]
  exact Heap.get?_push_size _ rfl
 ·have e:b=(s.heap.push { cls:=.type "range",data:=.fields #[.int lo t,.int hi u,.int 1 v] }).objs.size:=by simpa using hb
  subst e
  exact I1.fpOk (Nat.le_refl _) (I1.hok.fresh (Nat.le_refl _))
inductive Rh (R:It->Hp->Prop) (vs:List V) (H1:Hp):Prop where
 | mk:∀j:Int,vs=[.int j]-> -(2 ^ 62)<=j->j <2 ^ 62->R (Wq 0 j.toNat) H1->Rh R vs H1
noncomputable def Yi (ta:TA):TI:=fun σ H R=>ta σ H fun vs H1=>Rh R vs H1
theorem jH {a:Expr} {ta:TA} {p pos:Pos} (hg:Gl X "range") (hm:X.mg "range" =none) (ha:PA X [a] ta) (hs:starEach [a] X.env=[(false,eval a X.env)]:=by rfl):PI X tg (.Call (.Name "range" p) [a] [] pos) (Yi ta):=by
 intro pins s σ H R I h
 refine Call_ (Ce I hg hm boot_range (PyProof.Rows.callWith_type1 (dJ (ha pos pins s σ H _ I h) fun us s1 ⟨vs,H1,I1,r1,q1⟩=>?_) hs rfl))
 obtain⟨j,e,q1,q2,q⟩:=q1
 subst e
 cases r1 with
 | cons r rr=>
  cases rr
  obtain⟨t,rfl⟩:=r
  exact call_range_1 (Ql I1 (by omega) (by omega) q1 q2 (by simpa using q))
noncomputable def Zq (wi:TI) (g:TG) (tb:TS):TS:=fun D σ H=>wi σ H fun J H1=>∃W:Nat->Nat->St->Hp->Prop,(∃m,W 0 m σ H1)/\∀i m σ H,W i m σ H->
 (J.stop i H/\D.nx σ H)∨(J.go i H/\∃N:St->Hp->Prop,(∀σ' H',N σ' H'->∃m',m' <m/\W (i+1) m' σ' H')/\∀x H',J.yld i H x H'->g x σ H' fun σ2 H2=>tb { D with nx:=N,ct:=N,bk:=D.nx } σ2 H2)
noncomputable def Io (fp:List Addr) (h:Heap):List (Addr×Obj):=fp.filterMap fun b=>(h.get? b).map fun o=>(b,o)
theorem rU {fp:List Addr} {h:Heap} {b:Addr} {o:Obj} (hb:b∈fp) (e:h.get? b=some o):(b,o)∈Io fp h:=List.mem_filterMap.mpr ⟨b,hb,by rw [e];rfl⟩
theorem Oj {fp:List Addr} {h:Heap} {p:Addr×Obj} (hp:p∈Io fp h):p.1∈fp/\h.get? p.1=some p.2:=by
 obtain⟨b,hb,e⟩:=List.mem_filterMap.mp hp
 cases q:h.get? b with
 | none=>rw [q] at e;cases e
 | some o=>
  rw [q] at e
  have e':(b,o)=p:=Option.some.inj e
  subst e'
  exact⟨hb,q⟩
theorem Inv.pinned {pins:List (Addr×Obj)} {σ:St} {H:Hp} {s:Shared} {fp:List Addr} (I:Inv X pins σ H s) (hf:∀b∈fp,Ik X pins H b) (ho:∀b∈fp,∃o,s.heap.get? b=some o/\∀v,o.data≠.cell v):Inv X (pins ++ Io fp s.heap) σ H s:=
 I.pins_of fun p hp=>(List.mem_append.mp hp).elim (fun z=>I.pin p (List.mem_append_right _ z)) fun z=>by
  obtain⟨hb,e⟩:=Oj z
  obtain⟨f0,f1,f2,_⟩:=hf p.1 hb
  obtain⟨o,e',d⟩:=ho p.1 hb
  rw [e] at e';cases e'
  exact⟨e,f0,f1,f2,d⟩
theorem Inv.unpinned {pins pl:List (Addr×Obj)} {σ:St} {H:Hp} {s:Shared} (I:Inv X (pins ++ pl) σ H s):Inv X pins σ H s:=I.pins_of fun p hp=>I.pin p (List.mem_append_right _ (List.mem_append_left _ hp))
theorem dD {iter:Expr} {body:List Stmt} {wi:TI} {g:TG} {tb:TS} {pos:Pos} (hp:PassesOwn (model X.prog X.w) X.A X.env X.xe) (hc:X.calm=true) (hi:PI X tg iter wi) (hg:PG X tg g) (hb:MP X body tb)
  (hs:∀x,foldedSetIterable iter X.env x=pure x:=by intro _;rfl):PS X (.For tg iter body [] pos) (Zq wi g tb):=by
 intro pins s σ H D I h
 refine wpAny_For (dJ (hi pins s σ H _ I h) fun v s1 h1=>dJ h1 fun itv s2 h2=>?_) hs
 obtain⟨it,fp,tn,J,H2,e,I2,T,st2,f2,W,⟨m0,w0⟩,turn⟩:=h2
 subst e
 have stat:∀{H':Hp},(∀b∈fp,H' b=none)->∀b∈fp,Ik X pins H' b:=fun hn b hb=>⟨hn b hb,(f2 b hb).2⟩
 refine codeAny_forLoop_any (fun n s'=>∃i σ' H',Inv X pins σ' H' s'/\tn i s'.heap/\(∀b∈fp,H' b=none)/\W i n σ' H') ?_ m0 ⟨0,σ,H2,I2,st2,fun b hb=>(f2 b hb).1,w0⟩
 rintro n s3 ⟨i,σ3,H3,I3,st3,fr3,w3⟩
 rcases turn i n σ3 H3 w3 with ⟨stop,qn⟩ | ⟨go,N,hN,step⟩
 ·refine wpAny_passesOwn hp (dJ (T.done X rfl rfl rfl hc i pins s3 σ3 H3 X.xe I3 (stat fr3) st3 stop) fun r s4 hpt=>?_)
  obtain⟨hr,I4⟩:=hpt
  subst hr
  exact wpAny_execs_nil ⟨σ3,H3,I4,qn⟩
 ·refine wpAny_passesOwn hp (dJ (T.item X rfl rfl rfl hc i pins s3 σ3 H3 X.xe I3 (stat fr3) st3 go) fun r s4 hpt=>?_)
  obtain⟨u,hr,h4⟩:=hpt
  subst hr
  refine wpAny_passesOwn hp (dJ h4 fun _ s5 hpt=>?_)
  obtain⟨x,H5,I5,r5,y5,st5,fr5⟩:=hpt
  have I5':=I5.pinned (stat fr5) (T.obj _ _ st5)
  refine wpAny_passesOwn hp (dJ (hg _ s5 σ3 H5 x u _ I5' r5 (step x H5 y5)) fun _ s6 hpt=>?_)
  obtain⟨σ6,H6,I6,q6⟩:=hpt
  refine wpAny_passesOwn hp (dJ (hb _ s6 σ6 H6 _ I6 q6) fun f s7 q7=>?_)
  have again:∀{σ7:St} {H7:Hp},Inv X (pins ++ Io fp s5.heap) σ7 H7 s7->N σ7 H7->∃m,m <n/\∃i σ' H',Inv X pins σ' H' s7/\tn i s7.heap/\(∀b∈fp,H' b=none)/\W i m σ' H':=fun {σ7 H7} I7 n7=>by
   obtain⟨m',hm,w7⟩:=hN σ7 H7 n7
   refine⟨m',hm,i+1,σ7,H7,I7.unpinned,T.keep _ _ _ st5 fun b hb o e=>(I7.pin (b,o) (List.mem_append_right _ (List.mem_append_right _ (rU hb e)))).1,fun b hb=>?_,w7⟩
   obtain⟨o,e,d⟩:=T.obj _ _ st5 b hb
   exact(I7.pin (b,o) (List.mem_append_right _ (List.mem_append_right _ (rU hb e)))).2.1
  cases f with
  | next=>obtain⟨σ7,H7,I7,n7⟩:=q7;exact again I7 n7
  | cont=>obtain⟨σ7,H7,I7,n7⟩:=q7;exact again I7 n7
  | brk=>obtain⟨σ7,H7,I7,q7⟩:=q7;exact⟨σ7,H7,I7.unpinned,q7⟩
  | ret v=>obtain⟨x7,σ7,H7,I7,r7,q7⟩:=q7;exact⟨x7,σ7,H7,I7.unpinned,r7,q7⟩
end
theorem cU {K:PySem.W.Frag} {a:Addr} {xs:List V} {g:TG} {tb:TS} {D:Ends} {σ:St} {H:Hp} (Pv:Nat->St->Hp->Prop) (h0:Pv 0 σ H) (hl:∀i σ H,i<=xs.length->Pv i σ H->bI K H a xs)
  (hs:∀i x σ H,xs[i]?=some x->Pv i σ H->g x σ H fun σ2 H2=>tb { D with nx:=Pv (i+1),ct:=Pv (i+1),bk:=D.nx } σ2 H2) (hd:∀σ H,Pv xs.length σ H->D.nx σ H):
  ∃W:Nat->Nat->St->Hp->Prop,(∃m,W 0 m σ H)/\∀i m σ H,W i m σ H->
   ((Wt K a).stop i H/\D.nx σ H)∨((Wt K a).go i H/\∃N:St->Hp->Prop,(∀σ' H',N σ' H'->∃m',m' <m/\W (i+1) m' σ' H')/\∀x H',(Wt K a).yld i H x H'->g x σ H' fun σ2 H2=>tb { D with nx:=N,ct:=N,bk:=D.nx } σ2 H2):=by
 refine⟨fun i m σ H=>m=xs.length - i/\i<=xs.length/\Pv i σ H,⟨xs.length,by simp,Nat.zero_le _,h0⟩,?_⟩
 rintro i m σ H ⟨rfl,hi,p⟩
 have q:=hl i σ H hi p
 by_cases hlt:i <xs.length
 ·refine .inr ⟨⟨xs,xs[i],q,by simp [hlt]⟩,Pv (i+1),fun σ' H' p'=>⟨xs.length - (i+1),by omega,rfl,hlt,p'⟩,fun x H' y=>?_⟩
  obtain⟨e,y⟩:=y
  subst e
  exact hs i x σ _ (y xs q) p
 ·have e:i=xs.length:=by omega
  subst e
  exact .inl ⟨⟨xs,q,Nat.le_refl _⟩,hd σ H p⟩
theorem Ua {K:PySem.W.Frag} {a:Addr} {xs:List V} {g:TG} {tb:TS} {D:Ends} {σ:St} {H:Hp} (Pv:Nat->St->Hp->Prop) (h0:Pv 0 σ H) (hl:∀i σ H,i<=xs.length->Pv i σ H->eQ K H a xs)
  (hs:∀i x σ H,xs[i]?=some x->Pv i σ H->g x σ H fun σ2 H2=>tb { D with nx:=Pv (i+1),ct:=Pv (i+1),bk:=D.nx } σ2 H2) (hd:∀σ H,Pv xs.length σ H->D.nx σ H):
  ∃W:Nat->Nat->St->Hp->Prop,(∃m,W 0 m σ H)/\∀i m σ H,W i m σ H->
   ((Xb K a).stop i H/\D.nx σ H)∨((Xb K a).go i H/\∃N:St->Hp->Prop,(∀σ' H',N σ' H'->∃m',m' <m/\W (i+1) m' σ' H')/\∀x H',(Xb K a).yld i H x H'->g x σ H' fun σ2 H2=>tb { D with nx:=N,ct:=N,bk:=D.nx } σ2 H2):=by
 refine⟨fun i m σ H=>m=xs.length - i/\i<=xs.length/\Pv i σ H,⟨xs.length,by simp,Nat.zero_le _,h0⟩,?_⟩
 rintro i m σ H ⟨rfl,hi,p⟩
 have q:=hl i σ H hi p
 by_cases hlt:i <xs.length
 ·refine .inr ⟨⟨xs,xs[i],q,by simp [hlt]⟩,Pv (i+1),fun σ' H' p'=>⟨xs.length - (i+1),by omega,rfl,hlt,p'⟩,fun x H' y=>?_⟩
  obtain⟨e,y⟩:=y
  subst e
  exact hs i x σ _ (y xs q) p
 ·have e:i=xs.length:=by omega
  subst e
  exact .inl ⟨⟨xs,q,Nat.le_refl _⟩,hd σ H p⟩
theorem Fz {lo:Int} {n:Nat} {g:TG} {tb:TS} {D:Ends} {σ:St} {H:Hp} (Pv:Nat->St->Hp->Prop) (h0:Pv 0 σ H)
  (hs:∀i σ H,i <n->Pv i σ H->g (.int (lo+i)) σ H fun σ2 H2=>tb { D with nx:=Pv (i+1),ct:=Pv (i+1),bk:=D.nx } σ2 H2) (hd:∀σ H,Pv n σ H->D.nx σ H):
  ∃W:Nat->Nat->St->Hp->Prop,(∃m,W 0 m σ H)/\∀i m σ H,W i m σ H->
   ((Wq lo n).stop i H/\D.nx σ H)∨((Wq lo n).go i H/\∃N:St->Hp->Prop,(∀σ' H',N σ' H'->∃m',m' <m/\W (i+1) m' σ' H')/\∀x H',(Wq lo n).yld i H x H'->g x σ H' fun σ2 H2=>tb { D with nx:=N,ct:=N,bk:=D.nx } σ2 H2):=by
 refine⟨fun i m σ H=>m=n - i/\i<=n/\Pv i σ H,⟨n,by simp,Nat.zero_le _,h0⟩,?_⟩
 rintro i m σ H ⟨rfl,hi,p⟩
 by_cases hlt:i <n
 ·refine .inr ⟨hlt,Pv (i+1),fun σ' H' p'=>⟨n - (i+1),by omega,rfl,hlt,p'⟩,fun x H' y=>?_⟩
  obtain⟨e,y⟩:=y
  subst e y
  exact hs i σ _ hlt p
 ·have e:i=n:=by omega
  subst e
  exact .inl ⟨Nat.le_refl _,hd σ H p⟩
theorem xY {c:TT} {tb:TS} {D:Ends} {σ:St} {H:Hp} (Pv:St->Hp->Prop) (μ:St->Hp->Nat) (h0:Pv σ H)
  (hs:∀σ H,Pv σ H->c σ H fun b H1=>if b=true then tb { D with nx:=fun σ' H'=>Pv σ' H'/\μ σ' H' <μ σ H,ct:=fun σ' H'=>Pv σ' H'/\μ σ' H' <μ σ H,bk:=D.nx } σ H1 else D.nx σ H1)
  (mono:∀σ H Q Q',(∀b H1,Q b H1->Q' b H1)->c σ H Q->c σ H Q'):Qv c tb D σ H:=by
 refine⟨fun m σ H=>m=μ σ H/\Pv σ H,⟨_,rfl,h0⟩,?_⟩
 rintro m σ H ⟨rfl,p⟩
 refine mono σ H _ _ (fun b H1 q=>?_) (hs σ H p)
 cases b with
 | true=>exact⟨_,fun σ' H' ⟨p',l⟩=>⟨_,l,rfl,p'⟩,q⟩
 | false=>exact q
noncomputable abbrev R2:=V->V->Hp->VK->Prop
noncomputable def uK (X:Cx) (f:Value->Value->Sem Value) (r:R2):Prop:=
 ∀(pins:List (Addr×Obj)) (s:Shared) (σ:St) (H:Hp) (x y:V) (v u:Value) (Q:VK),Inv X pins σ H s->RelV x v->RelV y u->r x y H Q->
  wpAny (model X.prog X.w) X.A (f v u) (EP X pins σ Q) X.xe s
noncomputable def mG (X:Cx) (f:Value) (r:List V->Hp->VK->Prop):Prop:=
 ∀(pins:List (Addr×Obj)) (s:Shared) (σ:St) (H:Hp) (xs:List V) (us:List Value) (Q:VK),Inv X pins σ H s->Vals xs us->r xs H Q->
  wpAny (model X.prog X.w) X.A (call f us) (EP X pins σ Q) X.xe s
noncomputable def Yu (r:R2) (ta tb:TE):TE:=fun σ H Q=>ta σ H fun x H1=>tb σ H1 fun y H2=>r x y H2 Q
inductive Z0 (C:Int->Int->Prop) (g:Int->Int->V) (x:V) (y:V) (H:Hp) (Q:VK):Prop where
 | mk:∀i j,x=.int i->y=.int j->C i j->Q (g i j) H->Z0 C g x y H Q
noncomputable def rI (C:Int->Int->Prop) (g:Int->Int->V):R2:=fun x y H Q=>Z0 C g x y H Q
inductive Yj (g:Int->Int->V) (x:V) (y:V) (H:Hp) (Q:VK):Prop where
 | mk:∀i j,x=.int i->y=.int j->Q (g i j) H->Yj g x y H Q
noncomputable def Sg (g:Int->Int->V):R2:=fun x y H Q=>Yj g x y H Q
section
variable {X:Cx} {a b c:Expr} {ta tb tc:TE} {pos:Pos}
theorem Wk (ha:PE X a ta) (hb:PE X b tb) {pins:List (Addr×Obj)} {s:Shared} {σ:St} {H:Hp} {R:V->V->Hp->Prop} (I:Inv X pins σ H s)
  (h:ta σ H fun x H1=>tb σ H1 fun y H2=>R x y H2) {Q:Value->Shared->Prop} {f:Value->Value->Sem Value}
  (hf:∀v u s2 x y H2,Inv X pins σ H2 s2->RelV x v->RelV y u->R x y H2->wpAny (model X.prog X.w) X.A (f v u) Q X.xe s2):
  wpAny (model X.prog X.w) X.A (eval a X.env) (fun v s₁=>wpAny (model X.prog X.w) X.A (eval b X.env) (fun u s₂=>wpAny (model X.prog X.w) X.A (f v u) Q X.xe s₂) X.xe s₁) X.xe s:=by
 refine dJ (ha pins s σ H _ I h) fun v s1 hpt=>?_
 obtain⟨x,H1,I1,r1,q1⟩:=hpt
 refine dJ (hb pins s1 σ H1 _ I1 q1) fun u s2 hpt=>?_
 obtain⟨y,H2,I2,r2,q2⟩:=hpt
 exact hf v u s2 x y H2 I2 r1 r2 q2
theorem aX {op:Operator} {r:R2} (ho:uK X (binaryOp op) r) (ha:PE X a ta) (hb:PE X b tb):PE X (.BinOp a op b pos) (Yu r ta tb):=by
 intro pins s σ H Q I h
 exact wpAny_BinOp (Wk ha hb I h fun v u s2 x y H2 I2 rx ry q=>ho pins s2 σ H2 x y v u Q I2 rx ry q)
theorem YH {f:Value->Value->Sem Value} {C:Int->Int->Prop} {g:Int->Int->Int}
  (rule:∀(i j:Int) (t u:Tok) (s:Shared) (Q:Value->Shared->Prop) (E:Value->Shared->Prop),C i j->Q (.int (g i j) s.toks) { s with toks:=s.toks+1 }->wpAny (model X.prog X.w) X.A (f (.int i t) (.int j u)) Q E s):
  uK X f (rI C fun i j=>.int (g i j)):=by
 intro pins s σ H x y v u Q I rx ry h
 obtain⟨i,j,rfl,rfl,hc,q⟩:=h
 obtain⟨t,rfl⟩:=rx
 obtain⟨t',rfl⟩:=ry
 exact rule i j t t' s _ _ hc ⟨.int (g i j),H,I.tok _,⟨_,rfl⟩,q⟩
theorem Td {f:Value->Value->Sem Value} {g:Int->Int->Int}
  (rule:∀(i j:Int) (t u:Tok) (s:Shared) (Q:Value->Shared->Prop) (E:Value->Shared->Prop),Q (.int (g i j) s.toks) { s with toks:=s.toks+1 }->wpAny (model X.prog X.w) X.A (f (.int i t) (.int j u)) Q E s):
  uK X f (Sg fun i j=>.int (g i j)):=by
 intro pins s σ H x y v u Q I rx ry h
 obtain⟨i,j,rfl,rfl,q⟩:=h
 obtain⟨t,rfl⟩:=rx
 obtain⟨t',rfl⟩:=ry
 exact rule i j t t' s _ _ ⟨.int (g i j),H,I.tok _,⟨_,rfl⟩,q⟩
theorem SX {f:Value->Value->Sem Value} {g:Int->Int->Bool}
  (rule:∀(i j:Int) (t u:Tok) (s:Shared) (Q:Value->Shared->Prop) (E:Value->Shared->Prop),Q (.bool (g i j)) s->wpAny (model X.prog X.w) X.A (f (.int i t) (.int j u)) Q E s):
  uK X f (Sg fun i j=>.bl (g i j)):=by
 intro pins s σ H x y v u Q I rx ry h
 obtain⟨i,j,rfl,rfl,q⟩:=h
 obtain⟨t,rfl⟩:=rx
 obtain⟨t',rfl⟩:=ry
 exact rule i j t t' s _ _ ⟨.bl (g i j),H,I,rfl,q⟩
noncomputable def ZD (i j:Int):Prop:=0<=j/\j<=1000000/\i.natAbs <2 ^ 64
theorem LR (k:Nat):(0:Int)<=2 ^ k:=by
 rw [two_pow_cast]
 exact Int.natCast_nonneg _
theorem dh:uK X (binaryOp .Add) (Sg fun i j=>.int (i+j)):=Td fun _ _ _ _ _ _ _ q=>add_int q
theorem Ij:uK X (binaryOp .Sub) (Sg fun i j=>.int (i - j)):=Td fun _ _ _ _ _ _ _ q=>sub_int q
theorem bW:uK X (binaryOp .Mod) (rI (fun _ j=>0 <j) fun i j=>.int (i % j)):=YH fun i j _ _ _ _ _ hc q=>by
 have h1:(0:Int) <j:=hc
 exact mod_int' (by omega) (by rw [Int.fmod_eq_emod_of_nonneg i (by omega)];exact q)
theorem xq:uK X (binaryOp .Pow) (rI ZD fun i j=>.int (i ^ j.toNat)):=YH fun _ _ _ _ _ _ _ hc q=>pow_int_small hc.1 hc.2.1 hc.2.2 q
theorem QS:uK X (binaryOp .RShift) (rI (fun _ j=>0<=j) fun i j=>.int (i / 2 ^ j.toNat)):=YH fun i j _ _ _ _ _ hc q=>
 rshift_int hc (by rw [Int.fdiv_eq_ediv_of_nonneg i (LR _)];exact q)
theorem W3:uK X (binaryOp .BitAnd) (Sg fun i j=>.int (Builtin.bitAnd i j)):=Td fun _ _ _ _ _ _ _ q=>and_int q
theorem By:uK X (inplaceOp .Add) (Sg fun i j=>.int (i+j)):=Td fun _ _ _ _ _ _ _ q=>iadd_int q
end
noncomputable def Yv:V->V->Bool
 | .non,.non=>true | .non,.int _=>true | .int _,.non=>true | .non,.bl _=>true | .bl _,.non=>true | .non,.str _=>true | .str _,.non=>true
 | .int _,.int _=>true | .bl _,.bl _=>true | .str _,.str _=>true | .byt _,.byt _=>true
 | .int _,.str _=>true | .str _,.int _=>true | .bl _,.str _=>true | .str _,.bl _=>true
 | _,_=>false
noncomputable def rEq:R2:=fun x y H Q=>Yv x y=true/\Q (.bl (decide (x=y))) H
noncomputable def rNe:R2:=fun x y H Q=>Yv x y=true/\Q (.bl (!decide (x=y))) H
theorem Nb {i j:Int}:decide (V.int i=V.int j)=(i == j):=by
 rw [Bool.eq_iff_iff]
 simp
theorem QC {i j:Bool}:decide (V.bl i=V.bl j)=(i == j):=by
 rw [Bool.eq_iff_iff]
 simp
theorem M4 {i j:Str}:decide (V.str i=V.str j)=(i == j):=by
 rw [Bool.eq_iff_iff]
 simp
theorem MK {i j:Array UInt8}:decide (V.byt i=V.byt j)=(i.toList == j.toList):=by
 rw [Bool.eq_iff_iff]
 cases i
 cases j
 simp
section
variable {X:Cx} {a b c:Expr} {ta tb tc:TE} {pos:Pos}
theorem cX {pins:List (Addr×Obj)} {σ:St} {H:Hp} {s:Shared} {Q:VK} {k k':Bool} (I:Inv X pins σ H s) (q:Q (.bl k) H) (e:k=k'):EP X pins σ Q (.bool k') s:=by
 subst e
 exact⟨.bl k,H,I,rfl,q⟩
theorem dU:uK X (compareOp .Eq) rEq:=by
 intro pins s σ H x y v u Q I rx ry h
 obtain⟨hs,q⟩:=h
 cases x with
 | non=>
  cases rx
  cases y with
  | non=>cases ry;exact PySem.EqNone.eq_none_none (cX I q (by simp))
  | bl j=>cases ry;exact PySem.EqNone.eq_none_bool (cX I q (by simp))
  | int j=>obtain⟨t',rfl⟩:=ry;exact PySem.EqNone.eq_none_int (cX I q (by simp))
  | str j=>obtain⟨t',rfl⟩:=ry;exact PySem.EqNone.eq_none_str (cX I q (by simp))
  | _=>exact absurd (show false=true from hs) Bool.false_ne_true
 | bl i=>
  cases rx
  cases y with
  | non=>cases ry;exact PySem.EqNone.eq_bool_none (cX I q (by simp))
  | bl j=>cases ry;exact eq_bool (cX I q QC)
  | str j=>obtain⟨t',rfl⟩:=ry;exact PySem.EqMixed.eq_bool_str (cX I q (by simp))
  | _=>exact absurd (show false=true from hs) Bool.false_ne_true
 | int i=>
  obtain⟨t,rfl⟩:=rx
  cases y with
  | non=>cases ry;exact PySem.EqNone.eq_int_none (cX I q (by simp))
  | int j=>obtain⟨t',rfl⟩:=ry;exact eq_int (cX I q Nb)
  | str j=>obtain⟨t',rfl⟩:=ry;exact PySem.EqMixed.eq_int_str (cX I q (by simp))
  | _=>exact absurd (show false=true from hs) Bool.false_ne_true
 | str i=>
  obtain⟨t,rfl⟩:=rx
  cases y with
  | non=>cases ry;exact PySem.EqNone.eq_str_none (cX I q (by simp))
  | bl j=>cases ry;exact PySem.EqMixed.eq_str_bool (cX I q (by simp))
  | int j=>obtain⟨t',rfl⟩:=ry;exact PySem.EqMixed.eq_str_int (cX I q (by simp))
  | str j=>obtain⟨t',rfl⟩:=ry;exact eq_str (cX I q M4)
  | _=>exact absurd (show false=true from hs) Bool.false_ne_true
 | byt i=>
  obtain⟨t,rfl⟩:=rx
  cases y with
  | byt j=>obtain⟨t',rfl⟩:=ry;exact PySem.W.eq_bytes (cX I q MK)
  | _=>exact absurd (show false=true from hs) Bool.false_ne_true
 | _=>cases y <;> exact absurd (show false=true from hs) Bool.false_ne_true
theorem JZ:uK X (compareOp .NotEq) rNe:=by
 intro pins s σ H x y v u Q I rx ry h
 obtain⟨hs,q⟩:=h
 cases x with
 | non=>
  cases rx
  cases y with
  | non=>cases ry;exact PySem.EqNone.ne_none_none (cX I q (by simp))
  | bl j=>cases ry;exact PySem.EqNone.ne_none_bool (cX I q (by simp))
  | int j=>obtain⟨t',rfl⟩:=ry;exact PySem.EqNone.ne_none_int (cX I q (by simp))
  | str j=>obtain⟨t',rfl⟩:=ry;exact PySem.EqNone.ne_none_str (cX I q (by simp))
  | _=>exact absurd (show false=true from hs) Bool.false_ne_true
 | bl i=>
  cases rx
  cases y with
  | non=>cases ry;exact PySem.EqNone.ne_bool_none (cX I q (by simp))
  | bl j=>cases ry;exact ne_bool (cX I q (congrArg not QC))
  | str j=>obtain⟨t',rfl⟩:=ry;exact PySem.EqMixed.ne_bool_str (cX I q (by simp))
  | _=>exact absurd (show false=true from hs) Bool.false_ne_true
 | int i=>
  obtain⟨t,rfl⟩:=rx
  cases y with
  | non=>cases ry;exact PySem.EqNone.ne_int_none (cX I q (by simp))
  | int j=>obtain⟨t',rfl⟩:=ry;exact ne_int (cX I q (congrArg not Nb))
  | str j=>obtain⟨t',rfl⟩:=ry;exact PySem.EqMixed.ne_int_str (cX I q (by simp))
  | _=>exact absurd (show false=true from hs) Bool.false_ne_true
 | str i=>
  obtain⟨t,rfl⟩:=rx
  cases y with
  | non=>cases ry;exact PySem.EqNone.ne_str_none (cX I q (by simp))
  | bl j=>cases ry;exact PySem.EqMixed.ne_str_bool (cX I q (by simp))
  | int j=>obtain⟨t',rfl⟩:=ry;exact PySem.EqMixed.ne_str_int (cX I q (by simp))
  | str j=>obtain⟨t',rfl⟩:=ry;exact ne_str (cX I q (congrArg not M4))
  | _=>exact absurd (show false=true from hs) Bool.false_ne_true
 | byt i=>
  obtain⟨t,rfl⟩:=rx
  cases y with
  | byt j=>obtain⟨t',rfl⟩:=ry;exact PySem.W.ne_bytes (cX I q (congrArg not MK))
  | _=>exact absurd (show false=true from hs) Bool.false_ne_true
 | _=>cases y <;> exact absurd (show false=true from hs) Bool.false_ne_true
theorem tK:uK X (compareOp .Lt) (Sg fun i j=>.bl (decide (i <j))):=SX fun _ _ _ _ _ _ _ q=>lt_int q
theorem wL:uK X (compareOp .LtE) (Sg fun i j=>.bl (decide (i<=j))):=SX fun _ _ _ _ _ _ _ q=>le_int q
theorem Gr:uK X (compareOp .Gt) (Sg fun i j=>.bl (decide (j <i))):=SX fun _ _ _ _ _ _ _ q=>gt_int q
theorem YJ:uK X (compareOp .GtE) (Sg fun i j=>.bl (decide (j<=i))):=SX fun _ _ _ _ _ _ _ q=>ge_int q
theorem zH:uK X (compareOp .In) (fun x y H Q=>∃i j,x=.str i/\y=.str j/\Q (.bl (!(Builtin.Str.occurrences j i 0 j.length 1).isEmpty)) H):=by
 intro pins s σ H x y v u Q I rx ry h
 obtain⟨i,j,rfl,rfl,q⟩:=h
 obtain⟨t,rfl⟩:=rx
 obtain⟨t',rfl⟩:=ry
 exact in_str (cX I q rfl)
theorem bC (b:Expr) {op:CmpOp} (h:op≠.In:=by decide) (h2:op≠.NotIn:=by decide):behindInMarks op b=false:=by
 have e1:(op == CmpOp.In)=false:=by cases op <;> first | rfl | exact absurd rfl h
 have e2:(op == CmpOp.NotIn)=false:=by cases op <;> first | rfl | exact absurd rfl h2
 cases b <;> simp [behindInMarks,e1,e2]
theorem vI {op:CmpOp} {r:R2} (ho:uK X (compareOp op) r) (ha:PE X a ta) (hb:PE X b tb) (hm:behindInMarks op b=false):PE X (.Compare a [op] [b] pos) (Yu r ta tb):=by
 intro pins s σ H Q I h
 exact wpAny_Compare1 (Wk ha hb I h fun v u s2 x y H2 I2 rx ry q=>ho pins s2 σ H2 x y v u Q I2 rx ry q) hm
inductive QH (Q:Bool->Hp->Prop) (x:V) (H':Hp):Prop where
 | mk:∀k,x=.bl k->Q k H'->QH Q x H'
noncomputable def Vv (t:TE):TT:=fun σ H Q=>t σ H fun x H'=>QH Q x H'
theorem aW {op:CmpOp} {r:R2} (ho:uK X (compareOp op) r) (ha:PE X a ta) (hb:PE X b tb) (hm:behindInMarks op b=false):PT X (.Compare a [op] [b] pos) (Vv (Yu r ta tb)):=by
 intro pins s σ H Q I h
 refine wpAny_isTrue_Compare1 (dJ (ha pins s σ H _ I h) fun v s1 ⟨x,H1,I1,r1,q1⟩=>dJ (hb pins s1 σ H1 _ I1 q1) fun u s2 ⟨y,H2,I2,r2,q2⟩=>
  dJ (ho pins s2 σ H2 x y v u _ I2 r1 r2 q2) fun c s3 ⟨z,H3,I3,r3,k,e,q3⟩=>?_) hm
 subst e
 cases r3
 exact wpAny_truthy_bool ⟨H3,I3,q3⟩
inductive MN (r':R2) (tc:TE) (σ:St) (Q:VK) (y:V) (z:V) (H3:Hp):Prop where
 | mk:∀k,z=.bl k->((if k=true then tc σ H3 fun w' H4=>r' y w' H4 Q else Q (.bl false) H3))->MN r' tc σ Q y z H3
noncomputable def Qz (r r':R2) (ta tb tc:TE):TE:=fun σ H Q=>ta σ H fun x H1=>tb σ H1 fun y H2=>r x y H2 fun z H3=>MN r' tc σ Q y z H3
theorem Rx {op op':CmpOp} {r r':R2} (ho:uK X (compareOp op) r) (ho':uK X (compareOp op') r') (ha:PE X a ta) (hb:PE X b tb) (hc:PE X c tc)
  (hm:lastMarks [op,op'] [b,c]=false:=by with_unfolding_all rfl):PE X (.Compare a [op,op'] [b,c] pos) (Qz r r' ta tb tc):=by
 intro pins s σ H Q I h
 refine Compare_chain (dJ (ha pins s σ H _ I h) fun v s1 ⟨x,H1,I1,r1,q1⟩=>chain_link (dJ (hb pins s1 σ H1 _ I1 q1) fun u s2 ⟨y,H2,I2,r2,q2⟩=>
  dJ (ho pins s2 σ H2 x y v u _ I2 r1 r2 q2) fun d s3 ⟨z,H3,I3,r3,k,e,q3⟩=>?_)) hm
 subst e
 cases r3
 refine wpAny_truthy_bool ?_
 cases k with
 | false=>exact ite_ff ⟨.bl false,H3,I3,rfl,q3⟩
 | true=>exact ite_tt (chain_last (dJ (hc pins s3 σ H3 _ I3 q3) fun w' s4 ⟨z',H4,I4,r4,q4⟩=>ho' pins s4 σ H4 y z' u w' Q I4 r2 r4 q4))
theorem yV {op op':CmpOp} {r r':R2} (ho:uK X (compareOp op) r) (ho':uK X (compareOp op') r') (ha:PE X a ta) (hb:PE X b tb) (hc:PE X c tc)
  (hm:lastMarks [op,op'] [b,c]=false:=by with_unfolding_all rfl):PT X (.Compare a [op,op'] [b,c] pos) (Vv (Qz r r' ta tb tc)):=by
 intro pins s σ H Q I h
 refine isTrue_chain (dJ (ha pins s σ H _ I h) fun v s1 ⟨x,H1,I1,r1,q1⟩=>test_link (dJ (hb pins s1 σ H1 _ I1 q1) fun u s2 ⟨y,H2,I2,r2,q2⟩=>
  dJ (ho pins s2 σ H2 x y v u _ I2 r1 r2 q2) fun d s3 ⟨z,H3,I3,r3,k,e,q3⟩=>?_)) hm
 subst e
 cases r3
 refine wpAny_truthy_bool ?_
 cases k with
 | false=>
  obtain⟨k',e',q'⟩:=q3
  cases e'
  exact ite_ff ⟨H3,I3,q'⟩
 | true=>
  refine ite_tt (test_last (dJ (hc pins s3 σ H3 _ I3 q3) fun w' s4 ⟨z',H4,I4,r4,q4⟩=>dJ (ho' pins s4 σ H4 y z' u w' _ I4 r2 r4 q4) fun d' s5 hpt=>?_))
  obtain⟨z2,H5,I5,r5,k2,e2,q5⟩:=hpt
  subst e2
  cases r5
  exact wpAny_truthy_bool ⟨H5,I5,q5⟩
theorem zx:(sizeLine:Nat) <2 ^ 63:=by rw [sizeLine_eq];decide
theorem xM:uK X (binaryOp .Add) (fun x y H Q=>∃i j,x=.str i/\y=.str j/\i.length+j.length<=sizeLine/\Q (.str (i ++ j)) H):=by
 intro pins s σ H x y v u Q I rx ry h
 obtain⟨i,j,rfl,rfl,hz,q⟩:=h
 obtain⟨t,rfl⟩:=rx
 obtain⟨t',rfl⟩:=ry
 exact add_str (fun t' tk=>⟨.str (i ++ j),H,I.tok _,⟨_,rfl⟩,q⟩) hz
theorem vals1 {x:V} {us:List Value} (r:Vals [x] us):∃u,us=[u]/\RelV x u:=by
 cases r with
 | cons r1 r2=>cases r2;exact⟨_,rfl,r1⟩
theorem vals2 {x y:V} {us:List Value} (r:Vals [x,y] us):∃u w',us=[u,w']/\RelV x u/\RelV y w':=by
 cases r with
 | cons r1 r2=>
  cases r2 with
  | cons r3 r4=>cases r4;exact⟨_,_,rfl,r1,r3⟩
theorem vp (hc:X.calm=true):mG X (.builtin "max") (fun xs H Q=>∃i j,xs=[.int i,.int j]/\Q (.int (if j >i then j else i)) H):=by
 intro pins s σ H xs us Q I r h
 obtain⟨i,j,rfl,q⟩:=h
 obtain⟨u,w',rfl,⟨t,rfl⟩,⟨t',rfl⟩⟩:=vals2 r
 refine max_two_ints (I.ok.hd hc) fun h' tk k=>⟨_,H,I.kept k,?_,q⟩
 by_cases hj:j >i
 ·rw [if_pos hj,if_pos hj];exact⟨_,rfl⟩
 ·rw [if_neg hj,if_neg hj];exact⟨_,rfl⟩
theorem Pb (hc:X.calm=true):mG X (.builtin "min") (fun xs H Q=>∃i j,xs=[.int i,.int j]/\Q (.int (if j <i then j else i)) H):=by
 intro pins s σ H xs us Q I r h
 obtain⟨i,j,rfl,q⟩:=h
 obtain⟨u,w',rfl,⟨t,rfl⟩,⟨t',rfl⟩⟩:=vals2 r
 refine min_two_ints (I.ok.hd hc) fun h' tk k=>⟨_,H,I.kept k,?_,q⟩
 by_cases hj:j <i
 ·rw [if_pos hj,if_pos hj];exact⟨_,rfl⟩
 ·rw [if_neg hj,if_neg hj];exact⟨_,rfl⟩
theorem Oi:mG X (.type "int") (fun xs H Q=>(∃i,xs=[.int i]/\Q (.int i) H)∨∃k,xs=[.bl k]/\Q (.int (if k then 1 else 0)) H):=by
 intro pins s σ H xs us Q I r h
 rcases h with ⟨i,rfl,q⟩ | ⟨k,rfl,q⟩
 ·obtain⟨u,rfl,t,rfl⟩:=vals1 r
  exact call_int_int ⟨.int i,H,I,⟨_,rfl⟩,q⟩
 ·obtain⟨u,rfl,r1⟩:=vals1 r
  cases r1
  exact call_int_bool ⟨.int (if k then 1 else 0),H,I.tok _,⟨_,rfl⟩,q⟩
theorem IW:mG X (.type "str") (fun xs H Q=>∃i,xs=[.int i]/\i.natAbs.log2 <1920/\Q (.str (toString i)) H):=by
 intro pins s σ H xs us Q I r h
 obtain⟨i,rfl,hz,q⟩:=h
 obtain⟨u,rfl,t,rfl⟩:=vals1 r
 exact PySem.P.str_of_int hz ⟨.str _,H,I.tok _,⟨_,rfl⟩,q⟩
noncomputable def Xk (K:PySem.W.Frag) (x:V) (H:Hp) (n:Nat):Prop:=
 match x with
 | .str y=>y.length<=sizeLine/\n=y.length
 | .byt y=>y.size<=sizeLine/\n=y.size
 | .ref p=>(∃xs,bI K H p xs/\n=xs.length)∨∃xs,eQ K H p xs/\n=xs.length
 | _=>False
theorem bN:mG X (.builtin "len") (fun xs H Q=>∃x n,xs=[x]/\Xk X.K x H n/\Q (.int n) H):=by
 intro pins s σ H xs us Q I r h
 obtain⟨x,n,rfl,e,q⟩:=h
 obtain⟨u,rfl,rx⟩:=vals1 r
 have hl:=zx
 have hs:sizeLine=16777216:=sizeLine_eq
 cases x with
 | str y=>
  obtain⟨t,rfl⟩:=rx
  obtain⟨hy,e'⟩:y.length<=sizeLine/\n=y.length:=e
  subst e'
  exact len_str (by omega) ⟨.int _,H,I.tok _,⟨_,rfl⟩,q⟩
 | byt y=>
  obtain⟨t,rfl⟩:=rx
  obtain⟨hy,e'⟩:y.size<=sizeLine/\n=y.size:=e
  subst e'
  exact PySem.W.len_bytes (by omega) ⟨.int _,H,I.tok _,⟨_,rfl⟩,q⟩
 | ref p=>
  cases rx
  have e':(∃xs,bI X.K H p xs/\n=xs.length)∨∃xs,eQ X.K H p xs/\n=xs.length:=e
  rcases e' with ⟨xs,hx,e'⟩ | ⟨xs,hx,e'⟩
  ·subst e'
   obtain⟨its,r',pl,hz⟩:=I.list hx
   have hlen:=r'.length
   exact Calls.call_len_list pl.isList (by simp only [List.size_toArray];omega) ⟨.int xs.length,H,I.tok _,⟨_,by simp only [List.size_toArray];rw [hlen]⟩,q⟩
  ·subst e'
   obtain⟨its,r',pl,hz⟩:=I.tuple hx
   have hlen:=r'.length
   exact len_tuple pl (by simp only [List.size_toArray];omega) ⟨.int xs.length,H,I.tok _,⟨_,by simp only [List.size_toArray];rw [hlen]⟩,q⟩
 | _=>exact(show False from e).elim
end
structure Mr (h:Heap) (x dx C:Addr) (mA:Str->Option Value):Prop where
 obj:h.get? x=some (PySem.W.instObj C dx)
 ns:h.Ns1 dx mA
 ne:dx≠x
theorem Pk {h:Heap} {dx:Addr} {mA:Str->Option Value} (n:h.Ns1 dx mA):∃od,h.get? dx=some od/\∀name,PySem.W.lookIn name od=some (mA name):=by
 obtain⟨o,es,ep,ho,hd,hk,_,hm⟩:=n
 refine⟨o,ho,fun name=>?_⟩
 have e:=hm name
 unfold nsFind findBy at e
 rw [<-Array.find?_toList] at e
 unfold PySem.W.lookIn
 rw [hd]
 dsimp only
 split
 ·rename_i y q
  rw [q] at e
  exact congrArg some e
 ·rename_i q
  rw [q] at e
  have a:es.toList.any (·.refKey)=false:=by
   rw [List.any_eq_false]
   intro y hy
   obtain⟨z,t,hkey⟩:=hk y (Array.mem_toList_iff.mp hy)
   simp [DictEntry.refKey,hkey]
  have a':¬es.toList.any (·.refKey)=true:=by rw [a];exact Bool.false_ne_true
  rw [if_neg a']
  exact congrArg some e
theorem Mr.look {h:Heap} {x dx C:Addr} {mA:Str->Option Value} (I:Mr h x dx C mA):∃od,PySem.W.InstAt h x (PySem.W.instObj C dx) C (some od)/\∀name,PySem.W.lookIn name od=some (mA name):=
 let ⟨od,ho,hl⟩:=Pk I.ns
 ⟨od,⟨I.obj,rfl,rfl,ho⟩,hl⟩
section
variable {prog:Program} {w:World} {A:Around} {E:Value->Shared->Prop} {s:Shared} {K:PySem.W.Frag} {x dx C f:Addr} {mA:Str->Option Value} {name:Str} {v:Value}
theorem Us {expr:Bool} {Q:Value->Shared->Prop} (X:K.In s.heap) (I:Mr s.heap x dx C mA) (hg:PySem.W.plainGet K C name=true) (hh:PySem.W.hasDictIn K C=true)
  (ha:PySem.W.findIn K (.ref C) name=some none) (hv:mA name=some v) (hv':PySem.W.handedIn v=true) (h:Q v { s with toks:=s.toks+1 }):
  wpAny (model prog w) A (getAttr (.ref x) name expr) Q E s:=by
 obtain⟨od,J,hl⟩:=I.look
 exact PySem.W.get_value X J (PySem.W.plainGet_of hg).1 (PySem.W.findObj_own hh ha rfl (by rw [hl,hv])) hv' h
theorem RB {pl:Sem Bool} {Q:Value×List Value->Shared->Prop} (X:K.In s.heap) (I:Mr s.heap x dx C mA) (hg:PySem.W.plainGet K C name=true)
  (hf:PySem.W.findIn K (.ref C) name=some (some (.ref f))) (ht:PySem.W.isFn K (.ref f)=true) (hv:mA name=none) (h:Q (.ref f,[.ref x]) s):
  wpAny (model prog w) A (getMethod (.ref x) name pl) Q E s:=by
 obtain⟨od,J,hl⟩:=I.look
 exact PySem.W.method_fn X J (PySem.W.plainGet_of hg).1 (PySem.W.plainGet_of hg).2 hf (beq_iff_eq.mp ht) (by show(PySem.W.lookIn name od).map (·.isSome)=some false;rw [hl,hv];rfl) h
theorem Uj {ns:List Str} {Q:Unit->Shared->Prop} (X:K.In s.heap) (I:Mr s.heap x dx C mA)
  (hs:PySem.W.findIn K (.ref C) "__setattr__" =some (some (.builtin "object.__setattr__"))) (hp:PySem.W.plainOver K C=true) (ht:PySem.W.takerIn K C name=some none) (hh:PySem.W.hasDictIn K C=true)
  (hw:PySem.Within mA ns) (hsz:ns.length<=sizeLine)
  (h:∀h',Mr h' x dx C (fun y=>if y=name then some v else mA y)->Heap.SameBut dx s.heap h'->Q () { s with heap:=h',toks:=s.toks+2 }):
  wpAny (model prog w) A (setAttr (.ref x) name v) Q E s:=by
 obtain⟨od,J,hl⟩:=I.look
 refine PySem.W.set_plain X J hs (PySem.W.osa_open (s:={ s with toks:=s.toks+1 }) (r:=none) X J hp ht fun b=>?_)
 obtain⟨cd,hc,hd'⟩:=PySem.W.any_some hh
 have hx:s.heap.get? x=some ⟨.ref C,some dx,.plain,#[]⟩:=I.obj
 refine wpAny_bind (wpAny_pure (wpAny_bind (wpAny_bind (wpAny_loadPart hx (wpAny_bind (PySem.W.Looks.here (s:={ s with toks:=s.toks+1 }) (PySem.W.looks_clsIn X hc) ?_))))))
 rw [hd']
 refine wpAny_pure (a:=some dx) (wpAny_bind (wpAny_pure (wpAny_bind ?_)))
 refine wpAny_nsSet1 (s:={ s with toks:=s.toks+1 }) I.ns fun h' hn2 hs2=>?_
 obtain⟨oD,esD,epD,hoD,hdD,hcD⟩:=hn2.count (PySem.Within.cons name v hw)
 refine wpAny_bind (wpAny_lookBehind hoD (by rw [hdD];exact pastItsLine_dict (Nat.le_trans hcD (by rw [List.length_cons];omega))) ?_)
 exact wpAny_pure (h _ ⟨(hs2.2 _ (Ne.symm I.ne)).trans I.obj,hn2,I.ne⟩ hs2)
theorem RG {R:Result->Shared->Prop} {vs:List Value} {kw:List (Str×Value)} (X:K.In s.heap) (hm:PySem.W.makesIn K C=true)
  (hi:PySem.W.findIn K (.ref C) "__init__" =some (some (.ref f))) (hf:PySem.W.typeIn K (.ref f)=some (.type "function"))
  (h:codeAny (model prog w) (A.under (.builtin "type.__call__" ⟨.ref C:: vs,kw⟩)) (.call (.ref f) ⟨.ref (s.heap.objs.size+1):: vs,kw⟩) (PySem.W.InitBack (s.heap.objs.size+1) R)
   { s with heap:=(s.heap.push PySem.W.emptyDict).push (PySem.W.instObj C s.heap.objs.size) }):
  codeAny (model prog w) A (.call (.ref C) ⟨vs,kw⟩) R s:=by
 obtain⟨hh,g,d,t,os⟩:=s
 exact PySem.W.make_core (PySem.W.makes_of X hm) (PySem.W.looks_findIn X hi) (fun self=>PySem.W.bind_fn X self hf) (.inl rfl) h
end
noncomputable def aJ (f:Str) (v:V):List (Str×V)->List (Str×V)
 | []=>[(f,v)]
 | (g,x):: r=>if g=f then(g,v):: r else(g,x):: aJ f v r
theorem aC (f g:Str) (v:V):∀fs:List (Str×V),(aJ f v fs).lookup g=if g=f then some v else fs.lookup g
 | []=>by
  show List.lookup g [(f,v)]=_
  by_cases h:g=f
  ·have hb:(g == f)=true:=beq_iff_eq.mpr h
   simp only [List.lookup,hb,if_pos h]
  ·have hb:(g == f)=false:=beq_eq_false_iff_ne.mpr h
   simp only [List.lookup,hb,if_neg h]
 | (k,x):: r=>by
  have ih:=aC f g v r
  rw [show aJ f v ((k,x):: r)=(if k=f then(k,v):: r else(k,x):: aJ f v r) from rfl]
  by_cases hk:k=f
  ·rw [if_pos hk]
   by_cases h:g=k
   ·have hb:(g == k)=true:=beq_iff_eq.mpr h
    simp only [List.lookup,hb,if_pos (h.trans hk)]
   ·have hb:(g == k)=false:=beq_eq_false_iff_ne.mpr h
    simp only [List.lookup,hb,if_neg (fun e:g=f=>h (e.trans hk.symm))]
  ·rw [if_neg hk]
   by_cases h:g=k
   ·have hb:(g == k)=true:=beq_iff_eq.mpr h
    simp only [List.lookup,hb,if_neg (fun e:g=f=>hk (h.symm.trans e))]
   ·have hb:(g == k)=false:=beq_eq_false_iff_ne.mpr h
    simp only [List.lookup,hb]
    exact ih
theorem zB (f:Str) (v:V):∀fs:List (Str×V),f∈(aJ f v fs).map (·.1)/\∀g,g∈fs.map (·.1)->g∈(aJ f v fs).map (·.1)
 | []=>⟨by simp [aJ],fun g h=>by simp at h⟩
 | (k,x):: r=>by
  obtain⟨i1,i2⟩:=zB f v r
  rw [show aJ f v ((k,x):: r)=(if k=f then(k,v):: r else(k,x):: aJ f v r) from rfl]
  by_cases hk:k=f
  ·rw [if_pos hk]
   subst hk
   exact⟨by simp,fun g h=>by simpa using h⟩
  ·rw [if_neg hk]
   refine⟨?_,fun g h=>?_⟩
   ·rw [List.map_cons]
    exact List.mem_cons_of_mem _ i1
   ·rw [List.map_cons] at h ⊢
    rcases List.mem_cons.mp h with e | e
    ·exact List.mem_cons.mpr (.inl e)
    ·exact List.mem_cons_of_mem _ (i2 g e)
theorem uq (f:Str) (v:V):∀fs:List (Str×V),(aJ f v fs).length<=fs.length+1
 | []=>by simp [aJ]
 | (k,x):: r=>by
  have ih:=uq f v r
  rw [show aJ f v ((k,x):: r)=(if k=f then(k,v):: r else(k,x):: aJ f v r) from rfl]
  by_cases hk:k=f
  ·rw [if_pos hk,List.length_cons,List.length_cons];omega
  ·rw [if_neg hk,List.length_cons,List.length_cons];omega
theorem tR.some_of {v:V} {o:Option Value} (r:tR (some v) o):∃u,o=some u/\RelV v u:=by
 cases o with
 | none=>exact(show False from r).elim
 | some u=>exact⟨u,rfl,r⟩
theorem tR.none_of {o:Option Value} (r:tR none o):o=none:=by
 cases o with
 | none=>rfl
 | some u=>exact(show False from r).elim
theorem Pg {v:V} {u:Value} (r:RelV v u):PySem.W.handedIn u=true:=by
 cases v with
 | non=>cases (show u=Value.none from r);rfl
 | bl b=>cases (show u=Value.bool b from r);rfl
 | int i=>obtain⟨t,e⟩:=(show ∃t,u=Value.int i t from r);cases e;rfl
 | str x=>obtain⟨t,e⟩:=(show ∃t,u=Value.str x t from r);cases e;rfl
 | byt b=>obtain⟨t,e⟩:=(show ∃t,u=Value.bytes b t from r);cases e;rfl
 | flt b=>obtain⟨t,e⟩:=(show ∃t,u=Value.float b t from r);cases e;rfl
 | ref a=>cases (show u=Value.ref a from r);rfl
 | ty n=>cases (show u=Value.type n from r);rfl
section
variable {P:Program} {w:World} {H H':Hp} {h h':Heap} {a C dx:Addr} {fs fs':List (Str×V)}
theorem Jg (hok:vf P w H h) (e:H a=some (.ins C dx fs)):∃mA,Mr h a dx C mA/\(∀f,tR (fs.lookup f) (mA f))/\PySem.Within mA (fs.map (·.1))/\fs.length<=1000/\H dx=some (.own a):=by
 obtain⟨d,z,ne,ob,mA,n,r,q⟩:=(show fY P w H h a (.ins C dx fs) from hok a _ e)
 exact⟨mA,⟨ob,n,ne⟩,r,q,z,d⟩
end
structure Oz (K:PySem.W.Frag) (C:Addr):Prop where
 pg:PySem.W.plainGet K C Str.empty=true
 hd:PySem.W.hasDictIn K C=true
 po:PySem.W.plainOver K C=true
 sa:PySem.W.findIn K (.ref C) "__setattr__" =some (some (.builtin "object.__setattr__"))
theorem Oz.get {K:PySem.W.Frag} {C:Addr} (c:Oz K C) (f:Str):PySem.W.plainGet K C f=true:=c.pg
noncomputable def oZ (K:PySem.W.Frag) (C:Addr) (f:Str):Prop:=PySem.W.findIn K (.ref C) f=some none
theorem oZ.taker {K:PySem.W.Frag} {C:Addr} {f:Str} (n:oZ K C f):PySem.W.takerIn K C f=some none:=by
 unfold PySem.W.takerIn
 rw [show PySem.W.findIn K (.ref C) f=some none from n]
 rfl
structure Meth (K:PySem.W.Frag) (C:Addr) (m:Str) (f:Addr):Prop where
 at_:PySem.W.findIn K (.ref C) m=some (some (.ref f))
 fn:PySem.W.isFn K (.ref f)=true
 kp:PySem.W.keepIn K (.ref f)=true
section
variable {X:Cx} {pins:List (Addr×Obj)} {σ:St} {H:Hp} {s:Shared} {a C dx:Addr} {fs:List (Str×V)} {f:Str} {v:V} {A:Around} {E:Value->Shared->Prop}
theorem Cw {b:Bool} {Q:Value->Shared->Prop} (I:Inv X pins σ H s) (e:H a=some (.ins C dx fs)) (c:Oz X.K C) (n:oZ X.K C f) (l:fs.lookup f=some v)
  (h:∀u s',Inv X pins σ H s'->RelV v u->Q u s'):wpAny (model X.prog X.w) A (getAttr (.ref a) f b) Q E s:=by
 obtain⟨mA,O,r,_,_,_⟩:=Jg I.hok e
 obtain⟨u,hu,ru⟩:=tR.some_of (v:=v) (o:=mA f) (by rw [<-l];exact r f)
 exact Us I.kIn O (c.get f) c.hd n hu (Pg ru) (h u _ (I.tok _) ru)
theorem sX {m:Str} {g:Addr} {pl:Sem Bool} {Q:Value×List Value->Shared->Prop} (I:Inv X pins σ H s) (e:H a=some (.ins C dx fs)) (c:Oz X.K C) (k:Meth X.K C m g) (l:fs.lookup m=none)
  (h:Q (.ref g,[.ref a]) s):wpAny (model X.prog X.w) A (getMethod (.ref a) m pl) Q E s:=by
 obtain⟨mA,O,r,_,_,_⟩:=Jg I.hok e
 have hn:mA m=none:=tR.none_of (by rw [<-l];exact r m)
 exact RB I.kIn O (c.get m) k.at_ k.fn hn h
theorem Ep {y:V} {u:Value} {Q:Unit->Shared->Prop} (I:Inv X pins σ H s) (e:H a=some (.ins C dx fs)) (c:Oz X.K C) (n:oZ X.K C f) (hl:fs.length <1000) (ry:RelV y u)
  (h:∀s',Inv X pins σ (upd H a (.ins C dx (aJ f y fs))) s'->Q () s'):wpAny (model X.prog X.w) A (setAttr (.ref a) f u) Q E s:=by
 obtain⟨mA,O,r,wi,_,ho⟩:=Jg I.hok e
 have hz:(fs.map (·.1)).length<=sizeLine:=by rw [List.length_map,sizeLine_eq];omega
 refine Uj I.kIn O c.sa c.po n.taker c.hd wi hz fun h' O' sb=>h _ ?_
 have hd:∃o,h'.get? dx=some o:=let ⟨o,_,_,e',_⟩:=O'.ns;⟨o,e'⟩
 refine I.write (x:=a) (e:=dx) (by rw [e];exact True.intro) (.inr ho) (fun b q hb z=>(sb.2 b hb).trans z) hd ?_
 refine⟨by rw [aH O.ne];exact ho,?_,O.ne,O'.obj,_,O'.ns,fun g=>?_,fun g hg=>?_⟩
 ·have:=uq f y fs;omega
 ·show tR ((aJ f y fs).lookup g) (if g=f then some u else mA g)
  rw [aC]
  by_cases q:g=f
  ·rw [if_pos q,if_pos q];exact ry
  ·rw [if_neg q,if_neg q];exact r g
 ·by_cases q:g=f
  ·rw [q];exact(zB f y fs).1
  ·refine(zB f y fs).2 g (wi g fun z=>hg ?_)
   show(if g=f then some u else mA g)=none
   rw [if_neg q];exact z
theorem Inv.made (I:Inv X pins σ H s):Inv X pins σ (upd (upd H s.heap.objs.size (.own (s.heap.objs.size+1))) (s.heap.objs.size+1) (.ins C s.heap.objs.size []))
  { s with heap:=(s.heap.push PySem.W.emptyDict).push (PySem.W.instObj C s.heap.objs.size) }:=by
 have e1:(s.heap.push PySem.W.emptyDict).get? s.heap.objs.size=some PySem.W.emptyDict:=Heap.get?_push_size s.heap rfl
 have e2:((s.heap.push PySem.W.emptyDict).push (PySem.W.instObj C s.heap.objs.size)).get? (s.heap.objs.size+1)=some (PySem.W.instObj C s.heap.objs.size):=by
  have:=Heap.get?_push_size (s.heap.push PySem.W.emptyDict) (o:=PySem.W.instObj C s.heap.objs.size) rfl
  rwa [Heap.size_push] at this
 have e3:(s.heap.push PySem.W.emptyDict).Ns s.heap.objs.size (fun _=>none):=⟨PySem.W.emptyDict,#[],_,e1,rfl,(fun e he=>absurd he (by simp)),fun _=>rfl⟩
 have I1:=I.laid (a:=s.heap.objs.size) (o:=.own (s.heap.objs.size+1)) (h':=s.heap.push PySem.W.emptyDict) (t':=s.toks) (fun b u q=>Heap.get?_push_of_some _ q) (Nat.le_refl _) ⟨_,e1⟩
 refine I1.laid (a:=s.heap.objs.size+1) (o:=.ins C s.heap.objs.size []) (t':=s.toks) (fun b u q=>Heap.get?_push_of_some _ q) (Nat.le_of_eq (Heap.size_push _ _)) ?_
 have ne:s.heap.objs.size≠s.heap.objs.size+1:=Nat.ne_of_lt (Nat.lt_succ_self _)
 refine⟨by rw [aH ne,az],Nat.zero_le _,ne,e2,fun _=>none,(Heap.Ns1.of_empty e3).at fun o q=>Heap.get?_push_of_some _ q,fun _=>True.intro,fun y hy=>absurd rfl hy⟩
theorem Tn {prog:Program} {w:World} {env:Env} {e:Expr} {f:Str} {pos:Pos} {s:Shared} {Q:Value->Shared->Prop} (hb:attributeBase e f env (eval e env)=eval e env)
  (h:wpAny (model prog w) A (eval e env) (fun o s₁=>wpAny (model prog w) A (getAttr o f true) Q E s₁) E s):wpAny (model prog w) A (eval (.Attribute e f pos) env) Q E s:=
 Attribute_any_ h (by rw [arm_eval_Attribute,hb])
end
inductive UT (K:PySem.W.Frag) (f:Str) (Q:VK) (x:V) (H1:Hp):Prop where
 | mk:∀a C dx fs v,x=.ref a->H1 a=some (.ins C dx fs)->Oz K C->oZ K C f->fs.lookup f=some v->Q v H1->UT K f Q x H1
noncomputable def XS (K:PySem.W.Frag) (ta:TE) (f:Str):TE:=fun σ H Q=>ta σ H fun x H1=>UT K f Q x H1
inductive Vh (K:PySem.W.Frag) (f:Str) (D:Ends) (σ:St) (y:V) (x:V) (H2:Hp):Prop where
 | mk:∀a C dx fs,x=.ref a->H2 a=some (.ins C dx fs)->Oz K C->oZ K C f->fs.length <1000->D.nx σ (upd H2 a (.ins C dx (aJ f y fs)))->Vh K f D σ y x H2
noncomputable def ZS (K:PySem.W.Frag) (ta tv:TE) (f:Str):TS:=fun D σ H=>tv σ H fun y H1=>ta σ H1 fun x H2=>Vh K f D σ y x H2
noncomputable def Yd (X:Cx) (op:Operator) (rd:V->V->Hp->VK->Prop):Prop:=
 ∀(pins:List (Addr×Obj)) (s:Shared) (σ:St) (H:Hp) (x y:V) (u v:Value) (Q:VK),Inv X pins σ H s->RelV x u->RelV y v->rd x y H Q->wpAny (model X.prog X.w) X.A (inplaceOp op u v) (EP X pins σ Q) X.xe s
inductive Ky (K:PySem.W.Frag) (tv:TE) (rd:V->V->Hp->VK->Prop) (f:Str) (D:Ends) (σ:St) (x:V) (H1:Hp):Prop where
 | mk:∀a C dx fs v,x=.ref a->H1 a=some (.ins C dx fs)->Oz K C->oZ K C f->fs.lookup f=some v->(tv σ H1 fun y H2=>rd v y H2 fun z H3=>∃dx' fs',H3 a=some (.ins C dx' fs')/\fs'.length <1000/\D.nx σ (upd H3 a (.ins C dx' (aJ f z fs'))))->Ky K tv rd f D σ x H1
noncomputable def Tg (K:PySem.W.Frag) (ta tv:TE) (rd:V->V->Hp->VK->Prop) (f:Str):TS:=fun D σ H=>ta σ H fun x H1=>Ky K tv rd f D σ x H1
section
variable {X:Cx} {o e value:Expr} {f:Str} {pos pos' tpos:Pos} {ta tv:TE}
theorem bh (he:PE X e ta) (hb:attributeBase e f X.env (eval e X.env)=eval e X.env):PE X (.Attribute e f pos) (XS X.K ta f):=by
 intro pins s σ H Q I h
 refine Tn hb (dJ (he pins s σ H _ I h) fun u s1 hpt=>?_)
 obtain⟨x,H1,I1,rx,a,C,dx,fs,v,ex,ea,c,n,l,q⟩:=hpt
 subst ex
 obtain rfl:u=Value.ref a:=rx
 exact Cw I1 ea c n l fun u' s2 I2 ru=>⟨v,H1,I2,ru,q⟩
theorem ik (ha:PE X o ta) (hv:PE X value tv) (hs:swapsWith value (some (.Attribute o f pos')) pos.line X.env=pure false):PS X (.Assign [.Attribute o f pos'] value pos) (ZS X.K ta tv f):=by
 intro pins s σ H D I h
 refine plainObj_wpAny_Assign_Attribute (dJ (hv pins s σ H _ I h) fun u s1 ⟨y,H1,I1,ry,q⟩=>dJ (ha pins s1 σ H1 _ I1 q) fun ov s2 hpt=>?_) hs
 obtain⟨x,H2,I2,rx,a,C,dx,fs,ex,ea,c,n,l,q2⟩:=hpt
 subst ex
 obtain rfl:ov=Value.ref a:=rx
 exact Ep I2 ea c n l ry fun s3 I3=>⟨σ,_,I3,q2⟩
theorem Ol {op:Operator} {rd:V->V->Hp->VK->Prop} (ha:PE X o ta) (hv:PE X value tv) (hop:Yd X op rd):PS X (.AugAssign (.Attribute o f tpos) op value pos) (Tg X.K ta tv rd f):=by
 intro pins s σ H D I h
 refine wpAny_AugAssign_AttributeAny (dJ (ha pins s σ H _ I h) fun ov s1 hpt=>?_)
 obtain⟨x,H1,I1,rx,a,C,dx,fs,v,ex,ea,c,n,l,q⟩:=hpt
 subst ex
 obtain rfl:ov=Value.ref a:=rx
 refine Cw I1 ea c n l fun u s2 I2 ru=>dJ (hv pins s2 σ H1 _ I2 q) fun w3 s3 ⟨y,H2,I3,ry,q3⟩=>dJ (hop pins s3 σ H2 v y u w3 _ I3 ru ry q3) fun w4 s4 hpt=>?_
 obtain⟨z,H3,I4,rz,dx',fs',ea',l',q4⟩:=hpt
 exact Ep I4 ea' c n l' rz fun s5 I5=>⟨σ,_,I5,q4⟩
end
section
variable {X:Cx} {pins:List (Addr×Obj)} {σ:St} {H:Hp} {s:Shared} {A:Around} {E:Value->Shared->Prop} {Q:Value->Shared->Prop} {c:Value} {b:Bool}
end
structure jq (k:Nat) (A:Around):Prop where
 hd:A.handled=none
 dp:A.depth+3 * k+5 <recursionLimit
 un:A.units+16 * k+200 <cLine
theorem jq.mono {j k:Nat} {A:Around} (r:jq k A) (h:j<=k):jq j A:=⟨r.hd,by have:=r.dp;omega,by have:=r.un;omega⟩
theorem jq.deeper {k:Nat} {A:Around} (r:jq (k+1) A) (env:Env):jq k (A.deeper env):=
 ⟨r.hd,by have:=r.dp;show A.depth+1+3 * k+5 <_;omega,by have:=r.un;show A.units+3+16 * k+200 <_;omega⟩
theorem Mu {A:Around} {C:Addr} {us:List Value} {kw:List (Str×Value)}:(A.under (.builtin "type.__call__" ⟨.ref C:: us,kw⟩)).depth=A.depth+1:=by
 first | rfl | simp [Around.under,Code.weight,Code.isCreation,Code.isGuard,Code.isCaller,Code.frames,Code.isFrame,guardIds]
theorem Lb {A:Around} {C:Addr} {us:List Value} {kw:List (Str×Value)}:(A.under (.builtin "type.__call__" ⟨.ref C:: us,kw⟩)).units=A.units+1:=by
 first | rfl | simp [Around.under,Code.cUnits,Code.frames,Code.isFrame]
theorem jq.make {k:Nat} {A:Around} (r:jq (k+1) A) (C:Addr) (us:List Value) (kw:List (Str×Value)):jq k (A.under (.builtin "type.__call__" ⟨.ref C:: us,kw⟩)):=
 ⟨r.hd,by have:=r.dp;rw [Mu];omega,by have:=r.un;rw [Lb];omega⟩
theorem jq.depth {k:Nat} {A:Around} (r:jq k A):A.depth <recursionLimit:=by have:=r.dp;omega
theorem jq.units {k:Nat} {A:Around} (r:jq k A):A.units+64 <cLine:=by have:=r.un;omega
noncomputable def Rz:TA:=fun _ H Q=>Q [] H
noncomputable def Yw (ta:TE) (tr:TA):TA:=fun σ H Q=>ta σ H fun x H1=>tr σ H1 fun xs H2=>Q (x:: xs) H2
section
variable {X:Cx} {e:Expr} {es:List Expr} {te:TE} {t:TA} {pos:Pos}
theorem ak:PA X [] Rz:=fun _ _ _ _ H Q I h=>Calls.spliced_nil ⟨[],H,I,.nil,h⟩
theorem aa (ha:PE X e te) (hr:PA X es t) (hs:starEach (e:: es) X.env=(false,eval e X.env):: starEach es X.env:=by rfl):PA X (e:: es) (Yw te t):=by
 intro pos pins s σ H Q I h
 rw [hs]
 show wpAny _ _ (spliced ((false,eval e X.env):: backTo pos (starEach es X.env))) _ _ s
 refine Calls.spliced_cons (dJ (ha pins s σ H _ I h) fun u s1 hpt=>?_)
 obtain⟨x,H1,I1,r1,q1⟩:=hpt
 exact dJ (hr pos pins s1 σ H1 _ I1 q1) fun us s2 ⟨xs,H2,I2,r2,q2⟩=>⟨x:: xs,H2,I2,.cons r1 r2,q2⟩
noncomputable def Zf (t:TA):TE:=fun σ H Q=>t σ H fun xs H1=>xs.length<=sizeLine/\∀p,H1 p=none->Q (.ref p) (upd H1 p (.tup xs))
noncomputable def Zc (t:TA):TE:=fun σ H Q=>t σ H fun xs H1=>xs.length<=sizeLine/\∀p,H1 p=none->Q (.ref p) (upd H1 p (.lst xs))
theorem bU {x1} (h:PA X es t):PE X (.Tuple es x1 pos) (Zf t):=by
 intro pins s σ H Q I hq
 refine wpAny_Tuple_spliced (dJ (h pos pins s σ H _ I hq) fun us s1 ⟨xs,H1,I1,r,z,q⟩=>⟨by rw [<-r.length];exact z,?_⟩)
 have hf:H1 s1.heap.objs.size=none:=I1.hok.fresh (Nat.le_refl _)
 refine⟨.ref s1.heap.objs.size,upd H1 s1.heap.objs.size (.tup xs),I1.laid (t':=s1.toks) (fun b u e=>Heap.get?_push_of_some _ e) (Nat.le_refl _) ?_,rfl,q _ hf⟩
 exact⟨z,us,r,⟨_,Heap.get?_push_size _ rfl,rfl,_,rfl⟩⟩
theorem bw (h:PA X es t):PE X (.List es pos) (Zc t):=by
 intro pins s σ H Q I hq
 refine wpAny_List_spliced (dJ (h pos pins s σ H _ I hq) fun us s1 ⟨xs,H1,I1,r,z,q⟩=>⟨by rw [<-r.length];exact z,?_⟩)
 have hf:H1 s1.heap.objs.size=none:=I1.hok.fresh (Nat.le_refl _)
 refine⟨.ref s1.heap.objs.size,upd H1 s1.heap.objs.size (.lst xs),I1.laid (t':=s1.toks) (fun b u e=>Heap.get?_push_of_some _ e) (Nat.le_refl _) ?_,rfl,q _ hf⟩
 exact⟨z,us,0,r,Heap.get?_push_size _ rfl⟩
end
noncomputable abbrev Sp:=List V->Hp->VK->XK->Prop
noncomputable abbrev FQ:=List Env->Hp->Shared->XK->Value->Shared->Prop
structure Mm (P:Program) (w:World) (K:PySem.W.Frag) (mg:Str->Option Value) (base:Heap) (A:Around) (outer:List Env) (s:Shared) (H:Hp):Prop where
 frames:A.frames=some outer
 mod:Mod K mg base
 bs:∀b o,base.get? b=some o->s.heap.get? b=some o/\H b=none
 bsz:base.objs.size<=s.heap.objs.size
 funs:s.heap.FunFrames base outer
 frf:∀b∈frs outer,H b=none
 hok:vf P w H s.heap
 bare:AllBare s.gens
noncomputable def CE (outer:List Env) (P:Program) (w:World) (H:Hp) (s:Shared) (Q:VK) (u:Value) (s':Shared):Prop:=
 ∃v H',s'.os=s.os/\AllBare s'.gens/\Un (frs outer) [] H H' s.heap s'.heap/\vf P w H' s'.heap/\RelV v u/\Q v H'
noncomputable def CR (CX:FQ) (outer:List Env) (P:Program) (w:World) (H:Hp) (s:Shared) (Q:VK) (E:XK) (r:Result) (s':Shared):Prop:=
 match r with
 | .ok (.ret u)=>CE outer P w H s Q u s'
 | .ok _=>False
 | .error e=>CX outer H s E e s'
structure iM (P:Program) (w:World) (K:PySem.W.Frag) (mg:Str->Option Value) (base:Heap) (CX:FQ) (k:Nat) (f:Addr) (fd:FuncData) (ps:List Str) (sp:Sp):Prop where
 len:∀vs H Q E,sp vs H Q E->vs.length=ps.length
 run:∀(A:Around) (outer:List Env) (s:Shared) (H:Hp) (args:Args) (us:List Value) (vs:List V) (Q:VK) (E:XK),jq k A->Mm P w K mg base A outer s H->BindsTo s fd args (ps.zip us)->Vals vs us->sp vs H Q E->
  codeAny (model P w) A (.call (.ref f) args) (CR CX outer P w H s Q E) s
theorem iM.mono {P:Program} {w:World} {K:PySem.W.Frag} {mg:Str->Option Value} {base:Heap} {CX:FQ} {j k:Nat} {f:Addr} {fd:FuncData} {ps:List Str} {sp:Sp} (F:iM P w K mg base CX j f fd ps sp) (h:j<=k):
  iM P w K mg base CX k f fd ps sp:=⟨F.len,fun A outer s H args us vs Q E hr=>F.run A outer s H args us vs Q E (hr.mono h)⟩
theorem iM.imp {P:Program} {w:World} {K:PySem.W.Frag} {mg:Str->Option Value} {base:Heap} {CX:FQ} {k:Nat} {f:Addr} {fd:FuncData} {ps:List Str} {sp sp':Sp} (F:iM P w K mg base CX k f fd ps sp)
  (h:∀vs H Q E,sp' vs H Q E->sp vs H Q E):iM P w K mg base CX k f fd ps sp':=
 ⟨fun vs H Q E q=>F.len vs H Q E (h _ _ _ _ q),fun A outer s H args us vs Q E hr he hb hv hs=>F.run A outer s H args us vs Q E hr he hb hv (h _ _ _ _ hs)⟩
theorem Mm.make {P:Program} {w:World} {K:PySem.W.Frag} {mg:Str->Option Value} {base:Heap} {A:Around} {outer:List Env} {s:Shared} {H:Hp} (e:Mm P w K mg base A outer s H) (C:Addr) (us:List Value) (kw:List (Str×Value)):
  Mm P w K mg base (A.under (.builtin "type.__call__" ⟨.ref C:: us,kw⟩)) outer s H:=⟨by first | exact e.frames | (simpa [Around.under,Code.envs,Code.isFrame,pushEnvs] using e.frames),e.mod,e.bs,e.bsz,e.funs,e.frf,e.hok,e.bare⟩
section
variable {X:Cx} {pins:List (Addr×Obj)} {σ:St} {H:Hp} {s s':Shared}
theorem Inv.env0 (I:Inv X pins σ H s):Mm X.prog X.w X.K X.mg X.base X.A X.stack s H:=
 ⟨I.ok.frames,I.ok.mod,I.bs,Nat.le_trans I.ok.bsz I.sz,I.stack,I.stkFree,I.hok,I.bare⟩
theorem Inv.after {Q:VK} {u:Value} (I:Inv X pins σ H s) (h:CE X.stack X.prog X.w H s Q u s'):EP X pins σ Q u s':=by
 obtain⟨v,H',os,bare,un,hok,r,q⟩:=h
 obtain⟨hh,g,d,t,os'⟩:=s'
 obtain rfl:os'=s.os:=os
 exact⟨v,H',I.call (h':=hh) (g':=g) (d':=d) (t':=t) (ch:=[]) un hok bare (fun b z=>absurd z (by simp)),r,q⟩
end
noncomputable def U3 (sp:Sp) (dvs:List V) (E:XK) (t:TA):TE:=fun σ H Q=>t σ H fun vs H1=>sp (vs ++ dvs) H1 Q E
inductive Qp (C:Addr) (m:Str) (sp:Sp) (dvs:List V) (E:XK) (t:TA) (σ:St) (Q:VK) (x:V) (H1:Hp):Prop where
 | mk:∀a dx fs,x=.ref a->H1 a=some (.ins C dx fs)->fs.lookup m=none->(t σ H1 fun vs H2=>sp (x:: (vs ++ dvs)) H2 Q E)->Qp C m sp dvs E t σ Q x H1
noncomputable def Ny (C:Addr) (m:Str) (sp:Sp) (dvs:List V) (E:XK) (ta:TE) (t:TA):TE:=fun σ H Q=>ta σ H fun x H1=>Qp C m sp dvs E t σ Q x H1
noncomputable def XC (C:Addr) (sp:Sp) (dvs:List V) (E:XK) (t:TA):TE:=fun σ H Q=>t σ H fun vs H1=>∀x dx,H1 x=none->H1 dx=none->dx≠x->
 sp (.ref x:: (vs ++ dvs)) (upd (upd H1 dx (.own x)) x (.ins C dx [])) (fun v H2=>v=.non/\Q (.ref x) H2) E
noncomputable def Binds (K:PySem.W.Frag) (fd:FuncData) (ps:List Str) (ds:List Value):Prop:=
 ∀(s:Shared) (us:List Value),K.In s.heap->(us ++ ds).length=ps.length->BindsTo s fd ⟨us,[]⟩ (ps.zip (us ++ ds))
theorem Binds.all {K:PySem.W.Frag} {fd:FuncData} {ps:List Str} (h:∀us:List Value,us.length=ps.length->bindArgs fd ⟨us,[]⟩=pure (ps.zip us)):Binds K fd ps []:=fun s us _ hl=>by
 rw [List.append_nil] at hl ⊢
 exact .of_eq (h us hl)
noncomputable def qW (CX:FQ) (X:Cx) (E:XK):Prop:=∀(pins:List (Addr×Obj)) (σ:St) (H:Hp) (s:Shared) (e:Value) (s':Shared),Inv X pins σ H s->CX X.stack H s E e s'->X.xe e s'
section
variable {X:Cx} {CX:FQ} {k:Nat} {f C:Addr} {fd:FuncData} {ps:List Str} {sp:Sp} {dvs:List V} {ds:List Value} {E:XK} {x m:Str} {p pos apos:Pos} {e o:Expr} {es:List Expr} {ta:TE} {t:TA}
theorem El {pins:List (Addr×Obj)} {σ:St} {H:Hp} {s:Shared} {Q:VK} {us:List Value} {vs:List V} (F:iM X.prog X.w X.K X.mg X.base CX k f fd ps sp) (hr:jq k X.A) (hb:Binds X.K fd ps ds) (hd:Vals dvs ds) (hx:qW CX X E)
  (I:Inv X pins σ H s) (r:Vals vs us) (h:sp (vs ++ dvs) H Q E):wpAny (model X.prog X.w) X.A (call (.ref f) us) (EP X pins σ Q) X.xe s:=by
 have r2:Vals (vs ++ dvs) (us ++ ds):=r.append hd
 have hl:(us ++ ds).length=ps.length:=by rw [<-r2.length];exact F.len _ _ _ _ h
 refine wpAny_call (codeAny_mono (F.run X.A X.stack s H ⟨us,[]⟩ (us ++ ds) (vs ++ dvs) Q E hr I.env0 (hb s us I.kIn hl) r2 h) fun r s' hq=>?_)
 cases r with
 | error e=>exact hx pins σ H s e s' I hq
 | ok fl=>
  cases fl with
  | ret u=>exact I.after hq
  | next=>exact False.elim hq
  | brk=>exact False.elim hq
  | cont=>exact False.elim hq
theorem S9 (F:iM X.prog X.w X.K X.mg X.base CX k f fd ps sp) (hr:jq k X.A) (hg:Gl X x) (hm:X.mg x=some (.ref f)) (hk:PySem.W.keepIn X.K (.ref f)=true) (hb:Binds X.K fd ps ds) (hd:Vals dvs ds) (hx:qW CX X E)
  (ha:PA X (e:: es) t) (hdb:(x == ("__debug__" :Str))=false:=by decide) (he:starEach (e:: es) X.env=(false,eval e X.env):: starEach es X.env:=by rfl) (hpl:(backTo pos (starEach es X.env)).any (·.1)=false:=by rfl):
  PE X (.Call (.Name x p) (e:: es) [] pos) (U3 sp dvs E t):=by
 intro pins s σ H Q I h
 refine wpAny_Call_Name_kw (Hg I hg hm ?_ hdb)
 refine PySem.W.callWith_K (h₀:=X.base) I.ok.mod.kin hk (dJ (ha pos pins s σ H _ I h) fun us s1 ⟨vs,H1,I1,r,q⟩=>⟨I1.kIn,?_⟩) he hpl
 exact El F hr hb hd hx I1 r q
theorem Nv {pl:Sem Bool} (he:PE X o ta) (c:Oz X.K C) (hm:Meth X.K C m f) (F:iM X.prog X.w X.K X.mg X.base CX k f fd ps sp) (hr:jq k X.A) (hb:Binds X.K fd ps ds) (hd:Vals dvs ds) (hx:qW CX X E) (ha:PA X (e:: es) t)
  (hst:starEach (e:: es) X.env=(false,eval e X.env):: starEach es X.env:=by rfl) (hpl:(backTo pos (starEach es X.env)).any (·.1)=false:=by rfl)
  (ht:eval (.Call (.Attribute o m apos) (e:: es) [] pos) X.env=(do
   let ov <-eval o X.env
   standAt apos.atName
   let (f,first) <-holding [ov] (getMethod ov m pl)
   callWith pos f first (backTo pos (starEach (e:: es) X.env)) (backToKw pos (keywordEach [] X.env))):=by rfl):
  PE X (.Call (.Attribute o m apos) (e:: es) [] pos) (Ny C m sp dvs E ta t):=by
 intro pins s σ H Q I h
 refine PySem.W.methodCall_KW (pl:=pl) (dJ (he pins s σ H _ I h) fun u s1 hpt=>?_) ht
 obtain⟨x,H1,I1,rx,a,dx,fs,ex,ea,l,q⟩:=hpt
 subst ex
 obtain rfl:u=Value.ref a:=rx
 refine sX I1 ea c hm l ?_
 refine PySem.W.callWith_K (first:=[.ref a]) (h₀:=X.base) I.ok.mod.kin hm.kp (dJ (ha pos pins s1 σ H1 _ I1 q) fun us s2 ⟨vs,H2,I2,r,q2⟩=>⟨I2.kIn,?_⟩) hst hpl
 exact El (us:=.ref a:: us) (vs:=.ref a:: vs) F hr hb hd hx I2 (.cons rfl r) q2
theorem RJ {pl:Sem Bool} (he:PE X o ta) (c:Oz X.K C) (hm:Meth X.K C m f) (F:iM X.prog X.w X.K X.mg X.base CX k f fd ps sp) (hr:jq k X.A) (hb:Binds X.K fd ps ds) (hd:Vals dvs ds) (hx:qW CX X E)
  (ht:eval (.Call (.Attribute o m apos) [] [] pos) X.env=(do
   let ov <-eval o X.env
   standAt apos.atName
   let (f,first) <-holding [ov] (getMethod ov m pl)
   callWith pos f first (backTo pos (starEach [] X.env)) (backToKw pos (keywordEach [] X.env))):=by rfl):
  PE X (.Call (.Attribute o m apos) [] [] pos) (Ny C m sp dvs E ta Rz):=by
 intro pins s σ H Q I h
 refine PySem.W.methodCall_KW (pl:=pl) (dJ (he pins s σ H _ I h) fun u s1 hpt=>?_) ht
 obtain⟨x,H1,I1,rx,a,dx,fs,ex,ea,l,q⟩:=hpt
 subst ex
 obtain rfl:u=Value.ref a:=rx
 refine sX I1 ea c hm l ?_
 exact PySem.W.callWith_K0 (first:=[.ref a]) I1.kIn hm.kp (El (us:=[.ref a]) (vs:=[.ref a]) F hr hb hd hx I1 (.cons rfl .nil) q)
structure Mk (K:PySem.W.Frag) (C f:Addr):Prop where
 makes:PySem.W.makesIn K C=true
 init:PySem.W.findIn K (.ref C) "__init__" =some (some (.ref f))
 fn:PySem.W.isFn K (.ref f)=true
 kp:PySem.W.keepIn K (.ref C)=true
theorem P0 {pins:List (Addr×Obj)} {σ:St} {H:Hp} {s:Shared} {Q:VK} {us:List Value} {vs:List V} (M:Mk X.K C f) (F:iM X.prog X.w X.K X.mg X.base CX k f fd ps sp) (hr:jq (k+1) X.A) (hb:Binds X.K fd ps ds) (hd:Vals dvs ds)
  (hx:qW CX X E) (I:Inv X pins σ H s) (r:Vals vs us)
  (h:∀x dx,H x=none->H dx=none->dx≠x->sp (.ref x:: (vs ++ dvs)) (upd (upd H dx (.own x)) x (.ins C dx [])) (fun v H2=>v=.non/\Q (.ref x) H2) E):
  wpAny (model X.prog X.w) X.A (call (.ref C) us) (EP X pins σ Q) X.xe s:=by
 have hq:=h (s.heap.objs.size+1) s.heap.objs.size (I.hok.fresh (Nat.le_succ _)) (I.hok.fresh (Nat.le_refl _)) (Nat.ne_of_lt (Nat.lt_succ_self _))
 have I2:=Inv.made (C:=C) I
 have r2:Vals (V.ref (s.heap.objs.size+1):: (vs ++ dvs)) (Value.ref (s.heap.objs.size+1):: (us ++ ds)):=.cons rfl (r.append hd)
 have hl:(Value.ref (s.heap.objs.size+1):: us ++ ds).length=ps.length:=by
  have e:=r2.length
  rw [F.len _ _ _ _ hq] at e
  exact e.symm
 refine wpAny_call (RG (f:=f) I.kIn M.makes M.init (beq_iff_eq.mp M.fn) (codeAny_mono (F.run _ X.stack _ _ ⟨Value.ref (s.heap.objs.size+1):: us,[]⟩ (Value.ref (s.heap.objs.size+1):: (us ++ ds)) _ _ E (hr.make C us [])
  (I2.env0.make C us []) (hb _ (Value.ref (s.heap.objs.size+1):: us) I2.kIn hl) r2 hq) fun r s' hq'=>?_))
 cases r with
 | error e=>exact hx pins σ _ _ e s' I2 hq'
 | ok fl=>
  cases fl with
  | ret u=>
   obtain⟨v,H',I3,rv,ev,q3⟩:=I2.after hq'
   subst ev
   exact⟨rv,⟨V.ref (s.heap.objs.size+1),H',I3,rfl,q3⟩⟩
  | next=>exact False.elim hq'
  | brk=>exact False.elim hq'
  | cont=>exact False.elim hq'
theorem iw (M:Mk X.K C f) (F:iM X.prog X.w X.K X.mg X.base CX k f fd ps sp) (hr:jq (k+1) X.A) (hg:Gl X x) (hm:X.mg x=some (.ref C)) (hb:Binds X.K fd ps ds) (hd:Vals dvs ds) (hx:qW CX X E)
  (ha:PA X (e:: es) t) (hdb:(x == ("__debug__" :Str))=false:=by decide) (he:starEach (e:: es) X.env=(false,eval e X.env):: starEach es X.env:=by rfl) (hpl:(backTo pos (starEach es X.env)).any (·.1)=false:=by rfl):
  PE X (.Call (.Name x p) (e:: es) [] pos) (XC C sp dvs E t):=by
 intro pins s σ H Q I h
 refine wpAny_Call_Name_kw (Hg I hg hm ?_ hdb)
 refine PySem.W.callWith_K (h₀:=X.base) I.ok.mod.kin M.kp (dJ (ha pos pins s σ H _ I h) fun us s1 ⟨vs,H1,I1,r,q⟩=>⟨I1.kIn,?_⟩) he hpl
 exact P0 M F hr hb hd hx I1 r q
end
section
variable {X:Cx} {CX:FQ} {k:Nat} {f C:Addr} {fd:FuncData} {ps ks:List Str} {sp:Sp} {E:XK} {x m:Str} {p pos apos kpos:Pos} {e o:Expr} {es:List Expr} {kws:List Keyword} {te ta:TE} {t tk:TA} {nm:Option Str}
variable {g:List Value->List Value->List Value} {gV:List V->List V->List V}
end
structure fG (N P:List Str) (sc:Scope):Prop where
 kind:sc.kind=.function
 co:sc.isCoroutine=false
 gen:sc.isGenerator=false
 nd:N.Nodup
 pre:N.take P.length=P
 par:∀x∈P,sc.names.lookup x=some .local∨sc.names.lookup x=some .cell
 nofree:∀y∈sc.names,y.2≠.free
theorem GF {kindOf:Str->Option NameKind} {x:Str}:∀{binds:List (Str×Value)} {m:Str->Option Value},(∀v,(x,v)∉binds)->bindL kindOf binds m x=m x
 | [],_,_=>rfl
 | (n,v):: r,m,h=>by
  unfold bindL
  rw [GF fun w hw=>h w (List.mem_cons_of_mem _ hw)]
  split
  ·have:x≠n:=by rintro rfl;exact h v List.mem_cons_self
   simp [this]
  ·rfl
theorem Gy {kindOf:Str->Option NameKind} {x:Str}:∀{binds:List (Str×Value)} {m:Str->Option Value},(∀v,(x,v)∉binds)->bindC kindOf binds m x=m x
 | [],_,_=>rfl
 | (n,v):: r,m,h=>by
  unfold bindC
  rw [Gy fun w hw=>h w (List.mem_cons_of_mem _ hw)]
  split
  ·rfl
  ·have:x≠n:=by rintro rfl;exact h v List.mem_cons_self
   simp [this]
theorem FN {kindOf:Str->Option NameKind} {x:Str} {v:Value}:∀{P:List Str} {vs:List Value} {i:Nat} {m:Str->Option Value},P.Nodup->P[i]?=some x->vs[i]?=some v->kindOf x=some .local->
  bindL kindOf (P.zip vs) m x=some v
 | [],_,_,_,_,h,_,_=>by simp at h
 | _:: _,[],_,_,_,_,h,_=>by simp at h
 | p:: P,w:: vs,0,m,nd,h1,h2,hk=>by
  simp at h1 h2;subst h1;subst h2
  show bindL kindOf ((p,w):: P.zip vs) m p=_
  unfold bindL
  rw [GF fun v hv=>(List.nodup_cons.mp nd).1 (List.of_mem_zip hv).1,if_pos hk]
  simp
 | p:: P,w:: vs,i+1,m,nd,h1,h2,hk=>by
  show bindL kindOf ((p,w):: P.zip vs) m x=_
  unfold bindL
  exact FN (i:=i) (List.nodup_cons.mp nd).2 (by simpa using h1) (by simpa using h2) hk
theorem Gi {kindOf:Str->Option NameKind} {x:Str} {v:Value}:∀{P:List Str} {vs:List Value} {i:Nat} {m:Str->Option Value},P.Nodup->P[i]?=some x->vs[i]?=some v->kindOf x≠some .local->
  bindC kindOf (P.zip vs) m x=some v
 | [],_,_,_,_,h,_,_=>by simp at h
 | _:: _,[],_,_,_,_,h,_=>by simp at h
 | p:: P,w:: vs,0,m,nd,h1,h2,hk=>by
  simp at h1 h2;subst h1;subst h2
  show bindC kindOf ((p,w):: P.zip vs) m p=_
  unfold bindC
  rw [Gy fun v hv=>(List.nodup_cons.mp nd).1 (List.of_mem_zip hv).1,if_neg hk]
  simp
 | p:: P,w:: vs,i+1,m,nd,h1,h2,hk=>by
  show bindC kindOf ((p,w):: P.zip vs) m x=_
  unfold bindC
  exact Gi (i:=i) (List.nodup_cons.mp nd).2 (by simpa using h1) (by simpa using h2) hk
noncomputable def start (N:List Str) (vs:List V):St:=vs.map some ++ List.replicate (N.length - vs.length) none
noncomputable def K3 (CX:FQ) (P:Program) (w:World) (K:PySem.W.Frag) (mg:Str->Option Value) (base:Heap) (N:List Str) (qual:Str) (scope:Scope) (f:Addr) (cd:Value) (A:Around) (outer:List Env) (s:Shared) (H:Hp) (E:XK):Cx where
 prog:=P
 w:=w
 K:=K
 mg:=mg
 base:=base
 A:=A.deeper (envOfC qual scope s.heap.objs.size f cd)
 N:=N
 s₀:=s
 H₀:=H
 env:=envOfC qual scope s.heap.objs.size f cd
 outer:=outer
 stack:=envOfC qual scope s.heap.objs.size f cd:: outer
 ex:=[]
 calm:=true
 fn:=fun _=>true
 pn:=[]
 xe:=fun e s'=>wpAny (model P w) (A.deeper (envOfC qual scope s.heap.objs.size f cd)) (leaving (envOfC qual scope s.heap.objs.size f cd) e) (fun _ s''=>CX outer H s E e s'') (fun e' s''=>CX outer H s E e' s'') s'
theorem Kr {sc:Scope} {n:Nat} {x:Str} (h:sc.names.lookup x=some .cell):∃c,(cellsFrom n sc.names []).lookup x=some c:=by
 have q:=PySem.W.cellsFrom_some sc.names n [] (.inl h)
 exact Option.isSome_iff_exists.mp q
theorem Pq {CX:FQ} {P:Program} {w:World} {K:PySem.W.Frag} {mg:Str->Option Value} {base:Heap} {N ps:List Str} {qual:Str} {scope:Scope} {f:Addr} {cd:Value} {A:Around} {outer:List Env} {s s1:Shared} {H:Hp} {E:XK} {us:List Value} {vs:List V}
  (S:fG N ps scope) (hd:A.handled=none) (e0:Mm P w K mg base A outer s H) (hl:vs.length=ps.length) (r:Vals vs us)
  (x:InCallC s s.heap.objs.size (bindL (envOfC qual scope s.heap.objs.size f cd).kindOf (ps.zip us) fun _=>none) (cellsFrom (s.heap.objs.size+1) scope.names []) (bindC (envOfC qual scope s.heap.objs.size f cd).kindOf (ps.zip us) fun _=>none) s1):
  Inv (K3 CX P w K mg base N qual scope f cd A outer s H E) [] (start N vs) H s1:=by
 have hpl:ps.length<=N.length:=by have:=congrArg List.length S.pre;rw [List.length_take] at this;omega
 obtain⟨h1,tk,rfl,hk⟩:=x.done
 have noA:∀b:Addr,b∉(K3 CX P w K mg base N qual scope f cd A outer s H E).ex:=fun b z=>absurd (show b∈([]:List Addr) from z) (by simp)
 refine⟨⟨e0.mod,S.kind,rfl,rfl,Nat.le_refl _,fun y z c h1 h2=>?_,fun y hy=>?_,fun y c _ h=>?_,fun _=>hd,Around.frames_deeper e0.frames,.inr ⟨rfl,rfl⟩,fun b z=>absurd z (noA b),e0.bs,e0.bsz,fun b _ _=>noA b,fun b z=>absurd z (noA b),e0.funs,e0.frf⟩,
  rfl,e0.bare,Un.kept hk,⟨_,x.toInCall.ns,fun i y v h1 h2 h3=>?_⟩,fun y c h=>⟨_,x.cell y c h⟩,e0.hok.fresh (Nat.le_refl _),fun y c h=>?_,fun p hp=>absurd (show p∈([]:List (Addr×Obj)) from hp) (by simp),e0.hok.kept hk,?_⟩
 ·exact name_of_addr x.apart (PySem.mem_of_lookup h1) (PySem.mem_of_lookup h2)
 ·have hy:scope.names.lookup y=some .cell∨scope.names.lookup y=some .free:=hy
  rcases hy with hy | hy
  ·exact Kr hy
  ·exact absurd rfl (S.nofree _ (PySem.mem_of_lookup hy))
 ·exact Nat.le_of_lt (x.above y c (PySem.mem_of_lookup h))
 ·have hi:i <vs.length:=by
   unfold start at h2
   by_cases hi:i <vs.length
   ·exact hi
   ·rw [List.getElem?_append_right (by simpa using hi)] at h2
    rw [List.getElem?_replicate] at h2
    split at h2 <;> cases h2
  have ha:vs[i]?=some v:=by
   unfold start at h2
   rw [List.getElem?_append_left (by simpa using hi),List.getElem?_map] at h2
   cases e:vs[i]? with
   | none=>rw [e] at h2;cases h2
   | some a=>rw [e] at h2;cases h2;rfl
  obtain⟨u,hu,rv⟩:=r.get ha
  have hp:ps[i]?=some y:=by
   rw [<-S.pre,List.getElem?_take_of_lt (by omega)];exact h1
  have ndP:ps.Nodup:=by rw [<-S.pre];exact S.nd.sublist (List.take_sublist _ _)
  refine⟨u,rv,?_⟩
  rcases S.par y (List.mem_of_getElem? hp) with k | k
  ·exact .inl ⟨k,FN ndP hp hu k⟩
  ·obtain⟨c,e⟩:=Kr (n:=s.heap.objs.size+1) k
   refine .inr ⟨.inl k,c,e,?_⟩
   have q:=x.cell y c e
   rw [Gi ndP hp hu (by show scope.names.lookup y≠_;rw [k];decide)] at q
   exact q
 ·exact e0.hok.fresh (Nat.le_of_lt (x.above y c (PySem.mem_of_lookup h)))
 ·unfold start
  show _=N.length
  rw [List.length_append,List.length_map,List.length_replicate]
  omega
theorem Vd {CX:FQ} {P:Program} {w:World} {K:PySem.W.Frag} {mg:Str->Option Value} {base:Heap} {k:Nat} {f:Addr} {name qual:Str} {params:Arguments} {body:List Stmt} {scope:Scope} {dV kV doc pm cdv ct oc:Value} {an od:Option Addr}
  {osl:Array (Option Value)} {N ps:List Str} {sp:Sp} (lk:K.lookup f=some ⟨oc,od,.func (PySem.W.fnOf name qual params body scope dV kV doc pm an cdv ct),osl⟩) (hcd:PySem.W.codeIn K cdv qual=true) (S:fG N ps scope)
  (len:∀vs H Q E,sp vs H Q E->vs.length=ps.length)
  (hbody:∀(A:Around) (outer:List Env) (s:Shared) (H:Hp) (vs:List V) (Q:VK) (E:XK),jq k (A.deeper (envOfC qual scope s.heap.objs.size f cdv))->sp vs H Q E->
   ∃t,MP (K3 CX P w K mg base N qual scope f cdv A outer s H E) body t/\t { nx:=fun _ H'=>Q .non H',rt:=Q } (start N vs) H):
  iM P w K mg base CX (k+1) f (PySem.W.fnOf name qual params body scope dV kV doc pm an cdv ct) ps sp:=by
 refine⟨len,fun A outer s H args us vs Q E hr e0 hb r hsp=>?_⟩
 have hl:=len _ _ _ _ hsp
 have KX:K.In s.heap:=e0.mod.kin.keeps fun b o e=>(e0.bs b o e).1
 have lim:s.heap.NoLimit:=e0.mod.nolimit.keeps fun b o e=>(e0.bs b o e).1
 have hkind:∀y∈ps.zip us,scope.names.lookup y.1=some .local∨(scope.names.lookup y.1=some .cell/\((cellsFrom (s.heap.objs.size+1) scope.names []).lookup y.1).isSome=true):=fun⟨n,v⟩ hy=>by
  rcases S.par n (List.of_mem_zip hy).1 with q | q
  ·exact .inl q
  ·exact .inr ⟨q,PySem.W.cellsFrom_some _ _ _ (.inl q)⟩
 refine codeAny_call_function hr.depth (KX _ _ lk) rfl S.co S.gen rfl (PySem.W.codeRec_of KX hcd) (hb _ _ _ _ ?_)
 refine wpAny_newFunctionEnv_cells S.kind hkind fun env he s1 x=>?_
 subst he
 refine⟨lim.keeps x.toInCall.keep,codeAny_func ?_⟩
 obtain⟨t,ht,hq⟩:=hbody A outer s H vs Q E (hr.deeper _) hsp
 have I:Inv (K3 CX P w K mg base N qual scope f cdv A outer s H E) [] (start N vs) H s1:=Pq S hr.hd e0 hl r x
 refine wpAny_mono (ht [] s1 (start N vs) H _ I hq) (fun fl s' hs=>?_) fun e s' hs=>hs
 have fin:∀{σ':St} {H':Hp} {v:V} {u:Value},Inv (K3 CX P w K mg base N qual scope f cdv A outer s H E) [] σ' H' s'->RelV v u->Q v H'->CE outer P w H s Q u s':=
  fun {σ' H' v u} J rv q=>⟨v,H',J.os,J.bare,J.base,J.hok,rv,q⟩
 cases fl with
 | ret u=>
  obtain⟨v,σ',H',J,rv,q⟩:=hs
  exact fin J rv q
 | next=>
  obtain⟨σ',H',J,q⟩:=hs
  exact fin (v:=V.non) (u:=Value.none) J rfl q
 | brk=>
  obtain⟨_,_,_,q⟩:=hs
  exact False.elim q
 | cont=>
  obtain⟨_,_,_,q⟩:=hs
  exact False.elim q
section
variable {X:Cx} {x:Str} {p pos:Pos} {e:Expr} {es:List Expr} {t:TA} {id T:String} {r:List V->Hp->VK->Prop}
noncomputable def Z3 (r:List V->Hp->VK->Prop) (t:TA):TE:=fun σ H Q=>t σ H fun vs H1=>r vs H1 Q
theorem bf (hc:mG X (.builtin id) r) (hg:Gl X x) (hm:X.mg x=none) (hv:bootBuiltins x=some (.builtin id)) (ha:PA X (e:: es) t) (hn:x≠ "__name__" :=by decide) (hdb:(x == ("__debug__" :Str))=false:=by decide)
  (he:starEach (e:: es) X.env=(false,eval e X.env):: starEach es X.env:=by rfl) (hpl:(backTo pos (starEach es X.env)).any (·.1)=false:=by rfl):PE X (.Call (.Name x p) (e:: es) [] pos) (Z3 r t):=by
 intro pins s σ H Q I h
 refine wpAny_Call_Name_kw (Ce I hg hm hv ?_ hn hdb)
 exact PyProof.Rows.callWith_builtin1 (dJ (ha pos pins s σ H _ I h) fun us s1 ⟨vs,H1,I1,r1,q1⟩=>hc pins s1 σ H1 vs us Q I1 r1 q1) he hpl
theorem dg (hc:mG X (.type T) r) (hg:Gl X x) (hm:X.mg x=none) (hv:bootBuiltins x=some (.type T)) (ha:PA X (e:: es) t) (hn:x≠ "__name__" :=by decide) (hdb:(x == ("__debug__" :Str))=false:=by decide)
  (he:starEach (e:: es) X.env=(false,eval e X.env):: starEach es X.env:=by rfl) (hpl:(backTo pos (starEach es X.env)).any (·.1)=false:=by rfl):PE X (.Call (.Name x p) (e:: es) [] pos) (Z3 r t):=by
 intro pins s σ H Q I h
 refine wpAny_Call_Name_kw (Ce I hg hm hv ?_ hn hdb)
 exact PyProof.Rows.callWith_type1 (dJ (ha pos pins s σ H _ I h) fun us s1 ⟨vs,H1,I1,r1,q1⟩=>hc pins s1 σ H1 vs us Q I1 r1 q1) he hpl
end
end L2
namespace HT
open PySem PyProof.Rows
section
open PySem.SeqAt
open PySem.AutoSeq1 (wpAny_loadPart')
open PySem.MeetsSeq PySem.MeetsSeq2 PySem.MeetsSeq3
end
section
variable {prog:Program} {w:World} {A:Around} {E:Value->Shared->Prop} {s:Shared}
noncomputable def J5 (n d:Nat):Option Int->Nat
 | none=>d
 | some v=>if v <0 then(v+(n:Int)).toNat else min v.toNat n
theorem yd (n d:Nat):J5 n d none=d:=rfl
theorem vC (n d k:Nat):J5 n d (some (k:Int))=min k n:=by
 show(if (k:Int) <0 then((k:Int)+(n:Int)).toNat else min (k:Int).toNat n)=min k n
 rw [if_neg (by omega),Int.toNat_natCast]
end
end HT
namespace L2
open PySem PySem.Spec PyProof.Rows
noncomputable abbrev TO:=St->Hp->(Option Int->Hp->Prop)->Prop
noncomputable def PO (X:Cx) (e:Option Expr) (t:TO):Prop:=
 ∀(pins:List (Addr×Obj)) (s:Shared) (σ:St) (H:Hp) (Q:Option Int->Hp->Prop),Inv X pins σ H s->t σ H Q->
  wpAny (model X.prog X.w) X.A (evalPart e X.env) (fun u s'=>∃o H',Inv X pins σ H' s'/\IsPart u o/\Q o H') X.xe s
noncomputable def Tf:TO:=fun _ H Q=>Q none H
inductive QV (Q:Option Int->Hp->Prop) (x:V) (H1:Hp):Prop where
 | mk:∀i,x=.int i->Q (some i) H1->QV Q x H1
noncomputable def Xj (t:TE):TO:=fun σ H Q=>t σ H fun x H1=>QV Q x H1
section
variable {X:Cx} {e:Expr} {te:TE} {lo hi:Option Expr} {tl th:TO} {pos p2:Pos}
theorem lN:PO X none Tf:=by
 intro pins s σ H Q I h
 rw [evalPart_none]
 exact wpAny_pure ⟨none,H,I,.none,h⟩
theorem jE (h:PE X e te):PO X (some e) (Xj te):=by
 intro pins s σ H Q I hw
 rw [evalPart_some]
 refine dJ (h pins s σ H _ I hw) fun u s1 hpt=>?_
 obtain⟨x,H1,I1,r1,q1⟩:=hpt
 obtain⟨i,rfl,q⟩:=q1
 obtain⟨t,rfl⟩:=r1
 exact⟨some i,H1,I1,.int i t,q⟩
noncomputable def Ze (X:Cx) (r:V->Option Int->Option Int->Hp->VK->Prop):Prop:=
 ∀(pins:List (Addr×Obj)) (s:Shared) (σ:St) (H:Hp) (x:V) (v vl vu:Value) (lo hi:Option Int) (sl:Addr) (Q:VK),Inv X pins σ H s->RelV x v->s.heap.IsSliceOf sl vl vu .none->IsPart vl lo->IsPart vu hi->r x lo hi H Q->
  ∃T id,typeLookup (.type T) "__getitem__" =pure (some (.builtin id))/\s.TypeIs v T/\wpAny (model X.prog X.w) X.A (getItem v (.ref sl)) (EP X pins σ Q) X.xe s
noncomputable def tSl (r:V->Option Int->Option Int->Hp->VK->Prop) (te:TE) (tl th:TO):TE:=fun σ H Q=>te σ H fun x H1=>tl σ H1 fun l H2=>th σ H2 fun u H3=>r x l u H3 Q
theorem iU {r:V->Option Int->Option Int->Hp->VK->Prop} (hr:Ze X r) (he:PE X e te) (hl:PO X lo tl) (hu:PO X hi th):PE X (.Subscript e (.Slice lo hi none p2) pos) (tSl r te tl th):=by
 intro pins s σ H Q I h
 refine Subscript_ (dJ (he pins s σ H _ I h) fun v s1 hpt=>?_)
 obtain⟨x,H1,I1,r1,q1⟩:=hpt
 refine wpAny_Slice (dJ (hl pins s1 σ H1 _ I1 q1) fun vl s2 ⟨l,H2,I2,pl,q2⟩=>dJ (hu pins s2 σ H2 _ I2 q2) fun vu s3 hpt=>?_)
 obtain⟨u,H3,I3,pu,q3⟩:=hpt
 rw [evalPart_none]
 refine wpAny_pure ?_
 have I4:Inv X pins σ H3 { s3 with heap:=s3.heap.push { cls:=.type "slice",data:=.fields #[vl,vu,.none] } }:=I3.kept (t':=s3.toks) fun b ob q=>Heap.get?_push_of_some _ q
 obtain⟨T,id,hT,ht,hg⟩:=hr pins { s3 with heap:=s3.heap.push { cls:=.type "slice",data:=.fields #[vl,vu,.none] } } σ H3 x v vl vu l u s3.heap.objs.size Q I4 r1 (Heap.IsSliceOf.new ..) pl pu q3
 show wpAny (model X.prog X.w) X.A (subscriptTail e (.Slice lo hi none p2) v (.ref s3.heap.objs.size)) (EP X pins σ Q) X.xe { s3 with heap:=s3.heap.push { cls:=.type "slice",data:=.fields #[vl,vu,.none] } }
 exact tail_any (ops:=[.ref s3.heap.objs.size,v]) ht hT hg (by with_unfolding_all rfl)
noncomputable def xK (xs:List V) (lo hi:Option Int):List V:=(xs.drop (HT.J5 xs.length 0 lo)).take (HT.J5 xs.length xs.length hi - HT.J5 xs.length 0 lo)
theorem JN (xs:List V) (lo hi:Option Int):(xK xs lo hi).length<=xs.length:=by
 unfold xK
 rw [List.length_take,List.length_drop]
 omega
end
noncomputable def SM (n:Nat) (i:Int):Option Nat:=if 0<=i then(if i <n then some i.toNat else none) else if -(n:Int)<=i then some (i+n).toNat else none
noncomputable def Es {α:Type} (xs:List α) (i:Int):Option α:=(SM xs.length i).bind fun j=>xs[j]?
theorem M6 {n:Nat} {i:Int} {j:Nat} (h:SM n i=some j):seqIndex? i n=some j/\j <n/\ -(n:Int)<=i/\i <n:=by
 unfold SM at h
 by_cases h0:0<=i
 ·rw [if_pos h0] at h
  by_cases h1:i <n
  ·rw [if_pos h1] at h
   have e:i.toNat=j:=Option.some.inj h
   exact⟨by rw [seqIndex_of h0 h1,e],by omega,by omega,h1⟩
  ·rw [if_neg h1] at h;cases h
 ·rw [if_neg h0] at h
  by_cases h1: -(n:Int)<=i
  ·rw [if_pos h1] at h
   have e:(i+n).toNat=j:=Option.some.inj h
   exact⟨by rw [seqIndex_neg (by omega) h1,e],by omega,h1,by omega⟩
  ·rw [if_neg h1] at h;cases h
theorem Bt {α:Type} {xs:List α} {i:Int} {v:α} (h:Es xs i=some v):∃j,seqIndex? i xs.length=some j/\xs[j]?=some v/\j <xs.length/\ -(xs.length:Int)<=i/\i <xs.length:=by
 unfold Es at h
 cases e:SM xs.length i with
 | none=>rw [e] at h;cases h
 | some j=>
  rw [e] at h
  obtain⟨h1,h2,h3,h4⟩:=M6 e
  exact⟨j,h1,h,h2,h3,h4⟩
theorem aK {α:Type} {xs:List α} {j:Nat} {v:α} (h:xs[j]?=some v):Es xs (j:Int)=some v:=by
 have hj:j <xs.length:=(List.getElem?_eq_some_iff.mp h).1
 have e:SM xs.length (j:Int)=some j:=by
  unfold SM
  rw [if_pos (by omega),if_pos (by omega)];simp
 unfold Es;rw [e];exact h
noncomputable def Nj (b:Expr):Prop:=∀o i,subscripted b false o i=operate [o,i] (getItem o i)
noncomputable def Pu (X:Cx) (r:R2):Prop:=
 ∀(value slice:Expr) (pins:List (Addr×Obj)) (s:Shared) (σ:St) (H:Hp) (x y:V) (v u:Value) (Q:VK),Inv X pins σ H s->RelV x v->RelV y u->r x y H Q->
  subscripted slice false v u=operate [v,u] (getItem v u)->wpAny (model X.prog X.w) X.A (subscriptTail value slice v u) (EP X pins σ Q) X.xe s
noncomputable def Y9 (X:Cx) (id:String) (r:V->List V->Hp->VK->Prop):Prop:=
 ∀(pins:List (Addr×Obj)) (s:Shared) (σ:St) (H:Hp) (x:V) (xs:List V) (v:Value) (us:List Value) (Q:VK),Inv X pins σ H s->RelV x v->Vals xs us->r x xs H Q->
  wpAny (model X.prog X.w) X.A (call (.builtin id) (v:: us)) (EP X pins σ Q) X.xe s
section
variable {X:Cx} {a b:Expr} {ta tb:TE} {pos:Pos}
theorem Pu.or {r r':R2} (h:Pu X r) (h':Pu X r'):Pu X (fun x y H Q=>r x y H Q∨r' x y H Q):=by
 intro value slice pins s σ H x y v u Q I rx ry q hs
 rcases q with q | q
 ·exact h value slice pins s σ H x y v u Q I rx ry q hs
 ·exact h' value slice pins s σ H x y v u Q I rx ry q hs
theorem aR {r:R2} (hr:Pu X r) (ha:PE X a ta) (hb:PE X b tb) (hs:Nj b):PE X (.Subscript a b pos) (Yu r ta tb):=by
 intro pins s σ H Q I h
 exact Subscript_ (Wk ha hb I h fun v u s2 x y H2 I2 rx ry q=>hr a b pins s2 σ H2 x y v u Q I2 rx ry q (hs _ _))
inductive Vo (K:PySem.W.Frag) (x:V) (y:V) (H:Hp) (Q:VK):Prop where
 | mk:∀p xs i v,x=.ref p->y=.int i->bI K H p xs->Es xs i=some v->Q v H->Vo K x y H Q
noncomputable def V3 (K:PySem.W.Frag):R2:=fun x y H Q=>Vo K x y H Q
inductive Vy (K:PySem.W.Frag) (x:V) (y:V) (H:Hp) (Q:VK):Prop where
 | mk:∀p xs i v,x=.ref p->y=.int i->eQ K H p xs->Es xs i=some v->Q v H->Vy K x y H Q
noncomputable def Wo (K:PySem.W.Frag):R2:=fun x y H Q=>Vy K x y H Q
inductive Uz (x:V) (y:V) (H:Hp) (Q:VK):Prop where
 | mk:∀z i c,x=.str z->y=.int i->z.length<=sizeLine->Es z.cps.toList i=some c->Q (.str ⟨#[c]⟩) H->Uz x y H Q
noncomputable def Xv:R2:=fun x y H Q=>Uz x y H Q
theorem aO:Pu X (V3 X.K):=by
 intro value slice pins s σ H x y v u Q I rx ry h hs
 obtain⟨p,xs,i,z,rfl,rfl,hq,he,q⟩:=h
 cases rx
 obtain⟨t,rfl⟩:=ry
 obtain⟨its,r,pl,hz⟩:=I.list hq
 obtain⟨j,h1,h2,h3,h4,h5⟩:=Bt he
 obtain⟨w,ew,rw'⟩:=r.get h2
 have hl:=r.length
 have hn:=zx
 have fin:EP X pins σ Q w s:=⟨z,H,I,rw',q⟩
 by_cases h0:0<=i
 ·have hj:i.toNat=j:=by
   rw [seqIndex_of h0 h5] at h1
   exact Option.some.inj h1
  exact item_listR pl.isList h0 (by omega) (by rw [hj];simpa using ew) fin hs
 ·have hj:(i+(its.toArray.size:Int)).toNat=j:=by
   rw [seqIndex_neg (by omega) h4] at h1
   rw [List.size_toArray,<-hl]
   exact Option.some.inj h1
  exact subscriptTail_builtinR (x:=w) pl.isList.typeIs slot_list_getitem.lookup
   (wpAny_getItem_list_neg (Q:=fun r s'=>r=w/\EP X pins σ Q r s') pl.isList (by omega) (by rw [List.size_toArray] <;> omega) (by omega) (by rw [hj];simpa using ew) ⟨rfl,fin⟩) hs
theorem cC:Pu X (Wo X.K):=by
 intro value slice pins s σ H x y v u Q I rx ry h hs
 obtain⟨p,xs,i,z,rfl,rfl,hq,he,q⟩:=h
 cases rx
 obtain⟨t,rfl⟩:=ry
 obtain⟨its,r,pl,hz⟩:=I.tuple hq
 obtain⟨j,h1,h2,h3,h4,h5⟩:=Bt he
 obtain⟨w,ew,rw'⟩:=r.get h2
 have hl:=r.length
 have hn:=zx
 have fin:EP X pins σ Q w s:=⟨z,H,I,rw',q⟩
 exact subscriptTail_builtinR (x:=w) pl.typeIs slot_tuple_getitem.lookup
  (getItem_tuple (j:=j) (Q:=fun r s'=>r=w/\EP X pins σ Q r s') pl (by omega) (by omega) (by rw [List.size_toArray,<-hl];exact h1) (by simpa using ew) ⟨rfl,fin⟩) hs
theorem DW:Pu X Xv:=by
 intro value slice pins s σ H x y v u Q I rx ry h hs
 obtain⟨z,i,c,rfl,rfl,hz,he,q⟩:=h
 obtain⟨t,rfl⟩:=rx
 obtain⟨t',rfl⟩:=ry
 obtain⟨j,h1,h2,h3,h4,h5⟩:=Bt he
 have hl:z.cps.toList.length=z.length:=by simp [Str.length]
 rw [hl] at h1 h4 h5
 have hn:=zx
 exact tail_any (typeIs_str s z t) slot_str_getitem.lookup (getItem_str (c:=c) (by
  have e1:decide (i < -(2 ^ 63:Int))=false:=decide_eq_false (by omega)
  have e2:decide (i≥2 ^ 63)=false:=decide_eq_false (by omega)
  rw [e1,e2,Bool.or_false]) (by rw [h1];simpa using h2) ⟨.str ⟨#[c]⟩,H,I.tok _,⟨_,rfl⟩,q⟩) hs
noncomputable def rIx (K:PySem.W.Frag):R2:=fun x y H Q=>V3 K x y H Q∨Wo K x y H Q∨Xv x y H Q
theorem Lq:Pu X (rIx X.K):=aO.or (cC.or DW)
theorem Lx (its:List Value) (n j:Nat) (u:Value):Obj.mapSeq (·.setIfInBounds j u) { cls:=.type "list",data:=.seq its.toArray n }={ cls:=.type "list",data:=.seq (its.set j u).toArray n }:=by
 simp [Obj.mapSeq]
theorem Inv.lst {pins:List (Addr×Obj)} {σ:St} {H:Hp} {s:Shared} {p:Addr} {xs:List V} (I:Inv X pins σ H s) (h:H p=some (.lst xs)):
  ∃(its:List Value) (n:Nat),Vals xs its/\s.heap.get? p=some { cls:=.type "list",data:=.seq its.toArray n }/\xs.length<=sizeLine:=by
 obtain⟨z,its,n,r,e⟩:=I.hok p _ h
 exact⟨its,n,r,e,z⟩
theorem Inv.lstUpd {pins:List (Addr×Obj)} {σ:St} {H:Hp} {s:Shared} {p:Addr} {xs ys:List V} {its its':List Value} {n n':Nat} {f:Obj->Obj} (I:Inv X pins σ H s) (h:H p=some (.lst xs))
  (ho:s.heap.get? p=some { cls:=.type "list",data:=.seq its.toArray n }) (hf:f { cls:=.type "list",data:=.seq its.toArray n }={ cls:=.type "list",data:=.seq its'.toArray n' }) (r:Vals ys its') (hz:ys.length<=sizeLine) (t:Nat):
  Inv X pins σ (upd H p (.lst ys)) { s with heap:=s.heap.update p f,toks:=t }:=by
 have e:(s.heap.update p f).get? p=some { cls:=.type "list",data:=.seq its'.toArray n' }:=by
  rw [Heap.get?_update_self f ho (by rw [hf] <;> rfl),hf]
 refine I.write (x:=p) (e:=p) (by rw [h];trivial) (.inl rfl) (fun b u hb q=>(Heap.get?_update_other _ _ (Ne.symm hb)).trans q) ⟨_,e⟩ ?_
 exact⟨hz,its',n',r,e⟩
noncomputable def XN:V->V->V->Hp->(Hp->Prop)->Prop:=fun o i v H Q=>∃p xs k j,o=.ref p/\i=.int k/\H p=some (.lst xs)/\SM xs.length k=some j/\Q (upd H p (.lst (xs.set j v)))
theorem set_list:Tp X XN:=by
 intro pins s σ H o i v ov iv u Q I ro ri rv h
 obtain⟨p,xs,k,j,rfl,rfl,hp,hj,q⟩:=h
 cases ro
 obtain⟨t,rfl⟩:=ri
 obtain⟨its,n,r,ho,hz⟩:=I.lst hp
 obtain⟨h1,h2,h3,h4⟩:=M6 hj
 have hl:=r.length
 have hn:=zx
 have I':Inv X pins σ (upd H p (.lst (xs.set j v))) { s with heap:=s.heap.update p (Obj.mapSeq (·.setIfInBounds j u)) }:=
  I.lstUpd hp ho (Lx its n j u) (r.set rv j) (by rw [List.length_set];exact hz) s.toks
 by_cases h0:0<=k
 ·have hk:k.toNat=j:=by
   rw [seqIndex_of h0 h4] at h1
   exact Option.some.inj h1
  exact PySem.W.ki_setAt ho h0 (by omega) (by rw [List.size_toArray,<-hl];exact h4) (by rw [hk];exact⟨_,I',q⟩)
 ·have hk:(k+(its.toArray.size:Int)).toNat=j:=by
   rw [seqIndex_neg (by omega) h3] at h1
   rw [List.size_toArray,<-hl]
   exact Option.some.inj h1
  exact PySem.W.ki_setBack ho (by omega) (by rw [List.size_toArray,<-hl];exact h3) (by omega) (by rw [hk];exact⟨_,I',q⟩)
theorem Ji (lo hi:Option Int) (n:Nat):(sliceBounds lo hi none n).1=((HT.J5 n 0 lo:Nat):Int)/\(sliceBounds lo hi none n).2.1=((HT.J5 n n hi:Nat):Int)/\(sliceBounds lo hi none n).2.2=1:=by
 refine⟨?_,?_,rfl⟩
 ·cases lo with
  | none=>simp [sliceBounds,HT.J5]
  | some i=>
   simp only [sliceBounds,HT.J5,Option.getD_none,show(1:Int) >0 by decide,if_true]
   by_cases h:i <0
   ·simp only [h,if_true] <;> omega
   ·simp only [h,if_false] <;> omega
 ·cases hi with
  | none=>simp [sliceBounds,HT.J5]
  | some i=>
   simp only [sliceBounds,HT.J5,Option.getD_none,show(1:Int) >0 by decide,if_true]
   by_cases h:i <0
   ·simp only [h,if_true] <;> omega
   ·simp only [h,if_false] <;> omega
theorem Ff (its:List Value) (lo hi:Option Int):slicePick its.toArray lo hi none=((its.drop (HT.J5 its.length 0 lo)).take (HT.J5 its.length its.length hi - HT.J5 its.length 0 lo)).toArray:=by
 obtain⟨h1,h2,h3⟩:=Ji lo hi its.toArray.size
 unfold slicePick
 rw [h1,h2,h3]
 simp only [sliceRange_one,pick_run,List.size_toArray] <;> rfl
inductive Vi (K:PySem.W.Frag) (x:V) (lo:Option Int) (hi:Option Int) (H:Hp) (Q:VK):Prop where
 | mk:∀a xs,x=.ref a->bI K H a xs->(∀p,H p=none->Q (.ref p) (upd H p (.lst (xK xs lo hi))))->Vi K x lo hi H Q
noncomputable def Zw (K:PySem.W.Frag):V->Option Int->Option Int->Hp->VK->Prop:=fun x lo hi H Q=>Vi K x lo hi H Q
theorem nj:Ze X (Zw X.K):=by
 intro pins s σ H x v vl vu lo hi sl Q I rx hs pl pu h
 obtain⟨a,xs,rfl,hx,q⟩:=h
 cases rx
 obtain⟨its,r,ht,hz⟩:=I.list hx
 have hlen:=r.length
 refine⟨"list",_,slot_list_getitem.lookup,ht.isList.typeIs,?_⟩
 refine wpAny_getItem_list_slice ht.isList hs pl pu .none (by simp) ?_ (by rw [List.size_toArray] <;> omega)
 rw [Ff,<-hlen]
 refine⟨.ref s.heap.objs.size,_,I.laid (t':=s.toks) (o:=.lst (xK xs lo hi)) (fun b ob q=>Heap.get?_push_of_some _ q) (Nat.le_refl _) ?_,rfl,q _ (I.hok.fresh (Nat.le_refl _))⟩
 exact⟨Nat.le_trans (JN xs lo hi) hz,_,0,(r.drop (HT.J5 xs.length 0 lo)).take (HT.J5 xs.length xs.length hi - HT.J5 xs.length 0 lo),Heap.get?_push_size _ rfl⟩
noncomputable def mF:V->Bool
 | .non=>true
 | .bl _=>true
 | .int _=>true
 | .str _=>true
 | _=>false
noncomputable def Gs:V->V->Bool
 | .non,.non=>true
 | .bl a,.bl b=>a == b
 | .bl a,.int b=>(if a then 1 else 0) == b
 | .int a,.bl b=>a == (if b then 1 else 0)
 | .int a,.int b=>a == b
 | .str a,.str b=>a == b
 | _,_=>false
theorem Wh {A:Around} {s:Shared} {y x:V} {u v:Value} (ry:RelV y u) (rx:RelV x v) (fy:mF y=true) (fx:mF x=true):SeqAt.EqAt A s u v (Gs y x):=by
 cases y with
 | non=>
  cases ry
  cases x with
  | non=>cases rx;exact SeqAt.EqAt.same _
  | bl b=>cases rx;exact SeqAt.EqAt.none_bool b
  | int b=>obtain⟨t,rfl⟩:=rx;exact SeqAt.EqAt.none_int b t
  | str b=>obtain⟨t,rfl⟩:=rx;exact SeqAt.EqAt.none_str b t
  | _=>exact absurd (show false=true from fx) Bool.false_ne_true
 | bl a=>
  cases ry
  cases x with
  | non=>cases rx;exact SeqAt.EqAt.bool_none a
  | bl b=>cases rx;exact SeqAt.EqAt.bool_bool a b
  | int b=>obtain⟨t,rfl⟩:=rx;exact SeqAt.EqAt.bool_int a b t
  | str b=>obtain⟨t,rfl⟩:=rx;exact SeqAt.EqAt.bool_str a b t
  | _=>exact absurd (show false=true from fx) Bool.false_ne_true
 | int a=>
  obtain⟨t',rfl⟩:=ry
  cases x with
  | non=>cases rx;exact SeqAt.EqAt.int_none a t'
  | bl b=>cases rx;exact SeqAt.EqAt.int_bool a t' b
  | int b=>obtain⟨t,rfl⟩:=rx;exact SeqAt.EqAt.int_int a t' b t
  | str b=>obtain⟨t,rfl⟩:=rx;exact SeqAt.EqAt.int_str a t' b t
  | _=>exact absurd (show false=true from fx) Bool.false_ne_true
 | str a=>
  obtain⟨t',rfl⟩:=ry
  cases x with
  | non=>cases rx;exact SeqAt.EqAt.str_none a t'
  | bl b=>cases rx;exact SeqAt.EqAt.str_bool a t' b
  | int b=>obtain⟨t,rfl⟩:=rx;exact SeqAt.EqAt.str_int a t' b t
  | str b=>obtain⟨t,rfl⟩:=rx;exact SeqAt.EqAt.str_str a t' b t
  | _=>exact absurd (show false=true from fx) Bool.false_ne_true
 | _=>exact absurd (show false=true from fy) Bool.false_ne_true
noncomputable def LK (x:V) (u:Value):Bool:=match u with
 | .none=>Gs .non x
 | .bool b=>Gs (.bl b) x
 | .int i _=>Gs (.int i) x
 | .str z _=>Gs (.str z) x
 | _=>false
theorem Rc {x y:V} {u:Value} (r:RelV y u) (f:mF y=true):LK x u=Gs y x:=by
 cases y with
 | non=>cases r;rfl
 | bl b=>cases r;rfl
 | int i=>obtain⟨t,rfl⟩:=r;rfl
 | str z=>obtain⟨t,rfl⟩:=r;rfl
 | _=>exact absurd (show false=true from f) Bool.false_ne_true
theorem xP {x:V}:∀{xs:List V} {us:List Value},Vals xs us->xs.all mF=true->us.any (LK x)=xs.any fun y=>Gs y x
 | _,_,.nil,_=>rfl
 | y:: xs,u:: us,.cons r t,f=>by
  rw [List.all_cons,Bool.and_eq_true] at f
  rw [List.any_cons,List.any_cons,Rc r f.1,xP t f.2]
theorem uz {A:Around} {s:Shared} {x:V} {v:Value} (rx:RelV x v) (fx:mF x=true):∀{xs:List V} {us:List Value},Vals xs us->xs.all mF=true->∀u∈us,SeqAt.EqAt A s u v (LK x u)
 | _,_,.nil,_=>fun u hu=>by cases hu
 | y:: xs,u:: us,.cons r t,f=>fun u' hu=>by
  rw [List.all_cons,Bool.and_eq_true] at f
  rcases List.mem_cons.mp hu with rfl | hu
  ·rw [Rc r f.1];exact Wh r rx f.1 fx
  ·exact uz rx fx t f.2 u' hu
noncomputable def inV (x:V) (xs:List V):Bool:=xs.any fun y=>Gs y x
inductive X6 (K:PySem.W.Frag) (neg:Bool) (x:V) (y:V) (H:Hp) (Q:VK):Prop where
 | mk:∀p xs,y=.ref p->((bI K H p xs∨eQ K H p xs))->mF x=true->xs.all mF=true->(Q (.bl (if neg then !inV x xs else inV x xs)) H)->X6 K neg x y H Q
noncomputable def Y4 (K:PySem.W.Frag) (neg:Bool):R2:=fun x y H Q=>X6 K neg x y H Q
theorem FW:uK X (compareOp .In) (Y4 X.K false):=by
 intro pins s σ H x y v u Q I rx ry h
 obtain⟨p,xs,rfl,hq,fx,fs,q⟩:=h
 cases ry
 rcases hq with hq | hq
 ·obtain⟨its,r,pl,hz⟩:=I.list hq
  refine SeqAt.in_listAt (LK x) pl.isList (fun w hw=>uz rx fx r fs w (by simpa using hw)) ⟨.bl _,H,I,rfl,?_⟩
  rw [show its.toArray.any (LK x)=its.any (LK x) by simp,xP r fs]
  exact q
 ·obtain⟨its,r,pl,hz⟩:=I.tuple hq
  refine SeqAt.in_tupleAt (LK x) pl (fun w hw=>uz rx fx r fs w (by simpa using hw)) ⟨.bl _,H,I,rfl,?_⟩
  rw [show its.toArray.any (LK x)=its.any (LK x) by simp,xP r fs]
  exact q
theorem jf:uK X (compareOp .NotIn) (Y4 X.K true):=by
 intro pins s σ H x y v u Q I rx ry h
 obtain⟨p,xs,rfl,hq,fx,fs,q⟩:=h
 cases ry
 rcases hq with hq | hq
 ·obtain⟨its,r,pl,hz⟩:=I.list hq
  refine SeqAt.notIn_listAt (LK x) pl.isList (fun w hw=>uz rx fx r fs w (by simpa using hw)) ⟨.bl _,H,I,rfl,?_⟩
  rw [show its.toArray.any (LK x)=its.any (LK x) by simp,xP r fs]
  exact q
 ·obtain⟨its,r,pl,hz⟩:=I.tuple hq
  refine SeqAt.notIn_tupleAt (LK x) pl (fun w hw=>uz rx fx r fs w (by simpa using hw)) ⟨.bl _,H,I,rfl,?_⟩
  rw [show its.toArray.any (LK x)=its.any (LK x) by simp,xP r fs]
  exact q
theorem jU:mG X (.type "list") (fun xs H Q=>∃p ys,xs=[.ref p]/\(bI X.K H p ys∨eQ X.K H p ys)/\∀l,H l=none->Q (.ref l) (upd H l (.lst ys))):=by
 intro pins s σ H xs us Q I r h
 obtain⟨p,ys,rfl,hq,q⟩:=h
 obtain⟨u,rfl,rx⟩:=vals1 r
 cases rx
 have fin:∀(its:List Value),Vals ys its->ys.length<=sizeLine->∀(h':Heap) (c':Nat),(∀b o',s.heap.get? b=some o'->h'.get? b=some o')->
   h'.get? s.heap.objs.size=some { cls:=.type "list",dict:=none,data:=.seq its.toArray c',slots:=#[] }->EP X pins σ Q (.ref s.heap.objs.size) { s with heap:=h' }:=fun its r' hz h' c' kp e=>
  ⟨.ref s.heap.objs.size,_,I.laid (t':=s.toks) kp (Nat.le_refl _) (show fY X.prog X.w _ h' _ (.lst ys) from⟨hz,its,c',r',e⟩),rfl,q _ (I.hok.fresh (Nat.le_refl _))⟩
 rcases hq with hq | hq
 ·obtain⟨its,r',pl,hz⟩:=I.list hq
  have hlen:=r'.length
  obtain⟨o,ho,hc,n,hd⟩:=pl.isList
  exact call_list_seq p (.inl rfl) ho hc hd (fun h' c' kp e=>fin its r' hz h' c' kp e) (by simp only [List.size_toArray] <;> omega)
 ·obtain⟨its,r',pl,hz⟩:=I.tuple hq
  have hlen:=r'.length
  obtain⟨o,ho,hc,n,hd⟩:=pl
  exact call_list_seq p (.inr rfl) ho hc hd (fun h' c' kp e=>fin its r' hz h' c' kp e) (by simp only [List.size_toArray] <;> omega)
theorem Fb:mG X (.type "tuple") (fun xs H Q=>∃p ys,xs=[.ref p]/\((bI X.K H p ys/\∀l,H l=none->Q (.ref l) (upd H l (.tup ys)))∨(eQ X.K H p ys/\Q (.ref p) H))):=by
 intro pins s σ H xs us Q I r h
 obtain⟨p,ys,rfl,h⟩:=h
 obtain⟨u,rfl,rx⟩:=vals1 r
 cases rx
 rcases h with ⟨hq,q⟩ | ⟨hq,q⟩
 ·obtain⟨its,r',pl,hz⟩:=I.list hq
  have hlen:=r'.length
  refine call_tuple_list pl.isList (fun h' kp=>?_) (by simp only [List.size_toArray] <;> omega)
  have I1:Inv X pins σ H { s with heap:=h' }:=I.kept (t':=s.toks) kp
  have I2:Inv X pins σ (upd H h'.objs.size (.tup ys)) { s with heap:=h'.push { cls:=.type "tuple",data:=.seq its.toArray } }:=
   I1.laid (t':=s.toks) (fun b o e=>Heap.get?_push_of_some _ e) (Nat.le_refl _) (show fY X.prog X.w _ _ _ (.tup ys) from⟨hz,its,r',IsTup.new _ _⟩)
  exact⟨.ref h'.objs.size,_,I2,rfl,q _ (I1.hok.fresh (Nat.le_refl _))⟩
 ·obtain⟨its,r',pl,hz⟩:=I.tuple hq
  exact call_tuple_same pl ⟨.ref p,H,I,rfl,q⟩
noncomputable def ZP (K:PySem.W.Frag) (T:String) (x:V) (H:Hp):Prop:=match x with
 | .str _=>T= "str"
 | .int _=>T= "int"
 | .ref p=>(T= "list" /\∃xs,bI K H p xs)∨(T= "tuple" /\∃o,K.lookup p=some o/\o.cls=.type "tuple" /\o.dict=none)∨
   (T= "dict" /\((∃kvs,H p=some (.dK kvs))∨∃kvs,H p=some (.dT kvs)))∨(T= "set" /\∃S n,H p=some (.set S n))
 | _=>False
theorem Qi {pins:List (Addr×Obj)} {σ:St} {H:Hp} {s:Shared} {T:String} {x:V} {v:Value} (I:Inv X pins σ H s) (r:RelV x v) (ty:ZP X.K T x H):
  s.TypeIs v T/\∀a,v=.ref a->∃ob,s.heap.get? a=some ob/\ob.dict=none:=by
 cases x with
 | str z=>
  obtain⟨t,rfl⟩:=r
  cases (show T= "str" from ty)
  exact⟨typeIs_str s z t,fun _ e=>nomatch e⟩
 | int i=>
  obtain⟨t,rfl⟩:=r
  cases (show T= "int" from ty)
  exact⟨typeIs_int s i t,fun _ e=>nomatch e⟩
 | ref p=>
  cases r
  rcases ty with ⟨rfl,xs,hq⟩ | ⟨rfl,o,hk,hc,hd⟩ | ⟨rfl,hk⟩ | ⟨rfl,S,n,hk⟩
  ·obtain⟨its,_,pl,_⟩:=I.list hq
   refine⟨pl.isList.typeIs,fun a e=>?_⟩
   cases e
   obtain⟨o,n,e,c,hd,_⟩:=pl
   exact⟨o,e,hd⟩
  ·refine⟨⟨o,I.kIn p o hk,hc⟩,fun a e=>?_⟩
   cases e
   exact⟨o,I.kIn _ o hk,hd⟩
  ·have z:∃o,s.heap.get? p=some o/\o.ExactDict:=by
    rcases hk with ⟨kvs,hk⟩ | ⟨kvs,hk⟩
    ·obtain⟨_,_,_,_,o,_,_,e,ex,_⟩:=I.hok p _ hk
     exact⟨o,e,ex⟩
    ·obtain⟨_,_,_,_,o,_,_,e,ex,_⟩:=I.hok p _ hk
     exact⟨o,e,ex⟩
   obtain⟨o,e,ex⟩:=z
   refine⟨⟨o,e,ex.1⟩,fun a e2=>?_⟩
   cases e2
   exact⟨o,e,ex.2.1⟩
  ·obtain⟨o,_,_,_,e,ex,_⟩:=I.hok p _ hk
   refine⟨⟨o,e,ex.1⟩,fun a e2=>?_⟩
   cases e2
   exact⟨o,e,ex.2.1⟩
 | _=>exact False.elim ty
noncomputable def Zb (K:PySem.W.Frag) (T:String) (r:V->List V->Hp->VK->Prop) (to:TE):TE:=fun σ H Q=>to σ H fun x H1=>ZP K T x H1/\r x [] H1 Q
noncomputable def Z2 (K:PySem.W.Frag) (T:String) (r:V->List V->Hp->VK->Prop) (to:TE) (t:TA):TE:=fun σ H Q=>to σ H fun x H1=>ZP K T x H1/\t σ H1 fun xs H2=>r x xs H2 Q
variable {o e:Expr} {es:List Expr} {to:TE} {t:TA} {name:Str} {apos cpos:Pos} {T id:String} {r:V->List V->Hp->VK->Prop}
theorem KD (pa:PlainAttrs T) (slot:Slot T name id) (hty:typeOf (.builtin id)=pure (.type "method_descriptor")) (hm:Y9 X id r) (ho:PE X o to)
  (hbase:attributeBase o name X.env (eval o X.env)=eval o X.env:=by rfl) (hline:(apos.endLine == cpos.line)=true:=by rfl):PE X (.Call (.Attribute o name apos) [] [] cpos) (Zb X.K T r to):=by
 intro pins s σ H Q I h
 refine wpAny_Call_method0_late hbase hline (dJ (ho pins s σ H _ I h) fun v s1 hpt=>?_)
 obtain⟨x,H1,I1,r1,ty,q1⟩:=hpt
 obtain⟨h1,h2⟩:=Qi I1 r1 ty
 exact⟨T,id,pa,slot,hty,h1,h2,Calls.callWith_builtin rfl (PySem.evalArgs_none (hm pins s1 σ H1 x [] v [] Q I1 r1 .nil q1))⟩
theorem Ek (pa:PlainAttrs T) (slot:Slot T name id) (hty:typeOf (.builtin id)=pure (.type "method_descriptor")) (hm:Y9 X id r) (ho:PE X o to) (ha:PA X (e:: es) t)
  (hbase:attributeBase o name X.env (eval o X.env)=eval o X.env:=by rfl)
  (hfew:((backTo cpos (starEach (e:: es) X.env)).all (fun x=>!x.1) && (backToKw cpos (keywordEach [] X.env)).all (fun x=>x.1.isSome)
   && decide ((e:: es).length+([]:List Keyword).length+(if ([]:List Keyword).isEmpty then 0 else 1) <30))=true:=by rfl)
  (hline:(apos.endLine == cpos.line)=true:=by rfl) (hs:starEach (e:: es) X.env=(false,eval e X.env):: starEach es X.env:=by rfl) (hplain:(backTo cpos (starEach es X.env)).any (·.1)=false:=by rfl):
  PE X (.Call (.Attribute o name apos) (e:: es) [] cpos) (Z2 X.K T r to t):=by
 intro pins s σ H Q I h
 refine wpAny_Call_method_late hbase hfew hline rfl (dJ (ho pins s σ H _ I h) fun v s1 hpt=>?_)
 obtain⟨x,H1,I1,r1,ty,q1⟩:=hpt
 obtain⟨h1,h2⟩:=Qi I1 r1 ty
 refine⟨T,id,pa,slot,hty,h1,h2,?_⟩
 have hA:=ha cpos pins s1 σ H1 _ I1 q1
 rw [hs] at hA ⊢
 refine Calls.callWith_builtin (by show(false || (backTo cpos (starEach es X.env)).any (·.1))=false;rw [hplain] <;> rfl) (Calls.evalArgs_plain ?_)
 exact dJ hA fun us s2 ⟨vs,H2,I2,r2,q2⟩=>hm pins s2 σ H2 x vs v us Q I2 r1 r2 q2
end
noncomputable def YS (X:Cx) (id:String) (r:V->List V->Hp->VK->Prop):Prop:=
 ∀(pins:List (Addr×Obj)) (s:Shared) (σ:St) (H:Hp) (x:V) (xs:List V) (v:Value) (us:List Value) (Q:VK),Inv X pins σ H s->RelV x v->Vals xs us->r x xs H Q->
  wpAny (model X.prog X.w) X.A (call (.builtin id) (v:: us)) (EP X pins σ Q) X.xe s
theorem Vals.one:∀{x:V} {us:List Value},Vals [x] us->∃u,us=[u]/\RelV x u
 | _,_,.cons r .nil=>⟨_,rfl,r⟩
theorem Vals.zero:∀{us:List Value},Vals [] us->us=[]
 | _,.nil=>rfl
theorem Vals.dropLast {xs:List V} {us:List Value} (h:Vals xs us):Vals xs.dropLast us.dropLast:=by
 induction h with
 | nil=>exact .nil
 | cons r t ih=>
  cases t with
  | nil=>exact .nil
  | cons q t'=>exact .cons r ih
theorem Vals.eraseIdx:∀{xs:List V} {us:List Value} (i:Nat),Vals xs us->Vals (xs.eraseIdx i) (us.eraseIdx i)
 | _,_,_,.nil=>.nil
 | _,_,0,.cons _ t=>t
 | _,_,i+1,.cons r t=>.cons r (Vals.eraseIdx i t)
theorem Vals.rep {xs:List V} {us:List Value} (h:Vals xs us):∀k:Nat,Vals (List.replicate k xs).flatten (List.replicate k us).flatten
 | 0=>.nil
 | k+1=>by
  rw [List.replicate_succ,List.replicate_succ,List.flatten_cons,List.flatten_cons]
  exact Vals.append h (Vals.rep h k)
theorem Mp {α:Type} (l:List α):l.eraseIdx (l.length - 1)=l.dropLast:=by
 induction l with
 | nil=>rfl
 | cons a r ih=>
  cases r with
  | nil=>rfl
  | cons b r=>
   have e:(a:: b:: r).length - 1=((b:: r).length - 1)+1:=by
    have h1:(a:: b:: r).length=r.length+2:=rfl
    have h2:(b:: r).length=r.length+1:=rfl
    omega
   rw [e,List.eraseIdx_cons_succ,ih]
   all_goals rfl
theorem GZ {α:Type}:∀(l:List α) (i:Nat),(l.eraseIdx i).length<=l.length
 | [],_=>Nat.le_refl _
 | _:: _,0=>Nat.le_succ _
 | _:: r,i+1=>Nat.succ_le_succ (GZ r i)
theorem foldl_rep (its:List Value):∀(k:Nat) (acc:List Value),
  List.foldl (fun x1 x2=>x1 ++ x2) acc.toArray (List.replicate k its.toArray)=(acc ++ (List.replicate k its).flatten).toArray
 | 0,acc=>by simp
 | k+1,acc=>by
  have e:acc.toArray ++ its.toArray=(acc ++ its).toArray:=by simp
  have e2:(acc ++ its) ++ (List.replicate k its).flatten=acc ++ (List.replicate (k+1) its).flatten:=by
   rw [List.replicate_succ,List.flatten_cons,List.append_assoc]
  rw [<-e2,<-foldl_rep its k (acc ++ its),<-e,List.replicate_succ,List.foldl_cons]
section
variable {X:Cx} {pins:List (Addr×Obj)} {σ:St} {H:Hp} {s:Shared} {l b:Addr} {xs ys zs:List V}
theorem Inv.lset {its its':List Value} {n:Nat} {f:Array Value->Array Value} {t':Nat} (I:Inv X pins σ H s) (hH:H l=some (.lst xs))
  (e:s.heap.get? l=some { cls:=.type "list",data:=.seq its.toArray n }) (hf:f its.toArray=its'.toArray) (hv:Vals ys its') (hz:ys.length<=sizeLine):
  Inv X pins σ (upd H l (.lst ys)) { s with heap:=s.heap.update l (Obj.mapSeq f),toks:=t' }:=by
 have q:=PySem.IsL.update e f
 rw [hf] at q
 refine I.write (x:=l) (e:=l) (by rw [hH];exact trivial) (.inl rfl) (fun b' u hb hu=>(Heap.get?_update_other s.heap (Obj.mapSeq f) (Ne.symm hb)).trans hu) ⟨_,q⟩ ?_
 exact⟨hz,its',_,hv,q⟩
theorem Inv.lnew {its:List Value} {t':Nat} (I:Inv X pins σ H s) (hv:Vals ys its) (hz:ys.length<=sizeLine):
  Inv X pins σ (upd H s.heap.objs.size (.lst ys)) { s with heap:=s.heap.push { cls:=.type "list",data:=.seq its.toArray },toks:=t' }:=
 I.laid (fun _ _ q=>Heap.get?_push_of_some _ q) (Nat.le_refl _) ⟨hz,its,0,hv,Heap.get?_push_size _ rfl⟩
theorem Inv.fresh (I:Inv X pins σ H s):H s.heap.objs.size=none:=I.hok.fresh (Nat.le_refl _)
theorem Inv.lstM (I:Inv X pins σ H s) (hH:H l=some (.lst xs)):xs.length<=sizeLine/\∃(its:List Value) (n:Nat),Vals xs its/\xs.length=its.length/\s.heap.get? l=some { cls:=.type "list",data:=.seq its.toArray n }:=by
 obtain⟨z,its,n,r,e⟩:=I.hok l _ hH
 exact⟨z,its,n,r,r.length,e⟩
theorem J4 {n:Nat} (h:n<=sizeLine):Builtin.List.listTooLong n=false:=by
 unfold Builtin.List.listTooLong
 exact decide_eq_false (by omega)
end
section
variable {X:Cx}
inductive Kd (x:V) (vs:List V) (H:Hp) (Q:VK):Prop where
 | mk:∀l xs y,x=.ref l->vs=[y]->H l=some (.lst xs)->xs.length <sizeLine->Q .non (upd H l (.lst (xs ++ [y])))->Kd x vs H Q
noncomputable def M5:V->List V->Hp->VK->Prop:=fun x vs H Q=>Kd x vs H Q
theorem OJ:YS X "list.append" M5:=by
 intro pins s σ H x vs v us Q I rx rv h
 obtain⟨l,xs,y,rfl,rfl,hH,hz,q⟩:=h
 cases rx
 obtain⟨u,rfl,ru⟩:=rv.one
 obtain⟨z,its,n,r,hl,e⟩:=I.lstM hH
 refine call_meets F.slot_list_append ⟨_,e,rfl⟩ F.entry_list_append (F.args_list_append_2 _ _) (PySem.list_append l its.toArray n u (by rw [List.size_toArray];omega)) ⟨e,?_⟩
 refine⟨.non,_,I.lset (its':=its ++ [u]) hH e (by simp) (r.append (.cons ru .nil)) ?_,rfl,q⟩
 rw [List.length_append,List.length_singleton]
 omega
inductive JK (x:V) (vs:List V) (H:Hp) (Q:VK):Prop where
 | mk:∀l b xs zs,x=.ref l->vs=[.ref b]->H l=some (.lst xs)->H b=some (.lst zs)->xs.length+zs.length<=sizeLine->Q .non (upd H l (.lst (xs ++ zs)))->JK x vs H Q
noncomputable def Ud:V->List V->Hp->VK->Prop:=fun x vs H Q=>JK x vs H Q
theorem Gf:YS X "list.extend" Ud:=by
 intro pins s σ H x vs v us Q I rx rv h
 obtain⟨l,b,xs,zs,rfl,rfl,hH,hB,hz,q⟩:=h
 cases rx
 obtain⟨u,rfl,ru⟩:=rv.one
 cases ru
 obtain⟨z,its,n,r,hl,e⟩:=I.lstM hH
 obtain⟨z2,its2,n2,r2,hl2,e2⟩:=I.lstM hB
 have hsz:its.toArray.size+its2.toArray.size<=sizeLine:=by rw [List.size_toArray,List.size_toArray];omega
 have hlong:¬(!its.toArray.isEmpty && Builtin.List.listTooLong (its.toArray.size+its2.toArray.size))=true:=by
  rw [J4 hsz,Bool.and_false]
  exact Bool.false_ne_true
 refine call_meets F.slot_list_extend ⟨_,e,rfl⟩ F.entry_list_extend (F.args_list_extend_2 _ _)
  (AutoSeq1.list_extend_list_list_0 l its.toArray n b its2.toArray n2 hlong (by rw [List.size_toArray];omega) (by omega)) ⟨e,e2,?_⟩
 refine⟨.non,_,I.lset (its':=its ++ its2) hH e (by simp) (r.append r2) ?_,rfl,q⟩
 rw [List.length_append]
 omega
inductive Vx (x:V) (vs:List V) (H:Hp) (Q:VK):Prop where
 | mk:∀l xs y,x=.ref l->vs=[]->H l=some (.lst xs)->xs[xs.length - 1]?=some y->Q y (upd H l (.lst xs.dropLast))->Vx x vs H Q
noncomputable def Zg:V->List V->Hp->VK->Prop:=fun x vs H Q=>Vx x vs H Q
theorem KR:YS X "list.pop" Zg:=by
 intro pins s σ H x vs v us Q I rx rv h
 obtain⟨l,xs,y,rfl,rfl,hH,hy,q⟩:=h
 cases rx
 have hus:=rv.zero
 subst hus
 obtain⟨z,its,n,r,hl,e⟩:=I.lstM hH
 obtain⟨u,hu,ru⟩:=r.get hy
 have hy':its.toArray[its.toArray.size - 1]?=some u:=by
  show its.toArray[its.length - 1]?=some u
  rw [<-Array.getElem?_toList,<-hl]
  exact hu
 refine call_meets F.slot_list_pop ⟨_,e,rfl⟩ F.entry_list_pop (F.args_list_pop_1 _) (MeetsSeq.list_pop_last l its.toArray n u hy' (by rw [List.size_toArray];omega)) ⟨e,?_⟩
 refine⟨y,_,I.lset (its':=its.dropLast) hH e ?_ r.dropLast ?_,ru,q⟩
 ·show its.toArray.eraseIdxIfInBounds (its.toArray.size - 1)=its.dropLast.toArray
  rw [List.size_toArray,List.eraseIdxIfInBounds_toArray,Mp]
 ·rw [List.length_dropLast]
  omega
inductive Nt (x:V) (vs:List V) (H:Hp) (Q:VK):Prop where
 | mk:∀l xs i k y,x=.ref l->vs=[.int i]->H l=some (.lst xs)-> -(2 ^ 63)<=i->i <2 ^ 63->seqIndex? i xs.length=some k->xs[k]?=some y->Q y (upd H l (.lst (xs.eraseIdx k)))->Nt x vs H Q
noncomputable def Wx:V->List V->Hp->VK->Prop:=fun x vs H Q=>Nt x vs H Q
theorem Cy:YS X "list.pop" Wx:=by
 intro pins s σ H x vs v us Q I rx rv h
 obtain⟨l,xs,i,k,y,rfl,rfl,hH,h1,h2,hk,hy,q⟩:=h
 cases rx
 obtain⟨u,rfl,ru⟩:=rv.one
 obtain⟨t,rfl⟩:=ru
 obtain⟨z,its,n,r,hl,e⟩:=I.lstM hH
 obtain⟨w,hw,rw'⟩:=r.get hy
 refine call_meets F.slot_list_pop ⟨_,e,rfl⟩ F.entry_list_pop (F.args_list_pop_2 _ _)
  (MeetsSeq.list_pop_at l its.toArray n i t k w (fitsIndex_both h1 h2) (by rw [List.size_toArray,<-hl];exact hk) (by rw [<-Array.getElem?_toList];exact hw) (by rw [List.size_toArray];omega)) ⟨e,?_⟩
 refine⟨y,_,I.lset (its':=its.eraseIdx k) hH e ?_ (r.eraseIdx k) ?_,rw',q⟩
 ·show its.toArray.eraseIdxIfInBounds k=(its.eraseIdx k).toArray
  rw [List.eraseIdxIfInBounds_toArray]
 ·have:=GZ xs k
  omega
inductive Vc (x:V) (y:V) (H:Hp) (Q:VK):Prop where
 | mk:∀l b xs zs,x=.ref l->y=.ref b->H l=some (.lst xs)->H b=some (.lst zs)->xs.length+zs.length<=sizeLine->(∀p,H p=none->Q (.ref p) (upd H p (.lst (xs ++ zs))))->Vc x y H Q
noncomputable def ZR:R2:=fun x y H Q=>Vc x y H Q
theorem Lr:uK X (binaryOp .Add) ZR:=by
 intro pins s σ H x y v u Q I rx ry h
 obtain⟨l,b,xs,zs,rfl,rfl,hH,hB,hz,q⟩:=h
 cases rx
 cases ry
 obtain⟨z,its,n,r,hl,e⟩:=I.lstM hH
 obtain⟨z2,its2,n2,r2,hl2,e2⟩:=I.lstM hB
 refine PySem.P.add_list e e2 ?_ (by rw [List.size_toArray,List.size_toArray];omega)
 have ea:its.toArray ++ its2.toArray=(its ++ its2).toArray:=by simp
 rw [ea]
 exact⟨.ref _,_,I.lnew (t':=s.toks) (r.append r2) (by rw [List.length_append];omega),rfl,q _ I.fresh⟩
inductive Uy (x:V) (y:V) (H:Hp) (Q:VK):Prop where
 | mk:∀l k xs,x=.ref l->y=.int k->H l=some (.lst xs)-> -(2 ^ 63)<=k->k <2 ^ 63->xs.length * k.toNat<=sizeLine->(∀p,H p=none->Q (.ref p) (upd H p (.lst (List.replicate k.toNat xs).flatten)))->Uy x y H Q
noncomputable def ZJ:R2:=fun x y H Q=>Uy x y H Q
theorem len_rep {α:Type} (xs:List α) (k:Nat):(List.replicate k xs).flatten.length=k * xs.length:=by
 induction k with
 | zero=>simp
 | succ k ih=>rw [List.replicate_succ,List.flatten_cons,List.length_append,ih,Nat.succ_mul,Nat.add_comm]
theorem W0:uK X (binaryOp .Mult) ZJ:=by
 intro pins s σ H x y v u Q I rx ry h
 obtain⟨l,k,xs,rfl,rfl,hH,h1,h2,hz,q⟩:=h
 cases rx
 obtain⟨t,rfl⟩:=ry
 obtain⟨z,its,n,r,hl,e⟩:=I.lstM hH
 have hlen:its.toArray.size * k.toNat<=sizeLine:=by rw [List.size_toArray,<-hl];exact hz
 have hcap:¬its.toArray.size * k.toNat >(2 ^ 63 - 1) / 8:=by
  have:(sizeLine:Nat)<=(2 ^ 63 - 1) / 8:=by decide
  omega
 have hfit:¬(!Builtin.List.listFitsIndex k)=true:=by
  rw [fitsIndex_both h1 h2]
  exact Bool.false_ne_true
 have hlong:¬Builtin.List.listTooLong (its.toArray.size * k.toNat)=true:=by
  rw [J4 hlen]
  exact Bool.false_ne_true
 have hnew:List.foldl (fun x1 x2=>x1 ++ x2) #[] (List.replicate (if its.toArray.isEmpty=true then 0 else k.toNat) its.toArray)=(List.replicate k.toNat its).flatten.toArray:=by
  have f0:∀m:Nat,List.foldl (fun x1 x2=>x1 ++ x2) #[] (List.replicate m its.toArray)=(List.replicate m its).flatten.toArray:=fun m=>by
   have:=foldl_rep its m []
   rw [List.nil_append] at this
   exact this
  rw [f0]
  cases its with
  | nil=>simp
  | cons a r'=>rw [if_neg (by simp)]
 refine wpAny_binaryOp_repeat_ref (T:= "list") (U:= "int") (by decide) ⟨_,e,rfl⟩ (fun s'=>typeIs_int s' k t) noFill_list_mul F.fills_int_mul F.slot_int_rmul repeat_list F.slot_int_index.lookup
  (call_meets F.slot_int_rmul (typeIs_int s k t) F.entry_int_rmul (F.args_int_rmul_2 _ _) (int___rmul___int_list k t l its.toArray n)
   ⟨e,rfl,⟨_,e,rfl⟩,call_meets F.slot_list_mul ⟨_,e,rfl⟩ F.entry_list_mul (F.args_list_mul_2 _ _) (AutoListH.list___mul___list_int_3 l its.toArray n k t hfit hcap hlong) ⟨e,?_⟩⟩)
 rw [hnew]
 exact⟨.ref _,_,I.lnew (t':=s.toks) (r.rep k.toNat) (by rw [len_rep,Nat.mul_comm];exact hz),rfl,q _ I.fresh⟩
end
section
variable {prog:Program} {w:World} {A:Around} {E:Value->Shared->Prop} {s:Shared}
end
section
variable {X:Cx}
end
end L2
namespace Att
open PySem PySem.W PySem.Calls PyProof.Rows
theorem Bo {P:Params} {h:Heap}:∀(ns:List Int) (vs:List Value),WellAll P h vs (ns.map WData.int)->IntsAre vs ns:=by
 intro ns
 induction ns with
 | nil=>
  intro vs w
  rw [List.map_nil] at w
  cases w
  exact .nil
 | cons n ns ih=>
  intro vs w
  rw [List.map_cons] at w
  cases w with
  | cons a b=>
   cases a
   exact .cons _ _ (ih _ b)
theorem Ov {l:OpenLaw} {n:Nat} (hn:l.most=some n) {P:Params} {h:Heap} {args:List WData} {vals:List Value}
  (hpre:l.row.toRowW.claim.pre args=true) (hwl:WellAll P h vals args):
  ∃a vs ns,vals=[Value.ref a]/\args=[WData.list (ns.map WData.int)]/\h.get? a=some { cls:=.type "list",data:=.seq vs.toArray }/\IntsAre vs ns/\ns.length<=n:=by
 have hsh:WShape.hasAll [] args [.list .int]=true:=(pre_splitW hpre).1
 have hc:l.pre.holds [] { args:=args }=true:=(pre_splitW hpre).2
 obtain⟨d,r,rfl,h1,h2⟩:=hasAllW_cons hsh
 obtain rfl:=hasAllW_nil h2
 obtain⟨xs,rfl,h3⟩:=hasW_list h1
 obtain⟨ns,rfl⟩:=items_int h3
 have hlen:ns.length<=n:=by
  unfold OpenLaw.pre at hc
  have h4:(WTm.not (.lt (.lit (.int (n:Int))) (.len (.arg 0)))).holds [] { args:=[.list (ns.map .int)] }=true:=by
   have h4:=(holds_andW hc).1
   rw [hn] at h4
   exact h4
  have h5:=condW_of h4 (w_not (w_lt w_lit (w_len_list (w_arg rfl))))
  rw [List.length_map] at h5
  refine Nat.le_of_not_lt fun q=>?_
  have q':(n:Int) <((ns.length:Nat):Int):=by omega
  first
   | (rw [decide_eq_true q'] at h5;exact absurd h5 (by decide))
   | (simp at h5;omega)
 cases hwl with
 | cons w1 w2=>
  cases w2
  cases w1 with
  | list ho hall=>exact⟨_,_,ns,rfl,rfl,ho,Bo ns _ hall,hlen⟩
theorem Pj (l:OpenLaw) (args:List WData):l.row.toRowW.claim.post args (.bool true) args=true:=
 postW_of (r:=l.row.toRowW) (X:=(true == true))
  (show WShape.has [] (.bool true) .bool=true by first | rfl | decide | simp [WShape.has,WShape.arms,WShape.armsAll])
  (show(WTm.eq .res (.lit (.bool true))).value [] { args:=args,res:=some (.bool true),after:=args }=some (.bool (true == true)) from w_eq_bool (w_res rfl) w_lit) rfl
theorem JV {l:OpenLaw} {n:Nat} {q:Program} {loose:List Str} {XP:(Str->Option Value)->Heap->Prop} {YP:World->Heap->Prop} {d:DefRec}
  (hn:l.most=some n) (hdf:d.params.defaults=[])
  (call:∀(w:World) (s₀ s₁:Shared) (mg mb:Str->Option Value) (fa:Addr) (o:Obj) (pm cd doc:Value) (a:Addr) (vs:List Value) (ns:List Int),
   Ground q loose [] XP w s₀ mg mb s₁.heap->YP w s₁.heap->
   s₁.heap.get? fa=some o->o.data=.func (docDef d.name d.params d.body d.scope pm cd doc)->s₁.heap.CodeRec cd d.name->mg d.name=some (.ref fa)->
   s₁.heap.get? a=some { cls:=.type "list",data:=.seq vs.toArray }->IntsAre vs ns->ns.length<=n->s₁.gens= #[]->
   codeAny (model l.prog w) callerA (.call (.ref fa) ⟨[.ref a],[]⟩) (fun r s'=>r=.ok (.ret (.bool true))/\OldK s₁.heap s'.heap/\s'.os=s₁.os/\AllBare s'.gens) s₁):
  WalkO q loose XP YP l.row.toRowW d [] (fun f vs=>PySem.call f vs):=by
 intro w s₀ s₁ mg mb G Y fa o pm cd doc dV kV ho hd hcd hD hmg hg args vals as hpre hlay hrd hwl hlo
 obtain rfl:dV=.none:=Dflts.none hD hdf
 obtain rfl:kV=.none:=Dflts.noKw hD
 obtain⟨a,vs,ns,rfl,rfl,hobj,hints,hlen⟩:=Ov hn hpre hwl
 refine enter_call (codeAny_mono (call w s₀ s₁ mg mb fa o pm cd doc a vs ns G Y ho (fd_plain hd) hcd hmg hobj hints hlen hg) fun r s' hq=>?_)
 obtain⟨rfl,h2,h3,h4⟩:=hq
 exact⟨.inl ⟨.bool true,.bool true,[],rfl,fun _=>rfl,.bool true,Pj l _,fun _=>⟨List.Pairwise.nil,fun _ hm=>(nomatch hm)⟩⟩,h2,h3,h4⟩
section
variable {prog:Program} {w:World} {A:Around} {E:Value->Shared->Prop} {s:Shared} {K:Frag}
end
end Att
namespace L2
open PySem PySem.Spec PyProof.Rows
theorem Ft:∀{vs:List Value} {ns:List Int},IntsAre vs ns->Vals (ns.map V.int) vs
 | _,_,.nil=>.nil
 | _,_,.cons n t h=>.cons ⟨t,rfl⟩ (Ft h)
noncomputable def Only (H:Hp):Prop:=∀b,H b=none∨∃o xs,H b=some (.frz o (.lst xs))
theorem Rt {P:Program} {w:World} {K:PySem.W.Frag} {mg mb:Str->Option Value} {CX:FQ} {k:Nat} {fa a:Addr} {fd:FuncData} {x:Str} {sp:Sp} {s₁:Shared} {vs:List Value} {ns:List Int}
  (KX:K.In s₁.heap) (hns:s₁.heap.Ns mainGlobals mg) (hb:s₁.heap.Ns builtinsNs mb) (hbb:∀x:Str,x≠ "__name__" ->mb x=bootBuiltins x) (hlim:s₁.heap.NoLimit) (hg:s₁.gens= #[])
  (ha:s₁.heap.get? a=some { cls:=.type "list",data:=.seq vs.toArray }) (hi:IntsAre vs ns) (hl:ns.length<=sizeLine) (hr:jq k callerA)
  (F:∀base:Heap,K.In base->base.Ns mainGlobals mg->iM P w K mg base CX k fa fd [x] sp) (hbind:∀(s:Shared) (u:Value),BindsTo s fd ⟨[u],[]⟩ [(x,u)])
  (hsp:∀H:Hp,Only H->bI K H a (ns.map V.int)->sp [.ref a] H (fun v _=>v=.bl true) fun _ _ _=>False)
  (hCX:∀H e s',CX [] H s₁ (fun _ _ _=>False) e s'->False):
  codeAny (model P w) callerA (.call (.ref fa) ⟨[.ref a],[]⟩) (fun r s'=>r=.ok (.ret (.bool true))/\OldK s₁.heap s'.heap/\s'.os=s₁.os/\AllBare s'.gens) s₁:=by
 have rv:=Ft hi
 have lenV:=hi.length
 have core:∀H:Hp,Only H->bI K H a (ns.map V.int)->vf P w H s₁.heap->(∀b,H b≠none->b=a)->(H a≠none->K.lookup a=none)->
   codeAny (model P w) callerA (.call (.ref fa) ⟨[.ref a],[]⟩) (fun r s'=>r=.ok (.ret (.bool true))/\OldK s₁.heap s'.heap/\s'.os=s₁.os/\AllBare s'.gens) s₁:=by
  intro H hO hS hok hA hK
  have base_of:∀{b:Addr} {o:Obj},s₁.heap.get? b=some o->H b=none->(Jk s₁.heap H).get? b=some o:=fun e n=>Qw e n
  have noA:∀{b:Addr} {o:Obj} {es:Array DictEntry} {ep:Nat},s₁.heap.get? b=some o->o.data=.dict es ep->H b=none:=fun {b o es ep} e d=>by
   cases q:H b with
   | none=>rfl
   | some u=>
    have e':b=a:=hA b (by rw [q];simp)
    subst e'
    rw [ha] at e;cases e
    have d':Data.seq vs.toArray _=Data.dict es ep:=d
    cases d'
  have Py:∀{b:Addr} {m:Str->Option Value},s₁.heap.Ns b m->(Jk s₁.heap H).Ns b m:=fun {b m} ⟨o,es,ep,e,d,r⟩=>⟨o,es,ep,base_of e (noA e d),d,r⟩
  have hKb:K.In (Jk s₁.heap H):=fun b o e=>base_of (KX b o e) (by
   cases q:H b with
   | none=>rfl
   | some u=>
    have e':b=a:=hA b (by rw [q];simp)
    subst e'
    rw [hK (by rw [q];simp)] at e;cases e)
  have hM:Mod K mg (Jk s₁.heap H):=⟨hKb,Py hns,⟨mb,Py hb,hbb⟩,let ⟨mc,h1,h2⟩:=hlim;⟨mc,Py h1,h2⟩⟩
  have e0:Mm P w K mg (Jk s₁.heap H) callerA [] s₁ H:=⟨rfl,hM,fun b o e=>Ub e,Nat.le_of_eq (Oo _ _),trivial,fun b hb=>absurd (show b∈([]:List Addr) from hb) (by simp),hok,.of_eq hg⟩
  refine codeAny_mono ((F _ hKb (Py hns)).run callerA [] s₁ H ⟨[.ref a],[]⟩ [.ref a] [.ref a] _ _ hr e0 (hbind s₁ (.ref a)) (.cons rfl .nil) (hsp H hO hS)) fun r s' h=>?_
  cases r with
  | error e=>exact(hCX H e s' h).elim
  | ok fl=>
   cases fl with
   | next=>exact False.elim h
   | brk=>exact False.elim h
   | cont=>exact False.elim h
   | ret u=>
    obtain⟨v,H',os,bare,un,hok',r',q⟩:=h
    have q':v=.bl true:=q
    subst q'
    obtain rfl:u=Value.bool true:=r'
    refine⟨rfl,OldK.of_keep fun b o e=>?_,os,bare⟩
    cases q:H b with
    | none=>exact un.keep b o e q (by intro z;exact absurd (show b∈([]:List Addr) from z) (by simp)) (by simp)
    | some u=>
     rcases hO b with z | ⟨ob,xs,z⟩
     ·rw [q] at z;cases z
     ·have z2:=un.frzs b ob _ z
      obtain⟨e1,_⟩:=hok b _ z
      obtain⟨e2,_⟩:=hok' b _ z2
      rw [e] at e1;cases e1
      exact e2
 cases hk:K.lookup a with
 | some o=>
  have e:=KX a o hk
  rw [ha] at e
  cases e
  refine core (fun _=>none) (fun _=>.inl rfl) (.inr ⟨_,vs.toArray,_,hk,rfl,rfl,rfl,by rw [List.size_toArray,lenV];exact hl,by simpa using rv⟩) (fun b u z=>by have z':(none:Option HO)=some u:=z;cases z') (fun b z=>absurd rfl z) fun z=>absurd rfl z
 | none=>
  refine core (fun b=>if b=a then some (.frz { cls:=.type "list",data:=.seq vs.toArray } (.lst (ns.map V.int))) else none) (fun b=>?_) (.inl (.inr ⟨{ cls:=.type "list",data:=.seq vs.toArray },if_pos rfl⟩)) (fun b u z=>?_) (fun b z=>?_) fun _=>hk
  ·by_cases hb:b=a
   ·exact .inr ⟨_,_,if_pos hb⟩
   ·exact .inl (if_neg hb)
  ·by_cases hb:b=a
   ·have z':=(if_pos hb).symm.trans z
    cases z'
    subst hb
    exact⟨ha,by rw [List.length_map];exact hl,vs,_,rv,ha⟩
   ·have z':=(if_neg hb).symm.trans z
    cases z'
  ·by_cases hb:b=a
   ·exact hb
   ·exact absurd (if_neg hb) z
theorem Tv {l:PySem.W.OpenLaw} {n k:Nat} {q:Program} {loose:List Str} {XP:(Str->Option Value)->Heap->Prop} {YP:World->Heap->Prop} {d:DefRec} {K:Params->PySem.W.Frag} {CX:World->FQ} {sp:World->Sp} {x:Str}
  (hn:l.most=some n) (hn2:n<=sizeLine) (hdf:d.params.defaults=[]) (hr:jq k callerA)
  (hY:∀(w:World) (h:Heap),YP w h->(K w.params).In h)
  (F:∀(w:World) (mg:Str->Option Value) (fa:Addr) (h:Heap),(K w.params).In h->h.Ns mainGlobals mg->mg d.name=some (.ref fa)->
   ∃fd:FuncData,(∀(s:Shared) (u:Value),BindsTo s fd ⟨[u],[]⟩ [(x,u)])/\
    ∀base:Heap,(K w.params).In base->base.Ns mainGlobals mg->iM l.prog w (K w.params) mg base (CX w) k fa fd [x] (sp w))
  (hsp:∀(w:World) (H:Hp) (a:Addr) (ns:List Int),ns.length<=n->Only H->bI (K w.params) H a (ns.map V.int)->sp w [.ref a] H (fun v _=>v=.bl true) fun _ _ _=>False)
  (hCX:∀(w:World) (H:Hp) (s:Shared) (e:Value) (s':Shared),CX w [] H s (fun _ _ _=>False) e s'->False):
  PySem.W.WalkO q loose XP YP l.row.toRowW d [] (fun f vs=>PySem.call f vs):=by
 refine Att.JV hn hdf fun w s₀ s₁ mg mb fa o pm cd doc a vs ns G Y ho hd hcd hmg hobj hints hlen hg=>?_
 have KX:=hY w _ Y
 obtain⟨fd,hb,hF⟩:=F w mg fa _ KX G.T.g hmg
 exact Rt KX G.T.g G.T.b G.T.builtins G.T.nolimit hg hobj hints (Nat.le_trans hlen hn2) hr hF hb (fun H hO hS=>hsp w H a ns hlen hO hS) fun H e s'=>hCX w H s₁ e s'
noncomputable def inClass (s:Stmt) (j:Nat):Stmt:=match s with
 | .ClassDef _ _ _ body _ _ _ _ _ _ _=>body.getD j (.Pass ⟨0,0,0,0⟩)
 | _=>.Pass ⟨0,0,0,0⟩
noncomputable def jh (s:Stmt):Arguments:=match s with
 | .FunctionDef _ a _ _ _ _ _ _ _ _=>a
 | _=>{ posonlyargs:=[],args:=[],vararg:=none,kwonlyargs:=[],kw_defaults:=[],kwarg:=none,defaults:=[] }
noncomputable def gM (s:Stmt):List Stmt:=match s with
 | .FunctionDef _ _ b _ _ _ _ _ _ _=>b
 | _=>[]
noncomputable def bc (s:Stmt):Scope:=match s with
 | .FunctionDef _ _ _ _ _ _ sc _ _ _=>sc
 | _=>{ kind:=.function,names:=[],isGenerator:=false,isCoroutine:=false }
noncomputable abbrev CP:FQ:=fun _ _ _ _ _ _=>False
noncomputable abbrev E0:XK:=fun _ _ _=>False
theorem iy {X:Cx}:qW CP X E0:=fun _ _ _ _ _ _ _ h=>h.elim
structure Vw (K:PySem.W.Frag) (x qual:Str) (st:Stmt) (f:Addr) (fd:FuncData):Prop where
 ex:∃(oc:Value) (od:Option Addr) (kV doc pm:Value) (an:Option Addr) (cdv ct:Value) (osl:Array (Option Value)),
  fd=PySem.W.fnOf x qual (jh st) (gM st) (bc st) .none kV doc pm an cdv ct/\K.lookup f=some ⟨oc,od,.func fd,osl⟩/\PySem.W.codeIn K cdv qual=true
 kp:PySem.W.keepIn K (.ref f)=true
section
variable {P:Program} {w:World} {K:PySem.W.Frag} {mg:Str->Option Value} {base:Heap}
theorem Vw.ok {x qual:Str} {st:Stmt} {f:Addr} {fd:FuncData} {N ps:List Str} {k:Nat} {sp:Sp} (F:Vw K x qual st f fd) (S:fG N ps (bc st)) (len:∀vs H Q E,sp vs H Q E->vs.length=ps.length)
  (hbody:∀(cdv:Value) (A:Around) (outer:List Env) (s:Shared) (H:Hp) (vs:List V) (Q:VK) (E:XK),jq k (A.deeper (envOfC qual (bc st) s.heap.objs.size f cdv))->sp vs H Q E->
   ∃t,MP (K3 CP P w K mg base N qual (bc st) f cdv A outer s H E).nox (gM st) t/\t { nx:=fun _ H'=>Q .non H',rt:=Q } (start N vs) H):iM P w K mg base CP (k+1) f fd ps sp:=by
 obtain⟨oc,od,kV,doc,pm,an,cdv,ct,osl,rfl,lk,hcd⟩:=F.ex
 refine Vd lk hcd S len fun A outer s H vs Q E hr hsp=>?_
 obtain⟨t,h,q⟩:=hbody cdv A outer s H vs Q E hr hsp
 exact⟨t,h.nox,q⟩
theorem Vw.binds {x qual:Str} {st:Stmt} {f:Addr} {fd:FuncData} {ps:List Str} (F:Vw K x qual st f fd)
  (h:∀(kV doc pm:Value) (an:Option Addr) (cdv ct:Value) (us:List Value),us.length=ps.length->bindArgs (PySem.W.fnOf x qual (jh st) (gM st) (bc st) .none kV doc pm an cdv ct) ⟨us,[]⟩=pure (ps.zip us)):Binds K fd ps []:=by
 obtain⟨oc,od,kV,doc,pm,an,cdv,ct,osl,rfl,lk,hcd⟩:=F.ex
 exact .all (h kV doc pm an cdv ct)
theorem Wl {x qual:Str} {st:Stmt} {f:Addr} {oc:Value} {od an:Option Addr} {osl:Array (Option Value)} {kV doc pm cdv ct:Value} (l:K.lookup f=some ⟨oc,od,.func (PySem.W.fnOf x qual (jh st) (gM st) (bc st) .none kV doc pm an cdv ct),osl⟩)
  (c:PySem.W.codeIn K cdv qual=true) (k:PySem.W.keepIn K (.ref f)=true):Vw K x qual st f (PySem.W.fnOf x qual (jh st) (gM st) (bc st) .none kV doc pm an cdv ct):=⟨⟨oc,od,kV,doc,pm,an,cdv,ct,osl,rfl,l,c⟩,k⟩
end
section
variable {X:Cx}
theorem pv (i:Nat) {x:Str} {pos:Pos} (hN:X.N[i]?=some x:=by rfl) (hv:YZ X.env.scope x:=by first | exact Or.inl rfl | exact Or.inr (Or.inl rfl) | exact Or.inr (Or.inr rfl)) (hd:(x == ("__debug__" :Str))=false:=by decide)
  (hcd:(x == ("__classdict__" :Str))=false:=by decide):PE X (.Name x pos) (Yt i):=V0 hN hv hd hcd
end
theorem dz {A B:Prop} (h:B):if false=true then A else B:=by
 rw [if_neg Bool.false_ne_true]
 exact h
theorem gj {A B:Prop} (h:A):if true=true then A else B:=by
 rw [if_pos rfl]
 exact h
theorem jy {c A B:Prop} [Decidable c] (h1:c->A) (h2:¬c->B):if c then A else B:=by
 by_cases h:c
 ·rw [if_pos h]
  exact h1 h
 ·rw [if_neg h]
  exact h2 h
theorem Yb {c A B:Prop} [Decidable c] (hc:c) (h:B):if (!decide c)=true then A else B:=by
 rw [decide_eq_true hc]
 exact dz h
noncomputable def aM (H H':Hp):Prop:=∀b o,H b=some o->H' b=some o
theorem aM.refl (H:Hp):aM H H:=fun _ _ h=>h
theorem aM.trans {H H1 H2:Hp} (a:aM H H1) (b:aM H1 H2):aM H H2:=fun c o h=>b c o (a c o h)
theorem aM.free {H H':Hp} (e:aM H H') {l:Addr} (h:H' l=Option.none):H l=Option.none:=by
 cases q:H l with
 | none=>rfl
 | some o=>
  rw [e l o q] at h
  cases h
theorem aM.seq {K:PySem.W.Frag} {H H':Hp} {a:Addr} {xs:List V} (e:aM H H') (h:bI K H a xs):bI K H' a xs:=by
 rcases h with (h | ⟨o,h⟩) | h
 ·exact .inl (.inl (e _ _ h))
 ·exact .inl (.inr ⟨o,e _ _ h⟩)
 ·exact .inr h
end L2
set_option maxHeartbeats 4000000
namespace L2
open PySem PySem.Spec PyProof.Rows
theorem Oq {P:Program} {w:World} {H:Hp} {h:Heap} {a:Addr} {o:HO} (x:vf P w H h) (hn:H a=none) (new:fY P w (upd H a o) h a o):vf P w (upd H a o) h:=fun b u e=>by
 by_cases hb:b=a
 ·subst hb;rw [az] at e;cases e;exact new
 ·rw [aH hb] at e
  exact(x b u e).stay (fun c v _ q=>q) (fun c q=>by rw [aH (aF q hn)];exact q) fun c xs q=>by rw [aH (aF q hn)];exact q
theorem DX {α β:Type} {f:α->β->Sem (ForInStep β)} (g:α->β->β):∀(l:List α) (c:β),(∀x∈l,∀c,f x c=pure (.yield (g x c)))->forIn l c f=pure (l.foldl (fun c x=>g x c) c)
 | [],_,_=>rfl
 | x:: l,c,h=>by
  rw [List.forIn_cons,h x List.mem_cons_self,pure_bind]
  exact DX g l (g x c) fun y hy=>h y (List.mem_cons_of_mem _ hy)
noncomputable def wM (env:Env) (x:Str×NameKind) (cs:List (Str×Addr)):List (Str×Addr):=
 if x.2=.free then(match env.cells.lookup x.1 with | some c=>(x.1,c):: cs | none=>cs) else cs
noncomputable def clos (env:Env) (l:List (Str×NameKind)) (c:List (Str×Addr)):List (Str×Addr):=l.foldl (fun c x=>wM env x c) c
theorem lB {env:Env} {scope:Scope} (h:∀y∈scope.names,y.2=.free->∃c,env.cells.lookup y.1=some c):closureFor scope env=pure (clos env scope.names []):=by
 simp only [closureFor]
 rw [DX (wM env) scope.names [] fun x hx c=>?_]
 ·rfl
 ·obtain⟨n,k⟩:=x
  by_cases hk:k=.free
  ·subst hk
   obtain⟨a,ha⟩:=h _ hx rfl
   have ha':env.cells.lookup n=some a:=ha
   simp [cellOf,ha',wM]
  ·have:(k == NameKind.free)=false:=by simpa using hk
   simp [this,wM,hk]
theorem JM {env:Env}:∀(l:List (Str×NameKind)) (c:List (Str×Addr)),(∀y a,c.lookup y=some a->env.cells.lookup y=some a)->∀y a,(clos env l c).lookup y=some a->env.cells.lookup y=some a
 | [],_,h=>h
 | x:: l,c,h=>by
  refine JM l (wM env x c) fun y a e=>?_
  unfold wM at e
  by_cases hk:x.2=.free
  ·rw [if_pos hk] at e
   cases q:env.cells.lookup x.1 with
   | none=>rw [q] at e;exact h y a e
   | some b=>
    rw [q] at e
    by_cases hy:(y == x.1)=true
    ·have:y=x.1:=by simpa using hy
     subst this
     have e':((x.1,b):: c).lookup x.1=some a:=e
     simp [List.lookup_cons] at e'
     rw [q,e']
    ·have hy':(y == x.1)=false:=by simpa using hy
     have e':((x.1,b):: c).lookup y=some a:=e
     rw [List.lookup_cons,hy'] at e'
     exact h y a e'
  ·rw [if_neg hk] at e;exact h y a e
theorem CT {env:Env}:∀(l:List (Str×NameKind)) (c:List (Str×Addr)) (y:Str),((∃a,c.lookup y=some a)∨∃k∈l,k.1=y/\k.2=.free/\∃a,env.cells.lookup y=some a)->∃a,(clos env l c).lookup y=some a
 | [],_,_,h=>by
  rcases h with h | ⟨k,hk,_⟩
  ·exact h
  ·cases hk
 | x:: l,c,y,h=>by
  refine CT l (wM env x c) y ?_
  have up:(∃a,c.lookup y=some a)->∃a,(wM env x c).lookup y=some a:=fun⟨a,e⟩=>by
   unfold wM
   split
   ·split
    ·rename_i b q
     by_cases hy:(y == x.1)=true
     ·exact⟨b,by rw [List.lookup_cons,hy]⟩
     ·have hy':(y == x.1)=false:=by simpa using hy
      exact⟨a,by rw [List.lookup_cons,hy'];exact e⟩
    ·exact⟨a,e⟩
   ·exact⟨a,e⟩
  rcases h with h | ⟨k,hk,h1,h2,a,h3⟩
  ·exact .inl (up h)
  ·rcases List.mem_cons.mp hk with e | hk
   ·subst e
    left
    unfold wM
    rw [if_pos h2,h1,h3]
    exact⟨a,by simp [List.lookup_cons]⟩
   ·exact .inr ⟨k,hk,h1,h2,a,h3⟩
theorem ug (scope:Scope) (env:Env) (y:Str):(relabel scope env).names.lookup y=(scope.names.lookup y).map fun k=>if (k == NameKind.free && env.scope.kind == .function && env.kindOf y == some .cell)=true then .cell else k:=by
 show(scope.names.map _).lookup y=_
 induction scope.names with
 | nil=>rfl
 | cons p l ih=>
  obtain⟨n,k⟩:=p
  rw [List.map_cons]
  show List.lookup y ((if (k == NameKind.free && env.scope.kind == .function && env.kindOf n == some .cell)=true then(n,NameKind.cell) else(n,k)):: _)=_
  by_cases hy:(y == n)=true
  ·have:y=n:=by simpa using hy
   subst this
   by_cases hc:(k == NameKind.free && env.scope.kind == .function && env.kindOf y == some .cell)=true
   ·rw [if_pos hc]
    simp only [List.lookup_cons,beq_self_eq_true,Option.map_some]
    rw [if_pos hc]
   ·rw [if_neg hc]
    simp only [List.lookup_cons,beq_self_eq_true,Option.map_some]
    rw [if_neg hc]
  ·have hy':(y == n)=false:=by simpa using hy
   by_cases hc:(k == NameKind.free && env.scope.kind == .function && env.kindOf n == some .cell)=true
   ·rw [if_pos hc]
    simp only [List.lookup_cons,hy']
    exact ih
   ·rw [if_neg hc]
    simp only [List.lookup_cons,hy']
    exact ih
noncomputable def dI (N:List Str) (js:List Nat):List Str:=js.map fun j=>(N[j]?).getD Str.empty
noncomputable def dN (σ:St) (js:List Nat):St:=js.map fun j=>(σ[j]?).join
noncomputable def zE (X:Cx) (scope:Scope) (x:Str) (js:List Nat) (cl:List (Str×Addr)) (C:Addr) (s:Shared) (H:Hp) (ex:List Addr):Cx where
 prog:=X.prog
 w:=X.w
 K:=X.K
 mg:=X.mg
 base:=X.base
 A:=X.A
 N:=x:: dI X.N js
 s₀:=s
 H₀:=H
 env:=compEnvC scope cl C X.env
 outer:=X.stack
 stack:=X.stack
 ex:=ex
 fn:=fun _=>false
 calm:=X.calm
 pn:=[]
 xe:=fun _ _=>False
noncomputable def PF (X:Cx) (ifs:List Expr) (t:TT):Prop:=
 ∀(pins:List (Addr×Obj)) (s:Shared) (σ:St) (H:Hp) (Q:Bool->Hp->Prop),Inv X pins σ H s->t σ H Q->
  wpAny (model X.prog X.w) X.A (forIn ifs true fun c r=>if r=true then do let ok <-isTrue c X.env (eval c X.env);pure (ForInStep.yield ok) else pure (ForInStep.yield r)) (TP X pins σ Q) X.xe s
noncomputable def YQ:TT:=fun _ H Q=>Q true H
theorem jr {X:Cx}:PF X [] YQ:=fun _ _ _ H _ I h=>wpAny_pure ⟨H,I,h⟩
theorem wZ {X:Cx} {c:Expr} {t:TT} (hc:PT X c t):PF X [c] t:=by
 intro pins s σ H Q I h
 rw [List.forIn_cons,if_pos rfl]
 refine wpAny_bind (wpAny_bind (dJ (hc pins s σ H Q I h) fun b s1 q=>wpAny_pure ?_))
 show wpAny (model X.prog X.w) X.A (pure b) (TP X pins σ Q) X.xe s1
 exact wpAny_pure q
inductive CompEnd (js:List Nat) (tt:TT) (te:TE) (σ:St) (Qd:List V->Hp->Prop) (J:It) (H1:Hp):Prop where
 | mk:∀W:Nat->Nat->List V->Hp->Prop,((∃m,W 0 m [] H1))->(∀i m ys H2,W i m ys H2->
 (J.stop i H2/\ys.length<=sizeLine/\Qd ys H2)∨
 (J.go i H2/\ys.length <sizeLine/\∃N:List V->Hp->Prop,(∀ys' H',N ys' H'->∃m',m' <m/\W (i+1) m' ys' H')/\∀x H3,J.yld i H2 x H3->tt (some x:: dN σ js) H3 fun b H4=>
  if b=true then te (some x:: dN σ js) H4 fun y H5=>N (ys ++ [y]) H5 else N ys H4))->CompEnd js tt te σ Qd J H1
noncomputable def UL (js:List Nat) (wi:TI) (tt:TT) (te:TE):TE:=fun σ H Q=>wi σ H (CompEnd js tt te σ fun ys H2=>∀D,H2 D=none->Q (.ref D) (upd H2 D (.lst ys)))
section
variable {X:Cx} {x:Str} {px pos:Pos} {iter elt:Expr} {ifs:List Expr} {scope:Scope} {wi:TI} {tt:TT} {te:TE}
end
section
variable {X:Cx}
theorem jO:uK X (binaryOp .Mult) (rI IntMulOk fun i j=>.int (i * j)):=YH fun _ _ _ _ _ _ _ hc q=>mul_int q hc
noncomputable def UW (_ j:Int):Prop:=0 <j/\j.natAbs.log2 <9000
theorem J2:uK X (binaryOp .FloorDiv) (rI UW fun i j=>.int (i / j)):=YH fun i j _ _ _ _ _ hc q=>by
 have h1:(0:Int) <j:=hc.1
 exact floordiv_int (by omega) (by rw [Int.fdiv_eq_ediv_of_nonneg i (by omega)];exact q) (.inl (PyProof.noPylong_of_log2 hc.2))
theorem U8 {i j:Int} (h0:0 <j) (h:j.natAbs <2 ^ 9000):UW i j:=⟨h0,(Nat.log2_lt (by omega)).mpr h⟩
noncomputable def Y5 (K:PySem.W.Frag) (H:Hp) (x:V) (T:String):Prop:=match x with
 | .non=>T= "NoneType"
 | .bl _=>T= "bool"
 | .int _=>T= "int"
 | .str _=>T= "str"
 | .ref p=>(T= "list" /\∃xs,bI K H p xs)∨(T= "tuple" /\∃xs,eQ K H p xs)∨(T= "dict" /\∃kvs,H p=some (.dK kvs))
 | _=>False
noncomputable def J3 (a b:String):Bool:=a == b || (a == "bool" && b == "int")
noncomputable def Mz:List String:=["int", "bool", "str", "list", "tuple", "dict"]
noncomputable def qt:List String:=["NoneType", "bool", "int", "str", "list", "tuple", "dict"]
theorem RK:∀T∈Mz,PySem.W.kitMeta T=true:=by decide +kernel
theorem Tu:∀a∈qt,∀b∈Mz,(PySem.fastBuiltinMro a).map (·.contains (.type b))=some (J3 a b):=by decide +kernel
theorem Th (K:PySem.W.Frag) {a b:String} (ha:a∈qt) (hb:b∈Mz):PySem.W.kitOne K (.type a) (.type b)=some (J3 a b):=by
 unfold PySem.W.kitOne
 by_cases h:(Value.type a == Value.type b)=true
 ·rw [if_pos h]
  have e:a=b:=by
   have:=beq_iff_eq.mp h
   injection this
  subst e
  simp [J3]
 ·rw [if_neg h]
  show(if PySem.W.kitMeta b=true then PySem.W.subIn K (.type a) (.type b) else none)=_
  rw [if_pos (RK b hb)]
  exact Tu a ha b hb
theorem xU:mG X (.builtin "isinstance") (fun xs H Q=>∃x Tx T b,xs=[x,.ty T]/\Y5 X.K H x Tx/\T∈Mz/\J3 Tx T=b/\Q (.bl b) H):=by
 intro pins s σ H xs us Q I r h
 obtain⟨x,Tx,T,b,rfl,ty,hT,rfl,q⟩:=h
 obtain⟨u,w',rfl,rx,ry⟩:=vals2 r
 cases ry
 have fin:∀{b:Bool},b=J3 Tx T->∀tk,EP X pins σ Q (.bool b) { s with toks:=tk }:=fun e tk=>⟨.bl (J3 Tx T),H,I.tok tk,by rw [e];rfl,q⟩
 have go:∀{P:Heap->Prop},PySem.W.KitX X.K u (.type Tx) P->P s.heap->Tx∈qt->u≠.builtin "__main__.__loader__#opaque" ->wpAny (model X.prog X.w) X.A (call (.builtin "isinstance") [u,.type T]) (EP X pins σ Q) X.xe s:=fun Z p hm hx=>
  PySem.W.kia_one Z I.kIn p (Th X.K hm hT) hx fun tk=>fin rfl tk
 cases x with
 | non=>cases rx;cases (show Tx= "NoneType" from ty);exact go PySem.W.kitx_none trivial (by decide) (by intro e;cases e)
 | bl b=>cases rx;cases (show Tx= "bool" from ty);exact go PySem.W.kitx_bool trivial (by decide) (by intro e;cases e)
 | int i=>obtain⟨t,rfl⟩:=rx;cases (show Tx= "int" from ty);exact go PySem.W.kitx_int trivial (by decide) (by intro e;cases e)
 | str z=>obtain⟨t,rfl⟩:=rx;cases (show Tx= "str" from ty);exact go PySem.W.kitx_str trivial (by decide) (by intro e;cases e)
 | ref p=>
  cases rx
  rcases ty with ⟨rfl,ys,hq⟩ | ⟨rfl,ys,hq⟩ | ⟨rfl,kvs,hq⟩
  ·obtain⟨its,_,pl,_⟩:=I.list hq
   obtain⟨o,n,e,c,_,_⟩:=pl
   exact go PySem.W.kitx_list ⟨o,e,c⟩ (by decide) (by intro e;cases e)
  ·obtain⟨its,_,⟨o,e,c,_⟩,_⟩:=I.tuple hq
   exact go PySem.W.kitx_tuple ⟨o,e,c⟩ (by decide) (by intro e;cases e)
  ·obtain⟨_,_,_,_,o,_,_,e,ex,_⟩:=I.hok p _ hq
   exact go PySem.W.kitx_dict ⟨o,e,ex.1⟩ (by decide) (by intro e;cases e)
 | _=>exact(show False from ty).elim
inductive QT (K:PySem.W.Frag) (x:V) (xs:List V) (H:Hp) (Q:VK):Prop where
 | mk:∀z p ys,x=.str z->xs=[.ref p]->bI K H p (ys.map V.str)->(ys.map (·.length)).sum+ys.length * z.length<=16777216->Q (.str (Txt.join z ys)) H->QT K x xs H Q
noncomputable def rJoin (K:PySem.W.Frag):V->List V->Hp->VK->Prop:=fun x xs H Q=>QT K x xs H Q
theorem Ei:∀{ys:List Str} {us:List Value},Vals (ys.map V.str) us->StrsAre us ys
 | [],us,r=>by rw [List.map_nil] at r;cases r;exact .nil
 | y:: ys,us,r=>by
  rw [List.map_cons] at r
  cases r with
  | cons r1 r2=>
   obtain⟨t,e⟩:=r1
   subst e
   exact .cons y t (Ei r2)
theorem Su:Y9 X "str.join" (rJoin X.K):=by
 intro pins s σ H x xs v us Q I rx rs h
 obtain⟨z,p,ys,rfl,rfl,hq,hz,q⟩:=h
 obtain⟨t,rfl⟩:=rx
 obtain⟨u,rfl,ru⟩:=vals1 rs
 cases ru
 obtain⟨its,rv,pl,_⟩:=I.list hq
 exact join_list (items:=its.toArray) pl.isList (by simpa using Ei rv) hz fun t' k=>⟨.str (Txt.join z ys),H,I.tok k,⟨_,rfl⟩,q⟩
end
theorem Qf:bootBuiltins "int" =some (.type "int"):=by decide +kernel
theorem Tw:bootBuiltins "bool" =some (.type "bool"):=by decide +kernel
theorem RP:bootBuiltins "str" =some (.type "str"):=by decide +kernel
theorem j0:bootBuiltins "list" =some (.type "list"):=by decide +kernel
theorem xQ:bootBuiltins "tuple" =some (.type "tuple"):=by decide +kernel
theorem cH:bootBuiltins "len" =some (.builtin "len"):=by decide +kernel
theorem lD:bootBuiltins "isinstance" =some (.builtin "isinstance"):=by decide +kernel
theorem Q5:bootBuiltins "min" =some (.builtin "min"):=by decide +kernel
theorem Ej:bootBuiltins "max" =some (.builtin "max"):=by decide +kernel
theorem Ia:bootBuiltins "all" =some (.builtin "all"):=by decide +kernel
section
variable {X:Cx} {pos:Pos}
theorem jw {x:Str} {v:V} (hg:Gl X x) (hm:∃u,X.mg x=some u/\RelV v u) (hd:(x == ("__debug__" :Str))=false:=by decide):PE X (.Name x pos) (tC v):=by
 obtain⟨u,h1,h2⟩:=hm
 exact Hm hg h1 h2 hd
theorem BL {x:Str} {T:String} (hg:Gl X x) (hm:X.mg x=none) (hv:bootBuiltins x=some (.type T)) (hn:x≠ "__name__" :=by decide) (hd:(x == ("__debug__" :Str))=false:=by decide):PE X (.Name x pos) (tC (.ty T)):=
 Uk hg hm hv rfl hn hd
end
theorem jG {a b:Int} (h: -(2 ^ 64) <a/\a <2 ^ 64:=by decide):IntMulOk a b:=.of_left (intBits_le_64 h.1 h.2)
theorem Hf {a b:Int} (h: -(2 ^ 64) <b/\b <2 ^ 64:=by decide):IntMulOk a b:=.of_right (intBits_le_64 h.1 h.2)
inductive PP (t:TS) (D:Ends) (σ:St) (H:Hp):Prop where
 | mk:∀J:St->Hp->Prop,t { D with nx:=J } σ H->(∀σ' H',J σ' H'->D.nx σ' H')->PP t D σ H
noncomputable def Xo (t:TS):TS:=fun D σ H=>PP t D σ H
theorem fu {X:Cx} {st:Stmt} {t:TS} (h:PS X st t):PS X st (Xo t):=by
 intro pins s σ H D I hw
 obtain⟨J,h1,h2⟩:=hw
 refine dJ (h pins s σ H { D with nx:=J } I h1) fun f s1 q=>?_
 cases f with
 | next=>obtain⟨σ',H',I',q⟩:=q;exact⟨σ',H',I',h2 _ _ q⟩
 | ret v=>exact q
 | brk=>exact q
 | cont=>exact q
theorem bY {c A B:Prop} [Decidable c] (hc:¬c) (h:B):if decide c=true then A else B:=by rw [decide_eq_false hc];exact dz h
theorem kW {c A B:Prop} [Decidable c] (hc:c) (h:A):if decide c=true then A else B:=by rw [decide_eq_true hc];exact gj h
mutual
inductive Dt (K:PySem.W.Frag) (H:Hp):V->PyData->Prop
 | non:Dt K H .non .none
 | bl (b:Bool):Dt K H (.bl b) (.bool b)
 | int (i:Int):Dt K H (.int i) (.int i)
 | str (x:Str):Dt K H (.str x) (.str x)
 | list {p:Addr} {xs:List V} {ds:List PyData}:bI K H p xs->Rv K H xs ds->Dt K H (.ref p) (.list ds)
 | tuple {p:Addr} {xs:List V} {ds:List PyData}:eQ K H p xs->Rv K H xs ds->Dt K H (.ref p) (.tuple ds)
inductive Rv (K:PySem.W.Frag) (H:Hp):List V->List PyData->Prop
 | nil:Rv K H [] []
 | cons {x:V} {xs:List V} {d:PyData} {ds:List PyData}:Dt K H x d->Rv K H xs ds->Rv K H (x:: xs) (d:: ds)
end
section
variable {X:Cx} {pins:List (Addr×Obj)} {σ:St} {H:Hp} {s:Shared}
mutual
theorem Dt.reads (I:Inv X pins σ H s):∀{x:V} {d:PyData},Dt X.K H x d->∀{u:Value},RelV x u->∃as,Reads s.heap u d as
 | _,_,.non,_,r=>by cases r;exact⟨_,.none⟩
 | _,_,.bl b,_,r=>by cases r;exact⟨_,.bool b⟩
 | _,_,.int i,_,r=>by obtain⟨t,rfl⟩:=r;exact⟨_,.int i t⟩
 | _,_,.str x,_,r=>by obtain⟨t,rfl⟩:=r;exact⟨_,.str x t⟩
 | _,_,.list hq hd,_,r=>by
  cases r
  obtain⟨its,rv,⟨o,n,e,c,_,d⟩,_⟩:=I.list hq
  obtain⟨as,q⟩:=Rv.reads I hd rv
  exact⟨_,.list e c d (by simpa using q)⟩
 | _,_,.tuple hq hd,_,r=>by
  cases r
  obtain⟨its,rv,⟨o,e,c,n,d⟩,_⟩:=I.tuple hq
  obtain⟨as,q⟩:=Rv.reads I hd rv
  exact⟨_,.tuple e c d (by simpa using q)⟩
theorem Rv.reads (I:Inv X pins σ H s):∀{xs:List V} {ds:List PyData},Rv X.K H xs ds->∀{us:List Value},Vals xs us->∃as,ReadsAll s.heap us ds as
 | _,_,.nil,_,r=>by cases r;exact⟨_,.nil⟩
 | _,_,.cons h t,_,r=>by
  cases r with
  | cons r1 r2=>
   obtain⟨as,q⟩:=Dt.reads I h r1
   obtain⟨bs,q'⟩:=Rv.reads I t r2
   exact⟨_,.cons q q'⟩
end
inductive UJ (K:PySem.W.Frag) (x:V) (y:V) (H:Hp) (Q:VK):Prop where
 | mk:∀da db,Dt K H x da->Dt K H y db->SeqAt.shaped da=true->SeqAt.shaped db=true->Q (.bl (PyData.eqv da db)) H->UJ K x y H Q
noncomputable def Zu (K:PySem.W.Frag):R2:=fun x y H Q=>UJ K x y H Q
inductive U9 (K:PySem.W.Frag) (x:V) (y:V) (H:Hp) (Q:VK):Prop where
 | mk:∀da db,Dt K H x da->Dt K H y db->SeqAt.shaped da=true->SeqAt.shaped db=true->Q (.bl (!PyData.eqv da db)) H->U9 K x y H Q
noncomputable def Y8 (K:PySem.W.Frag):R2:=fun x y H Q=>U9 K x y H Q
theorem V6 (hu:X.A.units+64 <cLine):uK X (compareOp .Eq) (Zu X.K):=by
 intro pins s σ H x y v u Q I rx ry h
 obtain⟨da,db,h1,h2,s1,s2,q⟩:=h
 obtain⟨as,r1⟩:=h1.reads I rx
 obtain⟨bs,r2⟩:=h2.reads I ry
 exact eq_dataH r1 r2 s1 s2 hu (cX I q rfl)
theorem Ie (hu:X.A.units+64 <cLine):uK X (compareOp .NotEq) (Y8 X.K):=by
 intro pins s σ H x y v u Q I rx ry h
 obtain⟨da,db,h1,h2,s1,s2,q⟩:=h
 obtain⟨as,r1⟩:=h1.reads I rx
 obtain⟨bs,r2⟩:=h2.reads I ry
 exact ne_dataH r1 r2 s1 s2 hu (cX I q rfl)
end
noncomputable def YW (x:Str):It:=⟨fun i _=>i <x.cps.size,fun i H v H'=>H'=H/\∃c,x.cps[i]?=some c/\v=.str ⟨#[c]⟩,fun i _=>x.cps.size<=i⟩
theorem Km {P:Program} {w:World} {K:PySem.W.Frag} {tg:Expr} (it:Addr) (x:Str) (t:Tok) {ty:String} (hty:ty= "str_ascii_iterator" ∨ty= "str_iterator"):Turn P w K tg (YW x) [it] it (fun i h=>h.IsStrIter it ty x t i) where
 mem:=by simp
 obj:=fun i h st b hb=>by
  have e:b=it:=by simpa using hb
  subst e
  obtain⟨o,e,c,d⟩:=st
  exact⟨o,e,fun v z=>by rw [d] at z;cases z⟩
 keep:=fun i h h' st k=>by
  obtain⟨o,e,r⟩:=st
  exact⟨o,k it (by simp) o e,r⟩
 item:=by
  intro X hP hw hK hc i pins s σ H E I hf st hg
  subst hP hw hK
  obtain⟨f0,f1,f2,f3,f4,f5⟩:=hf it (by simp)
  have fin:∀(v:Value) (h':Heap) (tk:Nat),SignAt x i v->h'.IsStrIter it ty x t (i+1)->(∀b o,b∉[it]->s.heap.get? b=some o->h'.get? b=some o)->
    ∃u,some v=some u/\wpAny (model X.prog X.w) X.A (letOwnedTupleGo tg (.ref it) u) (fun _ s2=>∃x' H',Inv X pins σ H' s2/\RelV x' u/\(YW x).yld i H x' H'/\s2.heap.IsStrIter it ty x t (i+1)/\∀b∈[it],H' b=none) E { s with heap:=h',toks:=tk }:=by
   intro v h' tk hv st' kk
   obtain⟨c,u,hcc,rfl⟩:=hv
   have I1:Inv X pins σ H { s with heap:=h',toks:=tk }:=I.turned (fun b o hb e=>kk b o (by simpa using hb) e) f0 f1 f3 f4 f5
   obtain⟨o,e,c',d⟩:=id st'
   refine⟨_,rfl,Kc (s:={ s with heap:=h',toks:=tk }) (n:=ty) e c' d (by rcases hty with rfl | rfl <;> decide) ⟨.str ⟨#[c]⟩,H,I1,⟨u,rfl⟩,⟨rfl,c,hcc,rfl⟩,st',fun b hb=>(hf b hb).1⟩⟩
  rcases hty with rfl | rfl
  ·exact(Walks.strAscii (prog:=X.prog) (w:=X.w) (I.ok.hd hc) it x t).item i s _ _ hg st fun v h' tk hv st' kk=>fin v h' tk hv st' kk
  ·exact(Walks.strWide (prog:=X.prog) (w:=X.w) (I.ok.hd hc) it x t).item i s _ _ hg st fun v h' tk hv st' kk=>fin v h' tk hv st' kk
 done:=by
  intro X hP hw hK hc i pins s σ H E I hf st hg
  subst hP hw hK
  obtain⟨f0,f1,f2,f3,f4,f5⟩:=hf it (by simp)
  have hx:x.cps[i]?=none:=by
   have hg':x.cps.size<=i:=hg
   simp;omega
  rcases hty with rfl | rfl
  ·exact wpAny_pyNext_ascii_end (I.ok.hd hc) st hx fun h' eb=>⟨rfl,I.turned (t':=s.toks) (fun b o hb e=>eb b o hb e) f0 f1 f3 f4 f5⟩
  ·exact wpAny_pyNext_wide_end (I.ok.hd hc) st hx fun h' eb=>⟨rfl,I.turned (t':=s.toks) (fun b o hb e=>eb b o hb e) f0 f1 f3 f4 f5⟩
 self:=fun _ _ _ _ _ st h=>by
  rcases hty with rfl | rfl
  ·exact wpAny_pyIter_striter_ascii st h
  ·exact wpAny_pyIter_striter_wide st h
section
variable {X:Cx} {tg:Expr}
inductive Vg (R:It->Hp->Prop) (x:V) (H1:Hp):Prop where
 | mk:∀z,x=.str z->R (YW z) H1->Vg R x H1
noncomputable def Zx (tl:TE):TI:=fun σ H R=>tl σ H fun x H1=>Vg R x H1
theorem WP {l:Expr} {tl:TE} (hl:PE X l tl):PI X tg l (Zx tl):=by
 intro pins s σ H R I h
 refine dJ (hl pins s σ H _ I h) fun v s1 hpt=>?_
 obtain⟨x,H1,I1,r1,q1⟩:=hpt
 obtain⟨z,e,q⟩:=q1
 subst e
 obtain⟨t,rfl⟩:=r1
 cases ha:z.cps.all (· <128)
 ·refine wpAny_pyIter_wide ha ?_
  refine⟨s1.heap.objs.size,[s1.heap.objs.size],_,_,H1,rfl,I1.kept (t':=s1.toks) fun b o e=>Heap.get?_push_of_some _ e,Km _ z t (ty:= "str_iterator") (.inr rfl),⟨_,Heap.get?_push_size _ rfl,rfl,rfl⟩,fun b hb=>?_,q⟩
  have e:b=s1.heap.objs.size:=by simpa using hb
  subst e
  exact I1.fpOk (Nat.le_refl _) (I1.hok.fresh (Nat.le_refl _))
 ·refine wpAny_pyIter_ascii ha ?_
  refine⟨s1.heap.objs.size,[s1.heap.objs.size],_,_,H1,rfl,I1.kept (t':=s1.toks) fun b o e=>Heap.get?_push_of_some _ e,Km _ z t (ty:= "str_ascii_iterator") (.inl rfl),⟨_,Heap.get?_push_size _ rfl,rfl,rfl⟩,fun b hb=>?_,q⟩
  have e:b=s1.heap.objs.size:=by simpa using hb
  subst e
  exact I1.fpOk (Nat.le_refl _) (I1.hok.fresh (Nat.le_refl _))
end
theorem yes {A B:Hp->Prop} {σ:St} {H:Hp} (h:A H):YQ σ H (fun b H4=>if b=true then A H4 else B H4):=by
 show if true=true then A H else B H
 exact gj h
section
variable {js:List Nat} {tt:TT} {te:TE} {σ:St} {Qd:List V->Hp->Prop}
theorem kZ {lo:Int} {n:Nat} {H:Hp} (Pv:Nat->List V->Hp->Prop) (hn:n<=sizeLine) (h0:Pv 0 [] H) (hl:∀i ys H,Pv i ys H->ys.length<=i)
  (hs:∀i ys H,i <n->Pv i ys H->tt (some (.int (lo+i)):: dN σ js) H fun b H4=>if b=true then te (some (.int (lo+i)):: dN σ js) H4 fun y H5=>Pv (i+1) (ys ++ [y]) H5 else Pv (i+1) ys H4)
  (hd:∀ys H,Pv n ys H->Qd ys H):CompEnd js tt te σ Qd (Wq lo n) H:=by
 refine⟨fun i m ys H=>m=n - i/\i<=n/\Pv i ys H,⟨n,by simp,Nat.zero_le _,h0⟩,?_⟩
 rintro i m ys H ⟨rfl,hi,p⟩
 have hlen:=hl i ys H p
 by_cases hlt:i <n
 ·refine .inr ⟨hlt,by omega,Pv (i+1),fun ys' H' p'=>⟨n - (i+1),by omega,rfl,hlt,p'⟩,fun x H' y=>?_⟩
  obtain⟨e,y⟩:=y
  subst e y
  exact hs i ys _ hlt p
 ·have e:i=n:=by omega
  subst e
  exact .inl ⟨Nat.le_refl _,by omega,hd ys H p⟩
theorem jd {K:PySem.W.Frag} {a:Addr} {xs:List V} {H:Hp} (Pv:Nat->List V->Hp->Prop) (hn:xs.length<=sizeLine) (h0:Pv 0 [] H) (hl:∀i ys H,Pv i ys H->ys.length<=i) (hq:∀i ys H,i<=xs.length->Pv i ys H->bI K H a xs)
  (hs:∀i x ys H,xs[i]?=some x->Pv i ys H->tt (some x:: dN σ js) H fun b H4=>if b=true then te (some x:: dN σ js) H4 fun y H5=>Pv (i+1) (ys ++ [y]) H5 else Pv (i+1) ys H4)
  (hd:∀ys H,Pv xs.length ys H->Qd ys H):CompEnd js tt te σ Qd (Wt K a) H:=by
 refine⟨fun i m ys H=>m=xs.length - i/\i<=xs.length/\Pv i ys H,⟨xs.length,by simp,Nat.zero_le _,h0⟩,?_⟩
 rintro i m ys H ⟨rfl,hi,p⟩
 have hlen:=hl i ys H p
 have q:=hq i ys H hi p
 by_cases hlt:i <xs.length
 ·refine .inr ⟨⟨xs,xs[i],q,by simp [hlt]⟩,by omega,Pv (i+1),fun ys' H' p'=>⟨xs.length - (i+1),by omega,rfl,hlt,p'⟩,fun x H' y=>?_⟩
  obtain⟨e,y⟩:=y
  subst e
  exact hs i x ys _ (y xs q) p
 ·have e:i=xs.length:=by omega
  subst e
  exact .inl ⟨⟨xs,q,Nat.le_refl _⟩,by omega,hd ys H p⟩
theorem QJ {z:Str} {H:Hp} (Pv:Nat->List V->Hp->Prop) (hn:z.cps.size<=sizeLine) (h0:Pv 0 [] H) (hl:∀i ys H,Pv i ys H->ys.length<=i)
  (hs:∀i c ys H,z.cps[i]?=some c->Pv i ys H->tt (some (.str ⟨#[c]⟩):: dN σ js) H fun b H4=>if b=true then te (some (.str ⟨#[c]⟩):: dN σ js) H4 fun y H5=>Pv (i+1) (ys ++ [y]) H5 else Pv (i+1) ys H4)
  (hd:∀ys H,Pv z.cps.size ys H->Qd ys H):CompEnd js tt te σ Qd (YW z) H:=by
 refine⟨fun i m ys H=>m=z.cps.size - i/\i<=z.cps.size/\Pv i ys H,⟨z.cps.size,by simp,Nat.zero_le _,h0⟩,?_⟩
 rintro i m ys H ⟨rfl,hi,p⟩
 have hlen:=hl i ys H p
 by_cases hlt:i <z.cps.size
 ·refine .inr ⟨hlt,by omega,Pv (i+1),fun ys' H' p'=>⟨z.cps.size - (i+1),by omega,rfl,hlt,p'⟩,fun x H' y=>?_⟩
  obtain⟨e,c,hc,y⟩:=y
  subst e y
  exact hs i c ys _ hc p
 ·have e:i=z.cps.size:=by omega
  subst e
  exact .inl ⟨Nat.le_refl _,by omega,hd ys H p⟩
end
section
variable {X:Cx}
inductive U6 (x:V) (lo:Option Int) (hi:Option Int) (H:Hp) (Q:VK):Prop where
 | mk:∀z,x=.str z->z.length<=sizeLine->Q (.str (Txt.slice z lo hi)) H->U6 x lo hi H Q
noncomputable def Zd:V->Option Int->Option Int->Hp->VK->Prop:=fun x lo hi H Q=>U6 x lo hi H Q
theorem QZ:Ze X Zd:=by
 intro pins s σ H x v vl vu lo hi sl Q I rx hs pl pu h
 obtain⟨z,rfl,hz,q⟩:=h
 obtain⟨t,rfl⟩:=rx
 refine⟨"str",_,PySem.F.slot_str_getitem.lookup,typeIs_str _ _ _,?_⟩
 have fin:∀t' k,EP X pins σ Q (.str (Txt.slice z lo hi) t') { s with toks:=k }:=fun t' k=>⟨.str _,H,I.tok k,⟨_,rfl⟩,q⟩
 cases pl with
 | none=>
  cases pu with
  | none=>exact wpAny_getItem_str_slice (l:=none) (u:=none) (st:=none) hs rfl (post_val_or_str ⟨Nat.le_trans (Txt.slice_le z _ _) hz,fin⟩)
  | int j tj=>exact wpAny_getItem_str_slice (l:=none) (u:=some (j,tj)) (st:=none) hs rfl (post_val_or_str ⟨Nat.le_trans (Txt.slice_le z _ _) hz,fin⟩)
 | int i ti=>
  cases pu with
  | none=>exact wpAny_getItem_str_slice (l:=some (i,ti)) (u:=none) (st:=none) hs rfl (post_val_or_str ⟨Nat.le_trans (Txt.slice_le z _ _) hz,fin⟩)
  | int j tj=>exact wpAny_getItem_str_slice (l:=some (i,ti)) (u:=some (j,tj)) (st:=none) hs rfl (post_val_or_str ⟨Nat.le_trans (Txt.slice_le z _ _) hz,fin⟩)
theorem xT (hc:X.calm=true):mG X (.builtin "all") (fun xs H Q=>∃(p:Addr) (bs:List Bool),xs=[.ref p]/\bI X.K H p (bs.map V.bl)/\Q (.bl (bs.all id)) H):=by
 intro pins s σ H xs us Q I r h
 obtain⟨p,bs,rfl,hq,q⟩:=h
 obtain⟨u,rfl,rx⟩:=vals1 r
 cases rx
 obtain⟨its,rv,pl,_⟩:=I.list hq
 have hl:=pl.isList
 have hlt:p <s.heap.objs.size:=by obtain⟨_,e,_⟩:=hl;exact Heap.lt_size e
 have hb:∀i v,its[i]?=some v->∃b,bs[i]?=some b/\v=Value.bool b:=fun i v e=>by
  have hi:i <its.length:=(List.getElem?_eq_some_iff.mp e).1
  have hi':i <bs.length:=by have:=rv.length;rw [List.length_map] at this;omega
  obtain⟨u,e',r'⟩:=rv.get (i:=i) (x:=.bl bs[i]) (by rw [List.getElem?_map,List.getElem?_eq_getElem hi'];rfl)
  rw [e] at e'
  cases e'
  exact⟨bs[i],List.getElem?_eq_getElem hi',r'⟩
 refine call_all_walk (wpAny_pyIter_list hl ?_)
 refine⟨s.heap.objs.size,[s.heap.objs.size,p],[s.heap.objs.size],its.toArray.size,_,_,fun i=>(bs[i]?).getD true,rfl,Walks.list (A:=X.A.in1) (I.ok.hd hc) _ p (Nat.ne_of_lt hlt) its.toArray,
  ⟨⟨_,Heap.get?_push_size _ rfl,rfl,rfl⟩,hl.push _⟩,fun i v s' Q' E' hP hQ=>?_,fun h' tk hk=>?_⟩
 ·obtain⟨b,e,rfl⟩:=hb i v (by simpa using hP)
  simp only [e,Option.getD_some] at hQ
  exact wpAny_truthy_bool hQ
 ·have e:((List.range its.toArray.size).all fun i=>(bs[i]?).getD true)=bs.all id:=by
   have hlen:=rv.length
   rw [List.length_map] at hlen
   rw [List.size_toArray,<-hlen];exact LSm.range_all bs
  rw [e]
  exact⟨.bl _,H,I.kept (LSm.kept_iter hk),rfl,q⟩
end
end L2
namespace L2
open PySem PySem.StrLaws PySem.Builtin PySem.Builtin.Str
end L2
namespace L2
open PySem
theorem aB {H:L2.Hp} {p:Addr} {o:L2.HO} (hp:H p=none):L2.aM H (L2.upd H p o):=fun b o' e=>by rw [L2.aH (L2.aF e hp)];exact e
end L2
namespace L2
open PySem PySem.SeqAt
open AutoSeq1 (wpAny_loadPart')
open MeetsSeq MeetsSeq2 MeetsSeq3 SeqRoads2
section
variable {A:Around} {s:Shared}
end
open PySem.Spec PyProof.Rows
end L2
namespace L2
open PySem PySem.Spec PyProof.Rows
structure MethAt (P:Program) (w:World) (K:PySem.W.Frag) (mg:Str->Option Value) (base:Heap) (CX:FQ) (k:Nat) (C:Addr) (m:Str) (sp:Sp):Prop where
 ex:∃(f:Addr) (fd:FuncData) (ps:List Str),Oz K C/\Meth K C m f/\Binds K fd ps []/\iM P w K mg base CX k f fd ps sp
inductive NP (P:Program) (w:World) (K:PySem.W.Frag) (mg:Str->Option Value) (base:Heap) (CX:FQ) (k:Nat) (m:Str) (E:XK) (t:TA) (σ:St) (Q:VK) (x:V) (H1:Hp):Prop where
 | mk:∀a C dx fs sp,x=.ref a->H1 a=some (.ins C dx fs)->fs.lookup m=none->MethAt P w K mg base CX k C m sp->(t σ H1 fun vs H2=>sp (x:: vs) H2 Q E)->NP P w K mg base CX k m E t σ Q x H1
noncomputable def KY (P:Program) (w:World) (K:PySem.W.Frag) (mg:Str->Option Value) (base:Heap) (CX:FQ) (k:Nat) (m:Str) (E:XK) (ta:TE) (t:TA):TE:=fun σ H Q=>ta σ H fun x H1=>NP P w K mg base CX k m E t σ Q x H1
section
variable {X:Cx} {CX:FQ} {k:Nat} {E:XK} {m:Str} {pos apos:Pos} {e o:Expr} {es:List Expr} {ta:TE} {t:TA}
theorem zc {pl:Sem Bool} (he:PE X o ta) (hr:jq k X.A) (hx:qW CX X E) (ha:PA X (e:: es) t)
  (hst:starEach (e:: es) X.env=(false,eval e X.env):: starEach es X.env:=by rfl) (hpl:(backTo pos (starEach es X.env)).any (·.1)=false:=by rfl)
  (ht:eval (.Call (.Attribute o m apos) (e:: es) [] pos) X.env=(do
   let ov <-eval o X.env
   standAt apos.atName
   let (f,first) <-holding [ov] (getMethod ov m pl)
   callWith pos f first (backTo pos (starEach (e:: es) X.env)) (backToKw pos (keywordEach [] X.env))):=by rfl):
  PE X (.Call (.Attribute o m apos) (e:: es) [] pos) (KY X.prog X.w X.K X.mg X.base CX k m E ta t):=by
 intro pins s σ H Q I h
 refine PySem.W.methodCall_KW (pl:=pl) (dJ (he pins s σ H _ I h) fun u s1 hpt=>?_) ht
 obtain⟨x,H1,I1,rx,a,C,dx,fs,sp,ex,ea,l,⟨f,fd,ps,c,hm,hb,F⟩,q⟩:=hpt
 subst ex
 obtain rfl:u=Value.ref a:=rx
 refine sX I1 ea c hm l ?_
 refine PySem.W.callWith_K (first:=[.ref a]) (h₀:=X.base) I.ok.mod.kin hm.kp (dJ (ha pos pins s1 σ H1 _ I1 q) fun us s2 ⟨vs,H2,I2,r,q2⟩=>⟨I2.kIn,?_⟩) hst hpl
 exact El (us:=.ref a:: us) (vs:=.ref a:: vs) (ds:=[]) (dvs:=[]) F hr hb .nil hx I2 (.cons rfl r) (by rw [List.append_nil];exact q2)
theorem Gq {pl:Sem Bool} (he:PE X o ta) (hr:jq k X.A) (hx:qW CX X E)
  (ht:eval (.Call (.Attribute o m apos) [] [] pos) X.env=(do
   let ov <-eval o X.env
   standAt apos.atName
   let (f,first) <-holding [ov] (getMethod ov m pl)
   callWith pos f first (backTo pos (starEach [] X.env)) (backToKw pos (keywordEach [] X.env))):=by rfl):
  PE X (.Call (.Attribute o m apos) [] [] pos) (KY X.prog X.w X.K X.mg X.base CX k m E ta Rz):=by
 intro pins s σ H Q I h
 refine PySem.W.methodCall_KW (pl:=pl) (dJ (he pins s σ H _ I h) fun u s1 hpt=>?_) ht
 obtain⟨x,H1,I1,rx,a,C,dx,fs,sp,ex,ea,l,⟨f,fd,ps,c,hm,hb,F⟩,q⟩:=hpt
 subst ex
 obtain rfl:u=Value.ref a:=rx
 refine sX I1 ea c hm l ?_
 exact PySem.W.callWith_K0 (first:=[.ref a]) I1.kIn hm.kp (El (us:=[.ref a]) (vs:=[.ref a]) (ds:=[]) (dvs:=[]) F hr hb .nil hx I1 (.cons rfl .nil) (by rw [List.append_nil];exact q))
end
section
variable {X:Cx}
theorem Kl:bootBuiltins "range" =some (.type "range"):=by decide +kernel
theorem Bg:mG X (.type "range") (fun xs H Q=>∃j:Int,xs=[.int j]/\∀r,H r=none->Q (.ref r) (upd H r (.rng 0 j))):=by
 intro pins s σ H xs us Q I r h
 obtain⟨j,rfl,q⟩:=h
 obtain⟨u,rfl,t,rfl⟩:=vals1 r
 refine call_range_1 ⟨.ref s.heap.objs.size,upd H s.heap.objs.size (.rng 0 j),I.laid (fun b o e=>Heap.get?_push_of_some _ e) (Nat.le_refl _) ?_,rfl,q _ (I.hok.fresh (Nat.le_refl _))⟩
 exact⟨_,_,_,Heap.get?_push_size _ rfl⟩
noncomputable def Sh (n:Nat):List V:=(List.range n).map fun i=>V.int (i:Nat)
theorem Uq (n:Nat):(Sh n).length=n:=by simp [Sh]
theorem Qo:∀(n:Nat) (us:List Value),us.length=n->(∀(j:Nat) (v:Value),us[j]?=some v->∃t,v=.int (j:Nat) t)->Vals (Sh n) us:=by
 intro n
 induction n with
 | zero=>intro us hl _;cases us with | nil=>exact .nil | cons _ _=>cases hl
 | succ n ih=>
  intro us hl h
  have e1:Sh (n+1)=Sh n ++ [V.int (n:Nat)]:=by simp [Sh,List.range_succ]
  have hn:n <us.length:=by omega
  have e2:us=us.take n ++ [us[n]]:=by
   have:=List.take_append_drop n us
   rw [List.drop_eq_getElem_cons hn] at this
   rw [List.drop_eq_nil_of_le (by omega)] at this
   exact this.symm
  rw [e1,e2]
  refine Vals.append (ih _ (by simp;omega) fun j v e=>?_) (.cons ?_ .nil)
  ·rw [List.getElem?_take] at e
   split at e
   ·exact h j v e
   ·cases e
  ·obtain⟨t,e⟩:=h n us[n] (by simp [hn])
   exact⟨t,e⟩
theorem wX (hc:X.calm=true):mG X (.type "list") (fun xs H Q=>∃(r:Addr) (n:Nat),xs=[.ref r]/\H r=some (.rng 0 n)/\n<=1000000/\∀l,H l=none->Q (.ref l) (upd H l (.lst (Sh n)))):=by
 intro pins s σ H xs us Q I rx h
 obtain⟨r,n,rfl,hr,hn,q⟩:=h
 obtain⟨u,rfl,ru⟩:=vals1 rx
 cases ru
 have hl:sizeLine=16777216:=sizeLine_eq
 obtain⟨t,u,v,e⟩:=(show fY X.prog X.w H s.heap r (.rng 0 n) from I.hok r _ hr)
 refine call_list_range (n:=n) (I.ok.hd hc) e (small_one (by omega) (by omega) (by omega) (by omega)) (by rw [rangeSize_one];split <;> omega) (by omega) fun h' tk acc' c' kp e' hi=>?_
 refine⟨.ref s.heap.objs.size,_,I.laid (t':=tk) kp (Nat.le_refl _) (show fY X.prog X.w _ h' _ (.lst (Sh n)) from⟨by rw [Uq];omega,acc'.toList,c',Qo n _ (by simpa using hi.1) fun j v ej=>?_,by simpa using e'⟩),rfl,q _ (I.hok.fresh (Nat.le_refl _))⟩
 obtain⟨t,ev⟩:=hi.2 j v (by simpa using ej)
 exact⟨t,by rw [ev];congr 1;omega⟩
end
inductive jL (w:World) (K:PySem.W.Frag):List DictEntry->List (Str×List Int)->Prop
 | nil:jL w K [] []
 | cons {x:Str} {t:Tok} {ad:Addr} {ns:List Int} {es:List DictEntry} {rows:List (Str×List Int)} {h:Int} {its:Array Value} {n:Nat} {o:Obj}:
   h=hashStr w x->K.lookup ad=some o->o.cls=.type "tuple" ->o.data=.seq its n->Vals (ns.map V.int) its.toList->ns.length<=1000->jL w K es rows->jL w K (⟨h,.str x t,.ref ad⟩:: es) ((x,ns):: rows)
inductive KTab (w:World) (K:PySem.W.Frag) (a:Addr) (rows:List (Str×List Int)):Prop where
 | mk:∀(o:Obj) (es:Array DictEntry) (ep:Nat),K.lookup a=some o->o.cls=.type "dict" ->o.dict=none->o.slots= #[]->o.data=.dict es ep->(a == sysModules)=false->jL w K es.toList rows->(rows.map (·.1)).Nodup->KTab w K a rows
theorem KTab.mk' {w:World} {K:PySem.W.Frag} {a:Addr} {rows:List (Str×List Int)} {o:Obj} {es:Array DictEntry} {ep:Nat} (lk:K.lookup a=some o) (c1:o.cls=.type "dict") (c2:o.dict=none) (c3:o.slots= #[]) (c4:o.data=.dict es ep) (sm:(a == sysModules)=false)
  (rw':jL w K es.toList rows) (nd:(rows.map (·.1)).Nodup):KTab w K a rows:=⟨o,es,ep,lk,c1,c2,c3,c4,sm,rw',nd⟩
noncomputable def rowOf (rows:List (Str×List Int)) (z:Str):Option (List Int):=(rows.find? fun r=>decide (r.1=z)).map (·.2)
section
variable {P:Program} {w:World} {K:PySem.W.Frag}
theorem jL.kvs:∀{es:List DictEntry} {rows:List (Str×List Int)},jL w K es rows->∃kvs:List (Key×Value),Pairs (cZ P w) es kvs/\kvs.map (·.1)=rows.map (fun r=>(Sum.inr r.1:Key))/\
  (∀e∈es,∃k,(cZ P w).is k e.key=true/\e.hash=(cZ P w).hash k)/\
  ∀z,(rowOf rows z=none->valueAt kvs (Sum.inr z)=none)/\∀ns,rowOf rows z=some ns->∃ad,valueAt kvs (Sum.inr z)=some (.ref ad)/\∀H,eQ K H ad (ns.map V.int)
 | _,_,.nil=>⟨[],.nil,rfl,fun e he=>(by cases he),fun z=>⟨fun _=>rfl,fun ns e=>by cases e⟩⟩
 | _,_,@jL.cons _ _ x t ad ns es rows h its n o hh hl hc hdt hv hz hr=>by
  obtain⟨kvs,p,hk,ho,hf⟩:=jL.kvs hr
  refine⟨(Sum.inr x,.ref ad):: kvs,.cons (my P w x t) rfl p,by rw [List.map_cons,List.map_cons,hk],fun e he=>?_,fun z=>?_⟩
  ·rcases List.mem_cons.mp he with e1 | he
   ·subst e1
    exact⟨Sum.inr x,my P w x t,hh⟩
   ·exact ho e he
  ·by_cases hx:x=z
   ·subst hx
    have e1:rowOf ((x,ns):: rows) x=some ns:=by simp [rowOf]
    have e2:valueAt ((Sum.inr x,Value.ref ad):: kvs) (Sum.inr x:Key)=some (.ref ad):=by simp [valueAt]
    rw [e1,e2]
    refine⟨fun e=>by (cases e),fun ms e=>⟨ad,rfl,fun H=>.inr ⟨_,its,n,hl,hc,hdt,?_,?_⟩⟩⟩
    ·have:=hv.length
     have hs:sizeLine=16777216:=sizeLine_eq
     simp at this
     omega
    ·cases e;exact hv
   ·have e1:rowOf ((x,ns):: rows) z=rowOf rows z:=by simp [rowOf,hx]
    have hx':¬(Sum.inr x:Key)=Sum.inr z:=fun q=>hx (Sum.inr.inj q)
    have e2:valueAt ((Sum.inr x,Value.ref ad):: kvs) (Sum.inr z:Key)=valueAt kvs (Sum.inr z):=by simp [valueAt,hx']
    rw [e1,e2]
    exact hf z
theorem KTab.map {a:Addr} {rows:List (Str×List Int)} {h:Heap} (T:KTab w K a rows) (hk:K.In h):∃f:Key->Option Value,h.MapOf (cZ P w) a f/\(a == sysModules)=false/\
  ∀z,(rowOf rows z=none->f (Sum.inr z)=none)/\∀ns,rowOf rows z=some ns->∃ad,f (Sum.inr z)=some (.ref ad)/\∀H,eQ K H ad (ns.map V.int):=by
 obtain⟨o,es,ep,hl,c1,c2,c3,c4,hs,hr,nd⟩:=T
 obtain⟨kvs,p,hkk,ho,hf⟩:=hr.kvs (P:=P)
 have D:h.DictOf (cZ P w) a kvs:=⟨o,es,ep,hk a _ hl,⟨c1,c2,c3⟩,c4,fun e he=>ho e (by simpa using he),p,?_⟩
 ·exact⟨_,D.mapOf,hs,hf⟩
 ·rw [hkk]
  have:rows.map (fun r=>(Sum.inr r.1:Key))=(rows.map (·.1)).map Sum.inr:=by rw [List.map_map];rfl
  rw [this]
  exact List.Pairwise.map _ (fun a b hab e=>hab (Sum.inr.inj e)) nd
end
section
variable {X:Cx} {i o:Expr} {ty td:TE} {pos:Pos}
inductive VB (w:World) (K:PySem.W.Frag) (Q:VK) (y:V) (x:V) (H2:Hp):Prop where
 | mk:∀a rows z,x=.ref a->KTab w K a rows->y=.str z->Q (.bl (rowOf rows z).isSome) H2->VB w K Q y x H2
noncomputable def ZW (w:World) (K:PySem.W.Frag) (ty td:TE):TE:=fun σ H Q=>ty σ H fun y H1=>td σ H1 fun x H2=>VB w K Q y x H2
theorem VH (hi:PE X i ty) (ho:PE X o td):PC X .In i o (ZW X.w X.K ty td):=by
 intro pins s σ H Q I h
 refine dJ (hi pins s σ H _ I h) fun iv s1 ⟨y,H1,I1,ry,q1⟩=>dJ (ho pins s1 σ H1 _ I1 q1) fun u s2 hpt=>?_
 obtain⟨x,H2,I2,rx,a,rows,z,ex,T,ey,q2⟩:=hpt
 subst ex
 subst ey
 obtain rfl:u=Value.ref a:=rx
 obtain⟨t,rfl⟩:=ry
 obtain⟨f,M,hs,hf⟩:=T.map (P:=X.prog) I2.kIn
 refine wpAny_in_of (k:=(Sum.inr z:Key)) (my X.prog X.w z t) hs M ?_
 refine⟨.bl (rowOf rows z).isSome,H2,I2.tok _,?_,q2⟩
 cases e:rowOf rows z with
 | none=>rw [(hf z).1 e];rfl
 | some ns=>obtain⟨ad,e1,_⟩:=(hf z).2 ns e;rw [e1];rfl
inductive Vk (w:World) (K:PySem.W.Frag) (x:V) (y:V) (H:Hp) (Q:VK):Prop where
 | mk:∀a rows z ns,x=.ref a->KTab w K a rows->y=.str z->rowOf rows z=some ns->(∀ad,eQ K H ad (ns.map V.int)->Q (.ref ad) H)->Vk w K x y H Q
noncomputable def XX (w:World) (K:PySem.W.Frag):R2:=fun x y H Q=>Vk w K x y H Q
theorem ZC:Pu X (XX X.w X.K):=by
 intro value slice pins s σ H x y v u Q I rx ry h hs
 obtain⟨a,rows,z,ns,rfl,T,rfl,e,q⟩:=h
 cases rx
 obtain⟨t,rfl⟩:=ry
 obtain⟨f,M,hsm,hf⟩:=T.map (P:=X.prog) I.kIn
 obtain⟨ad,e1,e2⟩:=(hf z).2 ns e
 exact tail_any M.typeIs PySem.F.slot_dict_getitem.lookup (wpAny_getItem_of (k:=(Sum.inr z:Key)) (my X.prog X.w z t) M e1 ⟨.ref ad,H,I.tok _,rfl,q ad (e2 H)⟩) hs
theorem S6 (ho:PE X o td) (hi:PE X i ty) (hs:Nj i):PE X (.Subscript o i pos) (Yu (XX X.w X.K) td ty):=aR ZC ho hi hs
end
noncomputable def yI (K:PySem.W.Frag) (H:Hp) (a:Addr) (xs:List V):Prop:=bI K H a xs∨eQ K H a xs
theorem aM.seqT {K:PySem.W.Frag} {H H':Hp} {a:Addr} {xs:List V} (e:aM H H') (h:eQ K H a xs):eQ K H' a xs:=by
 rcases h with (h | ⟨o,h⟩) | h
 ·exact .inl (.inl (e _ _ h))
 ·exact .inl (.inr ⟨o,e _ _ h⟩)
 ·exact .inr h
theorem aM.seqA {K:PySem.W.Frag} {H H':Hp} {a:Addr} {xs:List V} (e:aM H H') (h:yI K H a xs):yI K H' a xs:=h.elim (fun h=>.inl (e.seq h)) fun h=>.inr (e.seqT h)
noncomputable def lQ (p:Addr) (H H':Hp):Prop:=∀b o,b≠p->H b=some o->H' b=some o
theorem lQ.refl {p:Addr} (H:Hp):lQ p H H:=fun _ _ _ e=>e
theorem lQ.trans {p:Addr} {H H1 H2:Hp} (a:lQ p H H1) (b:lQ p H1 H2):lQ p H H2:=fun c o n e=>b c o n (a c o n e)
theorem lQ.of_same {p:Addr} {H H1:Hp} (a:aM H H1):lQ p H H1:=fun c o _ e=>a c o e
theorem lQ.write {p:Addr} {H:Hp} {o:HO}:lQ p H (upd H p o):=fun b u n e=>by rw [aH n];exact e
theorem lQ.seqT {K:PySem.W.Frag} {H H':Hp} {p a C dx:Addr} {fs:List (Str×V)} {xs:List V} (e:lQ p H H') (hp:H p=some (.ins C dx fs)) (h:eQ K H a xs):eQ K H' a xs:=by
 rcases h with (h | ⟨o,h⟩) | h
 ·exact .inl (.inl (e _ _ (vZ h hp (by intro z;cases z)) h))
 ·exact .inl (.inr ⟨o,e _ _ (vZ h hp (by intro z;cases z)) h⟩)
 ·exact .inr h
theorem lQ.seqL {K:PySem.W.Frag} {H H':Hp} {p a C dx:Addr} {fs:List (Str×V)} {xs:List V} (e:lQ p H H') (hp:H p=some (.ins C dx fs)) (h:bI K H a xs):bI K H' a xs:=by
 rcases h with (h | ⟨o,h⟩) | h
 ·exact .inl (.inl (e _ _ (vZ h hp (by intro z;cases z)) h))
 ·exact .inl (.inr ⟨o,e _ _ (vZ h hp (by intro z;cases z)) h⟩)
 ·exact .inr h
theorem lQ.seqA {K:PySem.W.Frag} {H H':Hp} {p a C dx:Addr} {fs:List (Str×V)} {xs:List V} (e:lQ p H H') (hp:H p=some (.ins C dx fs)) (h:yI K H a xs):yI K H' a xs:=h.elim (fun h=>.inl (e.seqL hp h)) fun h=>.inr (e.seqT hp h)
theorem QR {K:PySem.W.Frag} {H:Hp} {a:Addr} {xs:List V} {Q:VK} (h:yI K H a xs) (k:∀H' u,aM H H'->eQ K H' u xs->Q (.ref u) H'):
  ∃p ys,[V.ref a]=[.ref p]/\((bI K H p ys/\∀l,H l=none->Q (.ref l) (upd H l (.tup ys)))∨(eQ K H p ys/\Q (.ref p) H)):=by
 rcases h with h | h
 ·exact⟨a,xs,rfl,.inl ⟨h,fun l hl=>k _ _ (aB hl) (eQ.of az)⟩⟩
 ·exact⟨a,xs,rfl,.inr ⟨h,k _ _ (aM.refl _) h⟩⟩
theorem vM {X:Cx}:mG X (.type "tuple") (fun xs H Q=>∃a ys,xs=[.ref a]/\yI X.K H a ys/\∀H' u,aM H H'->eQ X.K H' u ys->Q (.ref u) H'):=by
 intro pins s σ H xs us Q I r h
 obtain⟨a,ys,rfl,hq,q⟩:=h
 exact Fb pins s σ H _ us Q I r (QR hq q)
section
variable {es:List Expr} {env:Env}
theorem bQ {a b c}:starEach (.Tuple a b c:: es) env=(false,eval (.Tuple a b c) env):: starEach es env:=rfl
theorem aV {a b}:starEach (.List a b:: es) env=(false,eval (.List a b) env):: starEach es env:=rfl
theorem ao {a b c}:starEach (.Constant a b c:: es) env=(false,eval (.Constant a b c) env):: starEach es env:=rfl
theorem aj {a b}:starEach (.Name a b:: es) env=(false,eval (.Name a b) env):: starEach es env:=rfl
theorem aY {a b c d}:starEach (.Call a b c d:: es) env=(false,eval (.Call a b c d) env):: starEach es env:=rfl
theorem bO {a b c d}:starEach (.BinOp a b c d:: es) env=(false,eval (.BinOp a b c d) env):: starEach es env:=rfl
theorem bJ {a b c}:starEach (.Attribute a b c:: es) env=(false,eval (.Attribute a b c) env):: starEach es env:=rfl
theorem aD {a b c}:starEach (.Subscript a b c:: es) env=(false,eval (.Subscript a b c) env):: starEach es env:=rfl
theorem fU {a b c d}:starEach (.ListComp a b c d:: es) env=(false,eval (.ListComp a b c d) env):: starEach es env:=rfl
theorem Iw {a b c d}:starEach (.Compare a b c d:: es) env=(false,eval (.Compare a b c d) env):: starEach es env:=rfl
theorem KZ {a b c d}:starEach (.IfExp a b c d:: es) env=(false,eval (.IfExp a b c d) env):: starEach es env:=rfl
end
section
variable {X:Cx} {scope:Scope} {x:Str} {js:List Nat} {cl:List (Str×Addr)} {C:Addr} {s:Shared} {H:Hp} {ex:List Addr}
end
noncomputable def gB (H:Hp):List Addr->List (List V)->Prop:=Paired fun r vs=>H r=some (.tup vs)
theorem gB.same {H H':Hp} (s:aM H H'):∀{rs:List Addr} {vss:List (List V)},gB H rs vss->gB H' rs vss
 | _,_,.nil=>.nil
 | _,_,.cons h t=>.cons (s _ _ h) (gB.same s t)
theorem gB.append {H:Hp}:∀{rs rs':List Addr} {vss vss':List (List V)},gB H rs vss->gB H rs' vss'->gB H (rs ++ rs') (vss ++ vss')
 | _,_,_,_,.nil,q=>q
 | _,_,_,_,.cons h t,q=>.cons h (gB.append t q)
section
variable {X:Cx}
end
noncomputable def O4 (K:PySem.W.Frag) (a:Addr):It:=
 ⟨fun i H=>∃xs x,bI K H a xs/\xs[i]?=some x,fun i H v H'=>∃u y,H u=none/\v=.ref u/\H'=upd H u (.tup [.int (i:Nat),y])/\∀xs,bI K H a xs->xs[i]?=some y,fun i H=>∃xs,bI K H a xs/\xs.length<=i⟩
theorem Oc {P:Program} {w:World} {K:PySem.W.Frag} {elts:List Expr} {x1:_} {tpos:Pos} (a e it:Addr) (hne:e≠it):
  Turn P w K (.Tuple elts x1 tpos) (O4 K a) [e,it] e (fun i h=>(∃old,IsEnum h e it ((i:Nat):Int) old)/\h.IsListIter it a i) where
 mem:=by simp
 obj:=fun i h st b hb=>by
  obtain⟨⟨old,he⟩,hit⟩:=st
  have hb':b=e∨b=it:=by simpa using hb
  rcases hb' with z | z
  ·subst z
   exact⟨_,he,fun v z=>by cases z⟩
  ·subst z
   obtain⟨o,e1,c,d⟩:=hit
   exact⟨o,e1,fun v z=>by rw [d] at z;cases z⟩
 keep:=fun i h h' st k=>by
  obtain⟨⟨old,he⟩,hit⟩:=st
  exact⟨⟨old,k e (by simp) _ he⟩,hit.at fun o e1=>k it (by simp) o e1⟩
 item:=by
  intro X hP hw hK hc i pins s σ H E I hf st hg
  subst hP hw hK
  obtain⟨⟨old,he⟩,hit⟩:=st
  obtain⟨xs,x,hq,hx⟩:=hg
  obtain⟨its,rv,p,hz⟩:=I.list hq
  obtain⟨u,hu,ru⟩:=rv.get hx
  obtain⟨f0,f1,f2,f3,f4,f5⟩:=hf it (by simp)
  obtain⟨g0,g1,g2,g3,g4,g5⟩:=hf e (by simp)
  refine wpAny_pyNext_enum_item he hit p.isList (x:=u) (by simpa using hu) hne fun h1 heo hit1 ht1 hz1 hk1=>?_
  refine⟨_,rfl,wpAny_letOwnedTupleGo_enum heo fun h2 he2 hs2=>?_⟩
  have hs2':Heap.SameBut e h1 h2:=hs2
  have heS:e <s.heap.objs.size:=Heap.lt_size he
  have hnE:s.heap.objs.size≠e:=Nat.ne_of_gt heS
  have kp:∀b o,b≠e->b≠it->s.heap.get? b=some o->h2.get? b=some o:=fun b o n1 n2 q=>(hs2'.2 b n1).trans (hk1 b o n1 n2 q)
  have nn:∀b o,s.heap.get? b=some o->b≠s.heap.objs.size:=fun b o q=>Nat.ne_of_lt (Heap.lt_size q)
  have hfr:H s.heap.objs.size=none:=I.hok.fresh (Nat.le_refl _)
  have tupN:h2.get? s.heap.objs.size=some { cls:=.type "tuple",data:=.seq #[.int i s.toks,u] }:=(hs2'.2 _ hnE).trans ht1
  have tr:∀b o,H b=some o->b≠e/\b≠it:=fun b o q=>⟨fun z=>(by rw [z,g0] at q;cases q),fun z=>(by rw [z,f0] at q;cases q)⟩
  have ok2:vf X.prog X.w (upd H s.heap.objs.size (.tup [.int (i:Nat),x])) h2:=fun b o q=>by
   by_cases hb:b=s.heap.objs.size
   ·rw [hb,az] at q
    cases q
    rw [hb]
    exact⟨by show 2<=sizeLine;decide,[.int i s.toks,u],.cons ⟨_,rfl⟩ (.cons ru .nil),⟨_,tupN,rfl,_,rfl⟩⟩
   ·rw [aH hb] at q
    refine(I.hok b o q).stay (fun c v hc q'=>?_) (fun c q'=>by rw [aH (aF q' hfr)];exact q') fun c ys q'=>by rw [aH (aF q' hfr)];exact q'
    rcases hc with z | z
    ·rw [z] at q' ⊢
     exact kp _ _ (tr _ _ q).1 (tr _ _ q).2 q'
    ·exact kp _ _ (tr _ _ z).1 (tr _ _ z).2 q'
  refine⟨.ref s.heap.objs.size,upd H s.heap.objs.size (.tup [.int (i:Nat),x]),?_,rfl,⟨_,x,hfr,rfl,rfl,fun ys hy=>by rw [I.list_inj hy hq];exact hx⟩,⟨⟨_,by simpa using he2⟩,hit1.at fun o e1=>(hs2'.2 _ (Ne.symm hne)).trans e1⟩,fun b hb=>?_⟩
  ·show Inv X pins σ (upd H s.heap.objs.size (.tup [.int (i:Nat),x])) { s with heap:=h2,gens:=s.gens,drawn:=s.drawn,toks:=s.toks+1 }
   refine I.step (g':=s.gens) (d':=s.drawn) (t':=s.toks+1) (ch:=[e,it]) (fun b hb=>?_) (fun b o _ _ hc q _=>kp b o (fun z=>hc (by simp [z])) (fun z=>hc (by simp [z])) q)
    (fun b o _ _ hc q _=>⟨o.slots,kp b o (fun z=>hc (by simp [z])) (fun z=>hc (by simp [z])) q⟩) (fun b o _ q n=>by rw [aH (nn b o q)];exact n)
    (fun b o hc q=>⟨o,kp b o (fun z=>hc (by simp [z])) (fun z=>hc (by simp [z])) q⟩) (fun b ys q=>by rw [aH (aF q hfr)];exact q) (fun b o ys q=>by rw [aH (aF q hfr)];exact q)
    (fun b ps q=>⟨#[],by rw [aH (aF q hfr),q];simp⟩) (fun m hm=>?_) ok2 I.bare
   ·have hb':b=e∨b=it:=by simpa using hb
    rcases hb' with z | z
    ·subst z;exact⟨g3,g1,g4,g5⟩
    ·subst z;exact⟨f3,f1,f4,f5⟩
   ·obtain⟨o,es,ep,ho,r⟩:=hm
    exact⟨o,es,ep,kp _ o (Ne.symm g1) (Ne.symm f1) ho,r⟩
  ·have hb':b=e∨b=it:=by simpa using hb
   rcases hb' with z | z
   ·subst z;rw [aH (Ne.symm hnE)];exact g0
   ·subst z
    obtain⟨o,e1,_⟩:=hit
    rw [aH (nn _ o e1)];exact f0
 done:=by
  intro X hP hw hK hc i pins s σ H E I hf st hg
  subst hP hw hK
  obtain⟨⟨old,he⟩,hit⟩:=st
  obtain⟨xs,hq,hx⟩:=hg
  obtain⟨its,rv,p,hz⟩:=I.list hq
  obtain⟨f0,f1,f2,f3,f4,f5⟩:=hf it (by simp)
  have hl:=rv.length
  exact wpAny_pyNext_enum_end (I.ok.hd hc) he hit p.isList (by simp;omega) fun h' eb=>⟨rfl,I.turned (t':=s.toks) (fun b o hb e=>eb b o hb e) f0 f1 f3 f4 f5⟩
 self:=fun _ _ _ _ _ st h=>by
  obtain⟨⟨old,he⟩,_⟩:=st
  exact wpAny_pyIter_enum he h
section
variable {X:Cx}
theorem Jc:bootBuiltins "enumerate" =some (.type "enumerate"):=by decide +kernel
inductive Qk (K:PySem.W.Frag) (R:It->Hp->Prop) (vs:List V) (H1:Hp):Prop where
 | mk:∀a,vs=[.ref a]->((∃xs,bI K H1 a xs))->R (O4 K a) H1->Qk K R vs H1
noncomputable def Yo (K:PySem.W.Frag) (ta:TA):TI:=fun σ H R=>ta σ H fun vs H1=>Qk K R vs H1
theorem Bu {l:Expr} {ta:TA} {p pos tpos:Pos} {elts:List Expr} {x1:_} (hg:Gl X "enumerate") (hm:X.mg "enumerate" =none) (ha:PA X [l] ta) (hs:starEach [l] X.env=[(false,eval l X.env)]:=by rfl):
  PI X (.Tuple elts x1 tpos) (.Call (.Name "enumerate" p) [l] [] pos) (Yo X.K ta):=by
 intro pins s σ H R I h
 refine Call_ (Ce I hg hm Jc (PyProof.Rows.callWith_type1 (dJ (ha pos pins s σ H _ I h) fun us s1 ⟨vs,H1,I1,r1,q1⟩=>?_) hs rfl))
 obtain⟨a,e,⟨xs,hq⟩,q⟩:=q1
 subst e
 obtain⟨u,rfl,ru⟩:=vals1 r1
 cases ru
 obtain⟨its,rv,pl,hz⟩:=I1.list hq
 refine call_enumerate_list pl.isList fun h' he hit hz' kp=>wpAny_pyIter_enum he ?_
 have I2:Inv X pins σ H1 { s1 with heap:=h' }:=I1.kept (t':=s1.toks) kp
 refine⟨s1.heap.objs.size+1,[s1.heap.objs.size+1,s1.heap.objs.size],_,_,H1,rfl,I2,Oc a _ _ (Nat.ne_of_gt (Nat.lt_succ_self _)),⟨⟨_,he⟩,hit⟩,fun b hb=>?_,q⟩
 have hb':b=s1.heap.objs.size+1∨b=s1.heap.objs.size:=by simpa using hb
 rcases hb' with z | z <;> subst z
 ·exact I1.fpOk (Nat.le_succ _) (I1.hok.fresh (Nat.le_succ _))
 ·exact I1.fpOk (Nat.le_refl _) (I1.hok.fresh (Nat.le_refl _))
theorem Kh {K:PySem.W.Frag} {a:Addr} {xs:List V} {g:TG} {tb:TS} {D:Ends} {σ:St} {H:Hp} (Pv:Nat->St->Hp->Prop) (h0:Pv 0 σ H) (hl:∀i σ H,i<=xs.length->Pv i σ H->bI K H a xs)
  (hs:∀i x σ H,xs[i]?=some x->Pv i σ H->∀u,H u=none->g (.ref u) σ (upd H u (.tup [.int (i:Nat),x])) fun σ' H'=>tb { D with nx:=Pv (i+1),ct:=Pv (i+1),bk:=D.nx } σ' H') (hd:∀σ H,Pv xs.length σ H->D.nx σ H):
  ∃W:Nat->Nat->St->Hp->Prop,(∃m,W 0 m σ H)/\∀i m σ H,W i m σ H->
   ((O4 K a).stop i H/\D.nx σ H)∨((O4 K a).go i H/\∃N:St->Hp->Prop,(∀σ' H',N σ' H'->∃m',m' <m/\W (i+1) m' σ' H')/\∀x H',(O4 K a).yld i H x H'->g x σ H' fun σ' H2=>tb { D with nx:=N,ct:=N,bk:=D.nx } σ' H2):=by
 refine⟨fun i m σ H=>m=xs.length - i/\i<=xs.length/\Pv i σ H,⟨xs.length,by simp,Nat.zero_le _,h0⟩,?_⟩
 rintro i m σ H ⟨rfl,hi,p⟩
 have q:=hl i σ H hi p
 by_cases hlt:i <xs.length
 ·refine .inr ⟨⟨xs,xs[i],q,by simp [hlt]⟩,Pv (i+1),fun σ' H' p'=>⟨xs.length - (i+1),by omega,rfl,hlt,p'⟩,fun x H' y=>?_⟩
  obtain⟨u,z,hu,ex,eH,hy⟩:=y
  subst ex eH
  exact hs i z σ H (hy xs q) p u hu
 ·have e:i=xs.length:=by omega
  subst e
  exact .inl ⟨⟨xs,q,Nat.le_refl _⟩,hd σ H p⟩
end
section
variable {P:Program} {w:World} {K:PySem.W.Frag} {mg:Str->Option Value} {base:Heap} {N:List Str} {qual:Str} {scope:Scope} {f:Addr} {cd:Value} {A:Around} {outer:List Env} {s:Shared} {H:Hp} {E:XK}
end
structure RX (K:PySem.W.Frag) (C:Addr):Prop where
 ex:∃(nm q:Str) (Nn:Addr) (bs bm bmB:List Value) (hdct:Bool) (sn:List Str) (sub:List Value) (ab:Bool) (col:Option Bool) (dd:Option Addr) (k0 k1 k2 k3 k5:Option Value) (B newId initId:String) (mN:Str->Option Value),
  ExcBaseFacts B newId initId bmB/\bm.contains (.type "BaseException")=true/\mN "__init__" =none/\
  ∀h:Heap,K.In h->h.get? C=some (excClassObj nm q C Nn bs bm hdct sn sub ab col dd k0 k1 k2 k3 k5 newId)/\h.Ns Nn mN/\OwnTail h bmB bm
section
variable {P:Program} {w:World} {K:PySem.W.Frag} {mg:Str->Option Value} {base:Heap} {N:List Str} {qual:Str} {scope:Scope} {f:Addr} {cd:Value} {A:Around} {outer:List Env} {s:Shared} {H:Hp} {E:XK}
end
section
variable {X:Cx} {pins:List (Addr×Obj)} {σ:St} {H:Hp} {s:Shared} {E:Value->Shared->Prop}
end
section
variable {X:Cx} {pins:List (Addr×Obj)} {σ:St} {H:Hp} {s:Shared}
end
structure ExcAt (K:PySem.W.Frag) (C:Addr):Prop where
 ex:∃(nm q:Str) (Nn:Addr) (bs bm:List Value) (hdct:Bool) (sn:List Str) (sub:List Value) (ab:Bool) (col:Option Bool) (dd:Option Addr) (k0 k1 k2 k3 k5:Option Value) (newId:String),bm.contains (.type "BaseException")=true/\
  ∀h:Heap,K.In h->h.get? C=some (excClassObj nm q C Nn bs bm hdct sn sub ab col dd k0 k1 k2 k3 k5 newId)
section
variable {prog:Program} {w:World} {A:Around} {E:Value->Shared->Prop} {h:Heap} {g:Array GenState} {d:Drawn} {t:Nat} {os:OsState} {a:Addr} {o:Obj} {C:Addr}
end
noncomputable abbrev K6:List Value:=[.type "ValueError",.type "Exception",.type "BaseException",.type "object"]
noncomputable def Py (K:PySem.W.Frag) (N:Addr) (x:Str):Option Value:=match K.lookup N with
 | some o=>(match o.data with | .dict es _=>nsFind es x | _=>none)
 | none=>none
theorem Rn {K:PySem.W.Frag} {h:Heap} {N:Addr} (X:K.In h) (ok:PySem.W.nsOkIn K N=true):h.nsMap N=Py K N:=by
 funext x
 unfold PySem.W.nsOkIn at ok
 split at ok
 ·rename_i look
  unfold Heap.nsMap Py
  rw [X _ _ look,look]
 ·cases ok
theorem Rb {K:PySem.W.Frag} {N:Addr} {x:Str} (e:PySem.W.nsIn K N x=some none):Py K N x=none:=by
 unfold PySem.W.nsIn at e
 split at e
 ·rename_i look
  split at e
  ·cases e
  ·rename_i f
   unfold Py
   rw [look]
   show nsFind _ _=none
   unfold nsFind findBy
   rw [<-Array.find?_toList,f]
   rfl
 ·cases e
theorem Gx {K:PySem.W.Frag}:∀{l:List Value},PySem.W.tailIn K K6 l=true->l.contains (.type "BaseException")=true
 | [],e=>by simp [PySem.W.tailIn,K6] at e
 | v:: r,e=>by
  unfold PySem.W.tailIn at e
  rcases Bool.or_eq_true_iff.mp e with z | z
  ·rw [beq_iff_eq.mp z];decide +kernel
  ·split at z
   ·split at z
    ·simp only [Bool.and_eq_true] at z
     rw [List.contains_cons,Gx z.2,Bool.or_true]
    ·cases z
   ·cases z
theorem RX.ofIn {K:PySem.W.Frag} {C:Addr} (z:PySem.W.excIn K C K6 "ValueError.__new__" =true):RX K C:=by
 unfold PySem.W.excIn at z
 split at z
 ·rename_i od kd slo look
  split at z
  ·rename_i C1 up a0 a1 a2 a3 nid a5 em es
   simp only [Bool.and_eq_true,beq_iff_eq,Bool.not_eq_true'] at z
   obtain⟨⟨⟨⟨⟨x1,x2⟩,x3⟩,x4⟩,x5⟩,x6⟩:=z
   subst x1 x2
   obtain⟨g1,g2,g3,g4,g5,g6,g7,g8,g9,g10,g11⟩:=kd
   dsimp only at em x3 x5 x6
   subst em x3
   have hs:slo= #[a0,a1,a2,a3,some (.builtin "ValueError.__new__"),a5]:=by
    obtain⟨l⟩:=slo
    simp only at es
    rw [es]
   subst hs
   refine⟨⟨g1,g5,g4,g2,up,K6,g6,g7,g8,g9,g10,od,a0,a1,a2,a3,a5, "ValueError", "ValueError.__new__", "ValueError.__init__",Py K g4,PySem.F.excBase_ValueError,Gx x4,Rb x6,fun h X=>⟨X _ _ look,?_,PySem.W.tail_of_in X x4⟩⟩⟩
   rw [<-Rn X x5]
   exact .of_isNs (PySem.W.isNs_of_in X x5)
  ·cases z
 ·cases z
structure ZG (K:PySem.W.Frag) (C:Addr):Prop where
 cls:(PySem.W.clsIn K C).isSome=true
 ga:PySem.W.findIn K (.ref C) "__getattribute__" =some (some (.builtin "BaseException.__getattribute__"))
 gn:PySem.W.findIn K (.ref C) "__getattr__" =some none
 cl:PySem.W.findIn K (.ref C) "__class__" =some (some (.builtin "object.__class__"))
 ob:PySem.W.subIn K (.ref C) (.type "object")=some true
 be:PySem.W.subIn K (.ref C) (.type "BaseException")=some true
section
variable {P:Program} {w:World} {K:PySem.W.Frag} {mg:Str->Option Value} {base:Heap}
end
end L2
namespace L2
open PySem
section
variable {prog:Program} {w:World} {A:Around} {E:Value->Shared->Prop} {h:Heap} {g:Array GenState} {d:Drawn} {t:Nat} {os:OsState}
variable {nm q:Str} {C N:Addr} {bs bm bmB:List Value} {hdct:Bool} {sn:List Str} {sub:List Value} {ab:Bool} {col:Option Bool} {dd:Option Addr} {k0 k1 k2 k3 k5:Option Value} {B newId initId:String}
end
section
variable {prog:Program} {w:World} {A:Around} {E:Value->Shared->Prop} {h:Heap} {g:Array GenState} {d:Drawn} {t:Nat} {os:OsState}
variable {nm q:Str} {C N:Addr} {bs bm bmB:List Value} {hdct:Bool} {sn:List Str} {sub:List Value} {ab:Bool} {col:Option Bool} {dd:Option Addr} {k0 k1 k2 k3 k5:Option Value} {B newId initId:String}
end
end L2
namespace L2
open PySem Builtin Builtin.ObjectAttr
noncomputable def Ii:List Value->Bool
 | .ref _:: r=>Ii r
 | l=>l == K6
structure Z6 (K:PySem.W.Frag) (C:Addr):Prop where
 xc:ZG K C
 sa:PySem.W.findIn K (.ref C) "__setattr__" =some (some (.builtin "object.__setattr__"))
 ov:(PySem.W.clsIn K C).any (fun cd=>Ii cd.mro && cd.hasDict)=true
section
variable {prog:Program} {w:World} {A:Around} {E:Value->Shared->Prop} {h:Heap} {g:Array GenState} {d:Drawn} {t:Nat} {os:OsState} {x C:Addr} {K:PySem.W.Frag} {mA:Str->Option Value} {name:Str} {v:Value}
end
end L2
namespace L2
open PySem PySem.Spec PyProof.Rows
section
variable {X:Cx} {pins:List (Addr×Obj)} {σ:St} {H:Hp} {s:Shared} {a C dx:Addr} {fs:List (Str×V)} {f:Str} {v:V} {A:Around} {E:Value->Shared->Prop}
end
section
variable {X:Cx} {e o value:Expr} {f:Str} {pos pos':Pos} {ta tv:TE}
end
noncomputable def Rp (K:PySem.W.Frag) (C f:Addr):Bool:=match K.lookup C with
 | some o=>(match o.data with
  | .cls kd=>o.cls == .type "type" && kd.mro.head? == some (.ref C) && PySem.W.tailIn K K6 kd.mro.tail && !kd.hasDel && PySem.W.nsOkIn K kd.ns && Py K kd.ns "__init__" == some (.ref f) && o.slots.size == 6 && o.slots[4]? == some (some (.builtin "ValueError.__new__"))
  | _=>false)
 | none=>false
structure CW (K:PySem.W.Frag) (C f:Addr):Prop where
 ex:∃(nm q:Str) (Nn:Addr) (bs bm:List Value) (hdct:Bool) (sn:List Str) (sub:List Value) (ab:Bool) (col:Option Bool) (dd:Option Addr) (k0 k1 k2 k3 k5:Option Value) (mN:Str->Option Value),
  mN "__init__" =some (.ref f)/\∀h:Heap,K.In h->h.get? C=some (excClassObj nm q C Nn bs bm hdct sn sub ab col dd k0 k1 k2 k3 k5 "ValueError.__new__")/\h.Ns Nn mN/\OwnTail h K6 bm
theorem ZQ {α:Type}:∀{l:List α},l.length=6->∃a b c d e f,l=[a,b,c,d,e,f]
 | [a,b,c,d,e,f],_=>⟨a,b,c,d,e,f,rfl⟩
theorem CW.ofIn {K:PySem.W.Frag} {C f:Addr} (z:Rp K C f=true):CW K C f:=by
 unfold Rp at z
 split at z
 ·rename_i o look
  obtain⟨oc,od,dt,slo⟩:=o
  dsimp only at z
  split at z
  ·rename_i kd
   simp only [Bool.and_eq_true,beq_iff_eq,Bool.not_eq_true'] at z
   obtain⟨⟨⟨⟨⟨⟨⟨x1,x2⟩,x3⟩,x4⟩,x5⟩,x6⟩,x7⟩,x8⟩:=z
   subst x1
   obtain⟨g1,g2,g3,g4,g5,g6,g7,g8,g9,g10,g11⟩:=kd
   dsimp only at x2 x3 x4 x5 x6
   obtain⟨sl⟩:=slo
   obtain⟨a0,a1,a2,a3,a5,rfl⟩:∃a0 a1 a2 a3 a5,sl=[a0,a1,a2,a3,some (.builtin "ValueError.__new__"),a5]:=by
    obtain⟨a0,a1,a2,a3,a4,a5,rfl⟩:=ZQ (show sl.length=6 from x7)
    have e:a4=some (.builtin "ValueError.__new__"):=Option.some.inj (show some a4=_ from x8)
    subst e
    exact⟨a0,a1,a2,a3,a5,rfl⟩
   obtain⟨up,rfl⟩:∃up,g3=.ref C:: up:=by
    cases g3 with
    | nil=>cases x2
    | cons v r=>cases (show some v=some (Value.ref C) from x2);exact⟨r,rfl⟩
   subst x4
   refine⟨⟨g1,g5,g4,g2,up,g6,g7,g8,g9,g10,od,a0,a1,a2,a3,a5,Py K g4,x6,fun h X=>⟨X _ _ look,?_,PySem.W.tail_of_in X x3⟩⟩⟩
   rw [<-Rn X x5]
   exact .of_isNs (PySem.W.isNs_of_in X x5)
  ·cases z
 ·cases z
section
variable {X:Cx} {CX:FQ} {k:Nat} {C B f:Addr} {fd:FuncData} {ps:List Str} {sp:Sp} {E:XK} {x:Str} {p pos apos:Pos} {e:Expr} {es:List Expr} {t:TA}
end
section
variable {X:Cx} {CX:FQ} {k:Nat} {C f:Addr} {fd:FuncData} {ps:List Str} {sp:Sp} {E:XK} {x:Str} {p pos:Pos} {e:Expr} {es:List Expr} {t:TA}
end
section
variable {X:Cx} {C:Addr} {x:Str} {p pos:Pos} {e:Expr} {es:List Expr} {t:TA}
end
end L2
namespace L2
open PySem
noncomputable def VP (K:PySem.W.Frag) (C:Addr):Bool:=(PySem.W.clsIn K C).isSome && PySem.W.findIn K (.ref C) "__getattribute__" == some (some (.builtin "BaseException.__getattribute__")) && PySem.W.findIn K (.ref C) "__getattr__" == some none &&
 PySem.W.findIn K (.ref C) "__class__" == some (some (.builtin "object.__class__")) && PySem.W.subIn K (.ref C) (.type "object") == some true && PySem.W.subIn K (.ref C) (.type "BaseException") == some true
theorem ZG.ofIn {K:PySem.W.Frag} {C:Addr} (h:VP K C=true):ZG K C:=by
 simp only [VP,Bool.and_eq_true,beq_iff_eq] at h
 obtain⟨⟨⟨⟨⟨a,b⟩,c⟩,d⟩,e⟩,f⟩:=h
 exact⟨a,b,c,d,e,f⟩
noncomputable def Yp (K:PySem.W.Frag) (C:Addr):Bool:=VP K C && PySem.W.findIn K (.ref C) "__setattr__" == some (some (.builtin "object.__setattr__")) && (PySem.W.clsIn K C).any (fun cd=>Ii cd.mro && cd.hasDict)
theorem Z6.ofIn {K:PySem.W.Frag} {C:Addr} (h:Yp K C=true):Z6 K C:=by
 simp only [Yp,Bool.and_eq_true,beq_iff_eq] at h
 obtain⟨⟨a,b⟩,c⟩:=h
 exact⟨.ofIn a,b,c⟩
end L2
namespace L2
open PySem PySem.Spec PyProof.Rows
section
variable {P:Program} {w:World} {K:PySem.W.Frag} {mg:Str->Option Value} {base:Heap} {N:List Str} {qual:Str} {scope:Scope} {f:Addr} {cd:Value} {A:Around} {outer:List Env} {s:Shared} {H:Hp} {E:XK}
end
section
variable {M:Model} {A:Around} {E:Value->Shared->Prop} {s:Shared} {env:Env} {nm q:Str} {C N:Addr} {bs bm:List Value} {hdct:Bool} {sn:List Str} {sub:List Value} {ab:Bool} {col:Option Bool} {dd:Option Addr} {k0 k1 k2 k3 k5:Option Value} {newId:String}
end
section
variable {P:Program} {w:World} {K:PySem.W.Frag} {mg:Str->Option Value} {base:Heap} {N:List Str} {qual:Str} {scope:Scope} {f:Addr} {cd:Value} {A:Around} {outer:List Env} {s:Shared} {H:Hp} {E:XK}
end
section
variable {M:Model} {A:Around} {E:Value->Shared->Prop} {nm q:Str} {C N:Addr} {bs bm:List Value} {hdct:Bool} {sn:List Str} {sub:List Value} {ab:Bool} {col:Option Bool} {dd:Option Addr} {k0 k1 k2 k3 k5:Option Value} {newId:String}
end
section
variable {P:Program} {w:World} {K:PySem.W.Frag} {mg:Str->Option Value} {base:Heap}
end
theorem CW.at {K:PySem.W.Frag} {C f:Addr} (c:CW K C f) {h:Heap} (X:K.In h):ExcAt K C:=by
 obtain⟨nm,q,Nn,bs,bm,hdct,sn,sub,ab,col,dd,k0,k1,k2,k3,k5,mN,_,hf⟩:=c.ex
 exact⟨⟨nm,q,Nn,bs,bm,hdct,sn,sub,ab,col,dd,k0,k1,k2,k3,k5,_,(hf h X).2.2.hasType (X:= "BaseException") (b:=true) (by decide +kernel),fun h X=>(hf h X).1⟩⟩
noncomputable def Z4 (a b:TI):TI:=fun σ H R=>a σ H R∨b σ H R
theorem VD {X:Cx} {tg it:Expr} {a b:TI} (h1:PI X tg it a) (h2:PI X tg it b):PI X tg it (Z4 a b):=fun pins s σ H R I h=>h.elim (h1 pins s σ H R I) (h2 pins s σ H R I)
theorem J0 {js:List Nat} {tt:TT} {te:TE} {σ:St} {Qd:List V->Hp->Prop} {K:PySem.W.Frag} {a:Addr} {xs:List V} {H:Hp} (Pv:Nat->List V->Hp->Prop) (hn:xs.length<=sizeLine) (h0:Pv 0 [] H) (hl:∀i ys H,Pv i ys H->ys.length<=i) (hq:∀i ys H,i<=xs.length->Pv i ys H->eQ K H a xs)
  (hs:∀i x ys H,xs[i]?=some x->Pv i ys H->tt (some x:: dN σ js) H fun b H4=>if b=true then te (some x:: dN σ js) H4 fun y H5=>Pv (i+1) (ys ++ [y]) H5 else Pv (i+1) ys H4)
  (hd:∀ys H,Pv xs.length ys H->Qd ys H):CompEnd js tt te σ Qd (Xb K a) H:=by
 refine⟨fun i m ys H=>m=xs.length - i/\i<=xs.length/\Pv i ys H,⟨xs.length,by simp,Nat.zero_le _,h0⟩,?_⟩
 rintro i m ys H ⟨rfl,hi,p⟩
 have hlen:=hl i ys H p
 have q:=hq i ys H hi p
 by_cases hlt:i <xs.length
 ·refine .inr ⟨⟨xs,xs[i],q,by simp [hlt]⟩,by omega,Pv (i+1),fun ys' H' p'=>⟨xs.length - (i+1),by omega,rfl,hlt,p'⟩,fun x H' y=>?_⟩
  obtain⟨e,y⟩:=y
  subst e
  exact hs i x ys _ (y xs q) p
 ·have e:i=xs.length:=by omega
  subst e
  exact .inl ⟨⟨xs,q,Nat.le_refl _⟩,by omega,hd ys H p⟩
theorem RC {js:List Nat} {tt:TT} {te:TE} {σ σ0:St} {Qd:List V->Hp->Prop} {K:PySem.W.Frag} {a:Addr} {xs:List V} {H:Hp} {tl:TE} (ht:∀R:V->Hp->Prop,R (.ref a) H->tl σ0 H R) (ha:yI K H a xs) (Pv:Nat->List V->Prop) (hn:xs.length<=sizeLine) (h0:Pv 0 []) (hl:∀i ys,Pv i ys->ys.length<=i)
  (hs:∀i x ys,xs[i]?=some x->Pv i ys->tt (some x:: dN σ js) H fun b H4=>if b=true then te (some x:: dN σ js) H4 fun y H5=>H5=H/\Pv (i+1) (ys ++ [y]) else H4=H/\Pv (i+1) ys)
  (hd:∀ys,Pv xs.length ys->Qd ys H):Z4 (Ve K tl) (Ye K tl) σ0 H (CompEnd js tt te σ Qd):=by
 rcases ha with ha | ha
 ·refine .inl (ht _ ⟨a,rfl,⟨xs,ha⟩,jd (K:=K) (a:=a) (xs:=xs) (fun i ys H'=>H'=H/\Pv i ys) hn ⟨rfl,h0⟩ (fun i ys _ z=>hl i ys z.2) (fun i ys H' _ z=>by rw [z.1];exact ha) (fun i x ys H' hx z=>?_) fun ys H' z=>?_⟩)
  ·obtain⟨rfl,z⟩:=z;exact hs i x ys hx z
  ·obtain⟨rfl,z⟩:=z;exact hd ys z
 ·refine .inr (ht _ ⟨a,rfl,⟨xs,ha⟩,J0 (K:=K) (a:=a) (xs:=xs) (fun i ys H'=>H'=H/\Pv i ys) hn ⟨rfl,h0⟩ (fun i ys _ z=>hl i ys z.2) (fun i ys H' _ z=>by rw [z.1];exact ha) (fun i x ys H' hx z=>?_) fun ys H' z=>?_⟩)
  ·obtain⟨rfl,z⟩:=z;exact hs i x ys hx z
  ·obtain⟨rfl,z⟩:=z;exact hd ys z
theorem yI.len {K:PySem.W.Frag} {H:Hp} {a:Addr} {xs:List V} (h:yI K H a xs):Xk K (.ref a) H xs.length:=h.elim (fun h=>.inl ⟨xs,h,rfl⟩) fun h=>.inr ⟨xs,h,rfl⟩
theorem J1 {X:Cx} {K:PySem.W.Frag} (hK:X.K=K):Pu X (V3 K):=by subst hK;exact aO
theorem rQ {X:Cx} {K:PySem.W.Frag} (hK:X.K=K):Pu X (Wo K):=by subst hK;exact cC
section
variable {P:Program} {w:World} {K:PySem.W.Frag} {mg:Str->Option Value} {base:Heap} {N:List Str} {qual:Str} {scope:Scope} {f:Addr} {cd:Value} {A:Around} {outer:List Env} {s:Shared} {H:Hp} {E:XK}
end
section
variable {κ:Type} [DecidableEq κ]
noncomputable def cg (kvs:List (κ×V)) (k:κ):Option V:=(kvs.find? fun kv=>decide (kv.1=k)).map (·.2)
noncomputable def putK (kvs:List (κ×V)) (k:κ) (v:V):List (κ×V):=
 if (kvs.any fun kv=>decide (kv.1=k))=true then kvs.map (fun kv=>if kv.1=k then(kv.1,v) else kv) else kvs ++ [(k,v)]
theorem gU {p:κ×V} {r:List (κ×V)} {k:κ} (e:p.1=k):cg (p:: r) k=some p.2:=by simp [cg,List.find?_cons,e]
theorem gm {p:κ×V} {r:List (κ×V)} {k:κ} (e:¬p.1=k):cg (p:: r) k=cg r k:=by simp [cg,List.find?_cons,e]
theorem rK (k:κ):∀kvs:List (κ×V),(kvs.any fun kv=>decide (kv.1=k))=(cg kvs k).isSome
 | []=>rfl
 | p:: r=>by
  rw [List.any_cons]
  by_cases e:p.1=k
  ·simp only [gU e,decide_eq_true e,Bool.true_or,Option.isSome_some]
  ·rw [gm e,decide_eq_false e,Bool.false_or];exact rK k r
theorem Jz (k j:κ) (y:V):∀kvs:List (κ×V),cg (kvs.map fun kv=>if kv.1=k then(kv.1,y) else kv) j=(cg kvs j).map fun x=>if j=k then y else x
 | []=>rfl
 | p:: r=>by
  have ih:=Jz k j y r
  rw [List.map_cons]
  by_cases h:p.1=k
  ·rw [if_pos h]
   by_cases e:p.1=j
   ·rw [gU (p:=(p.1,y)) e,gU e,Option.map_some,if_pos (e.symm.trans h)]
   ·rw [gm (p:=(p.1,y)) e,gm e,ih]
  ·rw [if_neg h]
   by_cases e:p.1=j
   ·rw [gU (p:=p) e,gU e,Option.map_some,if_neg (fun z=>h (e.trans z))]
   ·rw [gm (p:=p) e,gm e,ih]
theorem GQ (k j:κ) (y:V):∀kvs:List (κ×V),cg kvs k=none->cg (kvs ++ [(k,y)]) j=if j=k then some y else cg kvs j
 | [],_=>by
  by_cases e:k=j
  ·rw [if_pos e.symm];exact gU (p:=(k,y)) e
  ·rw [if_neg (fun z=>e z.symm)];exact gm (p:=(k,y)) e
 | p:: r,hn=>by
  rw [List.cons_append]
  have hk:¬p.1=k:=fun z=>by rw [gU z] at hn;cases hn
  rw [gm hk] at hn
  have ih:=GQ k j y r hn
  by_cases e:p.1=j
  ·rw [gU e,gU e,if_neg (fun z=>hk (e.trans z))]
  ·rw [gm e,gm e,ih]
theorem Rr (kvs:List (κ×V)) (k j:κ) (y:V):cg (putK kvs k y) j=if j=k then some y else cg kvs j:=by
 unfold putK
 by_cases a:(kvs.any fun kv=>decide (kv.1=k))=true
 ·rw [if_pos a,Jz]
  rw [rK] at a
  by_cases e:j=k
  ·obtain⟨x,hx⟩:=Option.isSome_iff_exists.mp a
   rw [if_pos e,e,hx,Option.map_some,if_pos rfl]
  ·rw [if_neg e]
   cases cg kvs j with
   | none=>rfl
   | some x=>rw [Option.map_some,if_neg e]
 ·rw [if_neg a]
  refine GQ k j y kvs ?_
  rw [rK] at a
  cases q:cg kvs k with
  | none=>rfl
  | some x=>rw [q] at a;exact(a rfl).elim
theorem lY (kvs:List (κ×V)) (k:κ) (v:V):(putK kvs k v).length<=kvs.length+1:=by
 unfold putK
 split
 ·rw [List.length_map];omega
 ·rw [List.length_append,List.length_cons,List.length_nil];omega
theorem gQ {kvs:List (κ×V)} {k:κ} (v:V) (h:cg kvs k=none):putK kvs k v=kvs ++ [(k,v)]:=by
 unfold putK
 rw [rK,h]
 exact if_neg (by decide)
theorem tR.isSome_eq {o:Option V} {u:Option Value} (r:tR o u):o.isSome=u.isSome:=by
 cases o with
 | none=>cases u with
  | none=>rfl
  | some _=>exact(show False from r).elim
 | some _=>cases u with
  | none=>exact(show False from r).elim
  | some _=>rfl
theorem tR.getD {o:Option V} {u:Option Value} {d:V} {d':Value} (r:tR o u) (rd:RelV d d'):RelV (o.getD d) (u.getD d'):=by
 cases o with
 | none=>cases u with
  | none=>exact rd
  | some _=>exact(show False from r).elim
 | some _=>cases u with
  | none=>exact(show False from r).elim
  | some _=>exact r
theorem KV.val {kvs:List (κ×V)} {vs:List (κ×Value)} (r:KV kvs vs) (k:κ):tR (cg kvs k) (valueAt vs k):=by
 unfold KV at r
 induction r with
 | nil=>exact True.intro
 | @cons p q ps qs h t ih=>
  obtain⟨h1,h2⟩:=h
  by_cases e:p.1=k
  ·have e':q.1=k:=h1.symm.trans e
   have b:valueAt (q:: qs) k=some q.2:=by simp [valueAt,List.find?_cons,e']
   rw [gU e,b];exact h2
  ·have e':¬q.1=k:=fun z=>e (h1.trans z)
   have b:valueAt (q:: qs) k=valueAt qs k:=by simp [valueAt,List.find?_cons,e']
   rw [gm e,b];exact ih
theorem KV.any {kvs:List (κ×V)} {vs:List (κ×Value)} (r:KV kvs vs) (k:κ):(kvs.any fun kv=>decide (kv.1=k))=vs.any fun kv=>decide (kv.1=k):=by
 unfold KV at r
 induction r with
 | nil=>rfl
 | cons h t ih=>rw [List.any_cons,List.any_cons,ih,h.1]
theorem KV.repl {kvs:List (κ×V)} {vs:List (κ×Value)} (r:KV kvs vs) (k:κ) {y:V} {u:Value} (ry:RelV y u):
  KV (kvs.map fun kv=>if kv.1=k then(kv.1,y) else kv) (vs.map fun kv=>if kv.1=k then(kv.1,u) else kv):=by
 unfold KV at r ⊢
 induction r with
 | nil=>exact .nil
 | @cons p q ps qs h t ih=>
  rw [List.map_cons,List.map_cons]
  refine .cons ?_ ih
  obtain⟨h1,h2⟩:=h
  by_cases e:p.1=k
  ·rw [if_pos e,if_pos (h1.symm.trans e)];exact⟨h1,ry⟩
  ·rw [if_neg e,if_neg (fun z=>e (h1.trans z))];exact⟨h1,h2⟩
theorem KV.put {kvs:List (κ×V)} {vs:List (κ×Value)} (r:KV kvs vs) (k:κ) {y:V} {u:Value} (ry:RelV y u):KV (putK kvs k y) (stored vs k u):=by
 unfold putK stored
 rw [r.any k]
 by_cases e:(vs.any fun kv=>decide (kv.1=k))=true
 ·rw [if_pos e,if_pos e];exact r.repl k ry
 ·rw [if_neg e,if_neg e];exact Paired.snoc r ⟨rfl,ry⟩
theorem KV.length {kvs:List (κ×V)} {vs:List (κ×Value)} (r:KV kvs vs):kvs.length=vs.length:=Paired.length r
end
theorem DQ {P:Program} {w:World} {k:Key} {u:Value} (r:RelV (kV k) u):(cZ P w).is k u=true:=by
 cases k with
 | inl i=>obtain⟨t,e⟩:=(show ∃t,u=Value.int i t from r);subst e;exact Jr P w i t
 | inr x=>obtain⟨t,e⟩:=(show ∃t,u=Value.str x t from r);subst e;exact my P w x t
theorem FJ {P:Program} {w:World}:∀{ks:List Key} {us:List Value},Vals (ks.map kV) us->ItemsAre (cZ P w) ks us
 | [],_,r=>by rw [List.map_nil] at r;cases r;exact .nil
 | k:: ks,_,r=>by
  rw [List.map_cons] at r
  cases r with
  | cons h t=>exact .cons (DQ h) (FJ t)
noncomputable abbrev KT (H:Hp):List (List Key×V)->List (List Key×Addr×Value)->Prop:=Paired fun p q=>p.1=q.1/\H q.2.1=some (.tup (p.1.map kV))/\RelV p.2 q.2.2
theorem KT.val {H:Hp} {kvs:List (List Key×V)} {xs:List (List Key×Addr×Value)} (r:KT H kvs xs) (k:List Key):tR (cg kvs k) ((atKey xs k).map (·.2)):=by
 induction r with
 | nil=>exact True.intro
 | @cons p q ps qs h t ih=>
  obtain⟨h1,_,h2⟩:=h
  by_cases e:p.1=k
  ·have e':q.1=k:=h1.symm.trans e
   have b:atKey (q:: qs) k=some q.2:=by simp [atKey,List.find?_cons,e']
   rw [gU e,b];exact h2
  ·have e':¬q.1=k:=fun z=>e (h1.trans z)
   have b:atKey (q:: qs) k=atKey qs k:=by simp [atKey,List.find?_cons,e']
   rw [gm e,b];exact ih
theorem KT.repl {H:Hp} {kvs:List (List Key×V)} {xs:List (List Key×Addr×Value)} (r:KT H kvs xs) (k:List Key) {y:V} {u:Value} (ry:RelV y u):
  KT H (kvs.map fun kv=>if kv.1=k then(kv.1,y) else kv) (xs.map (putAt k u)):=by
 induction r with
 | nil=>exact .nil
 | @cons p q ps qs h t ih=>
  rw [List.map_cons,List.map_cons]
  refine .cons ?_ ih
  obtain⟨h1,h2,h3⟩:=h
  unfold putAt
  by_cases e:p.1=k
  ·rw [if_pos e,if_pos (h1.symm.trans e)];exact⟨h1,h2,ry⟩
  ·rw [if_neg e,if_neg (fun z=>e (h1.trans z))];exact⟨h1,h2,h3⟩
theorem KT.put {H:Hp} {kvs:List (List Key×V)} {xs:List (List Key×Addr×Value)} (r:KT H kvs xs) (k:List Key) {b:Addr} {y:V} {u:Value} (hb:H b=some (.tup (k.map kV))) (ry:RelV y u):
  KT H (putK kvs k y) (storedH xs k b u):=by
 have e:(kvs.any fun kv=>decide (kv.1=k))=(atKey xs k).isSome:=by
  rw [rK,(r.val k).isSome_eq,Option.isSome_map]
 unfold putK storedH
 rw [e]
 by_cases q:(atKey xs k).isSome=true
 ·rw [if_pos q,if_pos q];exact r.repl k ry
 ·rw [if_neg q,if_neg q];exact Paired.snoc r ⟨rfl,hb,ry⟩
theorem KT.keeps {H H':Hp} {kvs:List (List Key×V)} {xs:List (List Key×Addr×Value)} (r:KT H kvs xs) (ht:∀b ys,H b=some (.tup ys)->H' b=some (.tup ys)):KT H' kvs xs:=
 Paired.mapP r fun _ _ z=>⟨z.1,ht _ _ z.2.1,z.2.2⟩
section
variable {P:Program} {w:World} {H:Hp} {h:Heap} {a:Addr}
theorem Vt {u:HO} (ok:vf P w H h) (e:Rd H a u):fY P w H h a u:=e.ok ok
theorem z7 {kvs:List (Key×V)} (ok:vf P w H h) (e:Rd H a (.dK kvs)):kvs.length<=sizeLine/\(a == sysModules)=false/\∃vs,KV kvs vs/\h.DictOf (cZ P w) a vs:=
 show fY P w H h a (.dK kvs) from Vt ok e
theorem UV {kvs:List (Key×V)} (ok:vf P w H h) (e:H a=some (.dK kvs)):kvs.length<=sizeLine/\(a == sysModules)=false/\∃vs,KV kvs vs/\h.DictOf (cZ P w) a vs:=z7 ok (.inl e)
theorem zG {ks:List Key} (ok:vf P w H h) (e:H a=some (.tup (ks.map kV))):(tupleKind (cZ P w)).is h ks a:=by
 obtain⟨_,its,r,o,h1,h2,n,h3⟩:=(show fY P w H h a (.tup (ks.map kV)) from ok a _ e)
 exact⟨o,its.toArray,n,h1,h2,h3,by simpa using FJ r⟩
theorem Dh {kvs:List (List Key×V)} (ok:vf P w H h) (e:Rd H a (.dT kvs)):kvs.length<=sizeLine/\(a == sysModules)=false/\
  ∃xs,KT H kvs xs/\h.DictOfH (tupleKind (cZ P w)) a xs:=by
 obtain⟨z,y,xs,r,o,es,ep,h1,h2,h3,h4,h5⟩:=(show fY P w H h a (.dT kvs) from Vt ok e)
 refine⟨z,y,xs,r,o,es,ep,h1,h2,h3,h4,fun x hx=>?_,h5⟩
 have all:∀{l:List (List Key×V)} {m:List (List Key×Addr×Value)},KT H l m->∀x∈m,(tupleKind (cZ P w)).is h x.1 x.2.1:=by
  intro l m q
  induction q with
  | nil=>intro x hx;exact nomatch hx
  | @cons p q ps qs hq t ih=>
   intro x hx
   rcases List.mem_cons.mp hx with e | hx
   ·subst e
    exact zG ok (by rw [<-hq.1];exact hq.2.1)
   ·exact ih x hx
 exact all r x hx
theorem XQ {kvs:List (List Key×V)} (ok:vf P w H h) (e:H a=some (.dT kvs)):kvs.length<=sizeLine/\(a == sysModules)=false/\
  ∃xs,KT H kvs xs/\h.DictOfH (tupleKind (cZ P w)) a xs:=Dh ok (.inl e)
end
noncomputable def d7 (H:Hp) (a:Addr) (y:V) (r:Option V):Prop:=
 (∃kvs k,Rd H a (.dK kvs)/\y=kV k/\r=cg kvs k)∨∃kvs k b,Rd H a (.dT kvs)/\y=.ref b/\H b=some (.tup (k.map kV))/\r=cg kvs k
noncomputable def j7 (H:Hp) (a:Addr) (y v:V) (H':Hp):Prop:=
 (∃kvs k,H a=some (.dK kvs)/\y=kV k/\kvs.length <sizeLine/\H'=upd H a (.dK (putK kvs k v)))∨
 ∃kvs k b,H a=some (.dT kvs)/\y=.ref b/\H b=some (.tup (k.map kV))/\kvs.length <sizeLine/\H'=upd H a (.dT (putK kvs k v))
theorem d7.k {H:Hp} {a:Addr} {kvs:List (Key×V)} {k:Key} (e:H a=some (.dK kvs)):d7 H a (kV k) (cg kvs k):=.inl ⟨kvs,k,.inl e,rfl,rfl⟩
theorem j7.k {H:Hp} {a:Addr} {kvs:List (Key×V)} {k:Key} {v:V} (e:H a=some (.dK kvs)) (hl:kvs.length <sizeLine):j7 H a (kV k) v (upd H a (.dK (putK kvs k v))):=.inl ⟨kvs,k,e,rfl,hl,rfl⟩
section
variable {X:Cx} {pins:List (Addr×Obj)} {σ:St} {H:Hp} {s:Shared} {a:Addr} {y v:V} {u r:Value} {o:Option V} {A:Around} {E:Value->Shared->Prop}
theorem Inv.big (I:Inv X pins σ H s):sysModules <s.heap.objs.size:=by
 have h:mainGlobals <s.heap.objs.size:=(I.mod.glob.keeps I.bk).lt
 exact Nat.lt_trans (by decide) h
theorem Gz {Q:Value->Shared->Prop} (hu:A.units+1 <cLine) (I:Inv X pins σ H s) (g:d7 H a y (some v)) (ry:RelV y u) (h:∀w' s',Inv X pins σ H s'->RelV v w'->Q w' s'):
  wpAny (model X.prog X.w) A (getItem (.ref a) u) Q E s:=by
 rcases g with ⟨kvs,k,e,ey,l⟩ | ⟨kvs,k,b,e,ey,eb,l⟩
 ·subst ey
  obtain⟨z,hd,vs,rel,dd⟩:=z7 I.hok e
  obtain⟨w',hw,rw'⟩:=tR.some_of (v:=v) (o:=valueAt vs k) (by rw [l];exact rel.val k)
  exact wpAny_getItem_of (DQ ry) dd.mapOf hw (h w' _ (I.tok _) rw')
 ·subst ey
  cases (show u=Value.ref b from ry)
  obtain⟨z,hd,xs,rel,dd⟩:=Dh I.hok e
  obtain⟨w',hw,rw'⟩:=tR.some_of (v:=v) (o:=(atKey xs k).map (·.2)) (by rw [l];exact rel.val k)
  obtain⟨p,hp,hp2⟩:=Option.map_eq_some_iff.mp hw
  refine wpAny_getItem_heap (tupleKind_room_in1 hu) (zG I.hok eb) dd hp ?_
  rw [hp2]
  exact h w' _ (I.tok _) rw'
theorem ZV {Q:Value->Shared->Prop} (hu:A.units+1 <cLine) (I:Inv X pins σ H s) (g:d7 H a y o) (ry:RelV y u) (h:∀s',Inv X pins σ H s'->Q (.bool o.isSome) s'):
  wpAny (model X.prog X.w) A (compareOp .In u (.ref a)) Q E s:=by
 rcases g with ⟨kvs,k,e,ey,l⟩ | ⟨kvs,k,b,e,ey,eb,l⟩
 ·subst ey
  obtain⟨z,hd,vs,rel,dd⟩:=z7 I.hok e
  refine wpAny_in_of (DQ ry) hd dd.mapOf ?_
  rw [<-(rel.val k).isSome_eq,<-l]
  exact h _ (I.tok _)
 ·subst ey
  cases (show u=Value.ref b from ry)
  obtain⟨z,hd,xs,rel,dd⟩:=Dh I.hok e
  refine wpAny_in_heap (tupleKind_room_in1 hu) (zG I.hok eb) hd dd ?_
  have q:=(rel.val k).isSome_eq
  rw [Option.isSome_map] at q
  rw [<-q,<-l]
  exact h _ (I.tok _)
theorem TJ {Q:Value->Shared->Prop} (hu:A.units+1 <cLine) (I:Inv X pins σ H s) (g:d7 H a y o) (ry:RelV y u) (h:∀s',Inv X pins σ H s'->Q (.bool (!o.isSome)) s'):
  wpAny (model X.prog X.w) A (compareOp .NotIn u (.ref a)) Q E s:=by
 rcases g with ⟨kvs,k,e,ey,l⟩ | ⟨kvs,k,b,e,ey,eb,l⟩
 ·subst ey
  obtain⟨z,hd,vs,rel,dd⟩:=z7 I.hok e
  refine wpAny_notIn_of (DQ ry) hd dd.mapOf ?_
  rw [<-(rel.val k).isSome_eq,<-l]
  exact h _ (I.tok _)
 ·subst ey
  cases (show u=Value.ref b from ry)
  obtain⟨z,hd,xs,rel,dd⟩:=Dh I.hok e
  refine wpAny_notIn_heap (tupleKind_room_in1 hu) (zG I.hok eb) hd dd ?_
  have q:=(rel.val k).isSome_eq
  rw [Option.isSome_map] at q
  rw [<-q,<-l]
  exact h _ (I.tok _)
theorem Hi {h':Heap} {t':Nat} {ob:HO} (I:Inv X pins σ H s) (mu:XR (H a)) (hs:Heap.SameBut a s.heap h') (he:∃q,h'.get? a=some q) (new:fY X.prog X.w (upd H a ob) h' a ob):
  Inv X pins σ (upd H a ob) { s with heap:=h',toks:=t' }:=
 I.write (x:=a) (e:=a) mu (.inl rfl) (fun b q hb z=>(hs.2 b hb).trans z) he new
theorem Ry {P:Program} {w:World} {H':Hp} {h':Heap} {kvs:List (Key×V)} {vs:List (Key×Value)} (z:kvs.length<=sizeLine) (hd:(a == sysModules)=false) (rel:KV kvs vs) (dd:h'.DictOf (cZ P w) a vs):
  fY P w H' h' a (.dK kvs):=⟨z,hd,vs,rel,dd⟩
theorem zF {H':Hp} {Q:Unit->Shared->Prop} (hu:A.units+1 <cLine) (I:Inv X pins σ H s) (g:j7 H a y v H') (ry:RelV y u) (rv:RelV v r) (h:∀s',Inv X pins σ H' s'->Q () s'):
  wpAny (model X.prog X.w) A (setItem (.ref a) u r) Q E s:=by
 rcases g with ⟨kvs,k,e,ey,l,eH⟩ | ⟨kvs,k,b,e,ey,eb,l,eH⟩
 ·subst ey eH
  obtain⟨z,hd,vs,rel,dd⟩:=UV I.hok e
  have hz:vs.length<=sizeLine:=by rw [<-rel.length];exact z
  have hl:(putK kvs k v).length<=sizeLine:=by have:=lY kvs k v;omega
  refine wpAny_setItem_pairs (hsz:=hz) (DQ ry) dd fun h' dd' hs=>h _ ?_
  have he:∃q,h'.get? a=some q:=let ⟨q,_,_,hq,_⟩:=dd';⟨q,hq⟩
  exact Hi I (by rw [e];exact True.intro) hs he (Ry hl hd (rel.put k rv) dd')
 ·subst ey eH
  cases (show u=Value.ref b from ry)
  obtain⟨z,hd,xs,rel,dd⟩:=XQ I.hok e
  have hz:xs.length<=sizeLine:=by rw [<-Paired.length rel];exact z
  have hl:(putK kvs k v).length<=sizeLine:=by have:=lY kvs k v;omega
  refine wpAny_setItem_heap (hsz:=hz) (tupleKind_room_in1 hu) (zG I.hok eb) dd fun h' dd' hs=>h _ ?_
  obtain⟨q,es,ep,hq,h2,h3,h4,_,h5⟩:=dd'
  refine Hi I (by rw [e];exact True.intro) hs ⟨q,hq⟩ ⟨hl,hd,_,(rel.put k eb rv).keeps fun c ys ec=>?_,q,es,ep,hq,h2,h3,h4,h5⟩
  rw [aH (vZ ec e (fun z=>nomatch z))]
  exact ec
end
section
variable {X:Cx} {pins:List (Addr×Obj)} {σ:St} {H:Hp} {s:Shared} {a:Addr} {kvs:List (Key×V)} {k:Key} {u:Value} {A:Around} {E:Value->Shared->Prop}
end
noncomputable def Yc (i:Expr):Prop:=∀ov iv,subscripted i false ov iv=operate [ov,iv] (getItem ov iv)
theorem SJ {prog:Program} {w:World} {A:Around} {E:Value->Shared->Prop} {s:Shared} {env:Env} {value slice:Expr} {pos:Pos} {T id:String} {Q:Value->Shared->Prop}
  (hl:typeLookup (.type T) "__getitem__" =pure (some (.builtin id))) (hs:Yc slice)
  (h:wpAny (model prog w) A (eval value env) (fun o s₁=>wpAny (model prog w) A (eval slice env) (fun i s₂=>s₂.TypeIs o T/\wpAny (model prog w) A (getItem o i) Q E s₂) E s₁) E s):
  wpAny (model prog w) A (eval (.Subscript value slice pos) env) Q E s:=by
 refine Subscript_ (wpAny_mono h (fun o s₁ h₁=>wpAny_mono h₁ (fun i s₂ h₂=>?_) fun _ _ x=>x) fun _ _ x=>x)
 obtain⟨hT,h₂⟩:=h₂
 unfold subscriptTail
 refine wpAny_bind ?_
 rw [getitemInPython_of_ne hT.not_modules]
 refine wpAny_bind (wpAny_specialOf hT hl ?_)
 have fin:wpAny (model prog w) A (subscripted slice false o i) (fun r s₃=>wpAny (model prog w) A (letTemporaryGo value o r >>= fun _=>pure r) Q E s₃) E s₂:=by
  rw [hs o i]
  exact wpAny_operating (wpAny_mono h₂ (fun r s₃ h₃=>wpAny_bind (wpAny_letTemporaryGo (wpAny_pure h₃))) fun _ _ x=>x)
 first
  | exact wpAny_pure (wpAny_bind fin)
  | exact wpAny_bind (wpAny_pure (wpAny_bind fin))
  | exact wpAny_bind fin
theorem J6 {X:Cx} {pins:List (Addr×Obj)} {σ:St} {H:Hp} {s:Shared} {a:Addr} {y:V} {o:Option V} (I:Inv X pins σ H s) (g:d7 H a y o):s.TypeIs (.ref a) "dict" :=by
 rcases g with ⟨kvs,k,e,_,_⟩ | ⟨kvs,k,b,e,_,_,_⟩
 ·obtain⟨_,_,vs,_,dd⟩:=z7 I.hok e
  exact dd.typeIs
 ·obtain⟨_,_,xs,_,dd⟩:=Dh I.hok e
  exact dd.typeIs
inductive QF (Q:VK) (x:V) (y:V) (H2:Hp):Prop where
 | mk:∀a v,x=.ref a->d7 H2 a y (some v)->Q v H2->QF Q x y H2
noncomputable def YB (td ty:TE):TE:=fun σ H Q=>td σ H fun x H1=>ty σ H1 fun y H2=>QF Q x y H2
inductive Vs (Q:VK) (y:V) (x:V) (H2:Hp):Prop where
 | mk:∀a o,x=.ref a->d7 H2 a y o->Q (.bl o.isSome) H2->Vs Q y x H2
noncomputable def Zj (ty td:TE):TE:=fun σ H Q=>ty σ H fun y H1=>td σ H1 fun x H2=>Vs Q y x H2
inductive Jt (Q:VK) (y:V) (x:V) (H2:Hp):Prop where
 | mk:∀a o,x=.ref a->d7 H2 a y o->Q (.bl (!o.isSome)) H2->Jt Q y x H2
noncomputable def S5 (ty td:TE):TE:=fun σ H Q=>ty σ H fun y H1=>td σ H1 fun x H2=>Jt Q y x H2
inductive Q7 (D:Ends) (σ:St) (v:V) (x:V) (y:V) (H3:Hp):Prop where
 | mk:∀a H4,x=.ref a->j7 H3 a y v H4->D.nx σ H4->Q7 D σ v x y H3
noncomputable def Xg (td ty tv:TE):TS:=fun D σ H=>tv σ H fun v H1=>td σ H1 fun x H2=>ty σ H2 fun y H3=>Q7 D σ v x y H3
inductive QK (tv:TE) (rd:V->V->Hp->VK->Prop) (D:Ends) (σ:St) (x:V) (y:V) (H2:Hp):Prop where
 | mk:∀a v,x=.ref a->d7 H2 a y (some v)->(tv σ H2 fun y2 H3=>rd v y2 H3 fun z H4=>∃H5,j7 H4 a y z H5/\D.nx σ H5)->QK tv rd D σ x y H2
noncomputable def Xm (td ty tv:TE) (rd:V->V->Hp->VK->Prop):TS:=fun D σ H=>td σ H fun x H1=>ty σ H1 fun y H2=>QK tv rd D σ x y H2
section
variable {X:Cx} {o i e value:Expr} {pos pos' tpos:Pos} {td ty tv:TE}
theorem bV (hu:X.A.units+1 <cLine) (ho:PE X o td) (hi:PE X i ty) (hs:Yc i):PE X (.Subscript o i pos) (YB td ty):=by
 intro pins s σ H Q I h
 refine SJ PySem.F.slot_dict_getitem.lookup hs (dJ (ho pins s σ H _ I h) fun u s1 ⟨x,H1,I1,rx,q1⟩=>dJ (hi pins s1 σ H1 _ I1 q1) fun iv s2 hpt=>?_)
 obtain⟨y,H2,I2,ry,a,v,ex,g,q2⟩:=hpt
 subst ex
 obtain rfl:u=Value.ref a:=rx
 exact⟨J6 I2 g,Gz hu I2 g ry fun w' s3 I3 rw'=>⟨v,H2,I3,rw',q2⟩⟩
theorem zQ (hu:X.A.units+1 <cLine) (hi:PE X i ty) (ho:PE X o td):PC X .In i o (Zj ty td):=by
 intro pins s σ H Q I h
 refine dJ (hi pins s σ H _ I h) fun iv s1 ⟨y,H1,I1,ry,q1⟩=>dJ (ho pins s1 σ H1 _ I1 q1) fun u s2 hpt=>?_
 obtain⟨x,H2,I2,rx,a,ov,ex,g,q2⟩:=hpt
 subst ex
 obtain rfl:u=Value.ref a:=rx
 exact ZV hu I2 g ry fun s3 I3=>⟨.bl ov.isSome,H2,I3,rfl,q2⟩
theorem vm (hu:X.A.units+1 <cLine) (hi:PE X i ty) (ho:PE X o td):PC X .NotIn i o (S5 ty td):=by
 intro pins s σ H Q I h
 refine dJ (hi pins s σ H _ I h) fun iv s1 ⟨y,H1,I1,ry,q1⟩=>dJ (ho pins s1 σ H1 _ I1 q1) fun u s2 hpt=>?_
 obtain⟨x,H2,I2,rx,a,ov,ex,g,q2⟩:=hpt
 subst ex
 obtain rfl:u=Value.ref a:=rx
 exact TJ hu I2 g ry fun s3 I3=>⟨.bl (!ov.isSome),H2,I3,rfl,q2⟩
theorem fD (hu:X.A.units+1 <cLine) (ho:PE X o td) (hi:PE X i ty) (hv:PE X value tv) (hs:swapsWith value (some (.Subscript o i pos')) pos.line X.env=pure false):
  PS X (.Assign [.Subscript o i pos'] value pos) (Xg td ty tv):=by
 intro pins s σ H D I h
 refine wpAny_Assign_Subscript (dJ (hv pins s σ H _ I h) fun r s1 ⟨v,H1,I1,rv,q1⟩=>dJ (ho pins s1 σ H1 _ I1 q1) fun u s2 ⟨x,H2,I2,rx,q2⟩=>dJ (hi pins s2 σ H2 _ I2 q2) fun iv s3 hpt=>?_) hs
 obtain⟨y,H3,I3,ry,a,H4,ex,g,q3⟩:=hpt
 subst ex
 obtain rfl:u=Value.ref a:=rx
 exact zF hu I3 g ry rv fun s4 I4=>⟨σ,H4,I4,q3⟩
theorem Ip {op:Operator} {rd:V->V->Hp->VK->Prop} (hu:X.A.units+1 <cLine) (ho:PE X o td) (hi:PE X i ty) (hv:PE X value tv) (hop:Yd X op rd)
  (ha:∀ov iv new,augStore i ov iv new=(do holding [new,ov,iv] (setItem ov iv new);release [new,ov,iv] [];pure .next)):PS X (.AugAssign (.Subscript o i tpos) op value pos) (Xm td ty tv rd):=by
 intro pins s σ H D I h
 refine wpAny_AugAssign_SubscriptAny (dJ (ho pins s σ H _ I h) fun u s1 ⟨x,H1,I1,rx,q1⟩=>dJ (hi pins s1 σ H1 _ I1 q1) fun iv s2 hpt=>?_) ha
 obtain⟨y,H2,I2,ry,a,v,ex,g,q2⟩:=hpt
 subst ex
 obtain rfl:u=Value.ref a:=rx
 refine Gz hu I2 g ry fun w' s3 I3 rw'=>dJ (hv pins s3 σ H2 _ I3 q2) fun w2 s4 ⟨y2,H3,I4,ry2,q3⟩=>dJ (hop pins s4 σ H3 v y2 w' w2 _ I4 rw' ry2 q3) fun w3 s5 hpt=>?_
 obtain⟨z,H4,I5,rz,H5,g5,q4⟩:=hpt
 exact zF hu I5 g5 ry rz fun s6 I6=>⟨σ,H5,I6,q4⟩
end
theorem Jv {P:Program} {w:World} {H:Hp} (h:Heap) (hb:sysModules <h.objs.size):fY P w H (h.push { cls:=.type "dict",data:=.dict #[] }) h.objs.size (.dK []):=
 ⟨Nat.zero_le _,beq_eq_false_iff_ne.mpr (Ne.symm (Nat.ne_of_lt hb)),[],.nil,Heap.DictOf.new h⟩
noncomputable def WK:TE:=fun _ H Q=>∀p,H p=none->Q (.ref p) (upd H p (.dK []))
section
variable {X:Cx} {pos:Pos}
theorem eY:PE X (.Dict [] [] pos) WK:=fun pins s σ H Q I h=>
 wpAny_Dict_empty ⟨.ref s.heap.objs.size,_,I.laid (a:=s.heap.objs.size) (o:=.dK []) (t':=s.toks) (fun _ _ q=>Heap.get?_push_of_some _ q) (Nat.le_refl _) (Jv s.heap I.big),rfl,h _ (I.hok.fresh (Nat.le_refl _))⟩
end
noncomputable def KJ:List (TE×TE)->St->Hp->(List (V×V)->Hp->Prop)->Prop
 | [],_,H,Q=>Q [] H
 | (tk,tv):: r,σ,H,Q=>tk σ H fun x H1=>tv σ H1 fun y H2=>KJ r σ H2 fun ps H3=>Q ((x,y):: ps) H3
noncomputable abbrev VV:List (V×V)->List (Value×Value)->Prop:=Paired fun p q=>RelV p.1 q.1/\RelV p.2 q.2
noncomputable def YX (X:Cx) (pos:Pos) (keys:List (Option Expr)) (values:List Expr) (trs:List (TE×TE)):Prop:=
 ∀(pins:List (Addr×Obj)) (s:Shared) (σ:St) (H:Hp) (Q:List (V×V)->Hp->Prop),Inv X pins σ H s->KJ trs σ H Q->
  wpAny (model X.prog X.w) X.A (evalPairs (pairTrees keys values X.env pos)) (fun vs s'=>∃ps H',Inv X pins σ H' s'/\VV ps vs/\Q ps H') X.xe s
theorem Uv {X:Cx} {pos:Pos}:YX X pos [] [] []:=fun pins s σ H Q I h=>pairTrees_nil_walk ⟨[],H,I,.nil,h⟩
theorem Ra {X:Cx} {pos:Pos} {k v:Expr} {ks:List (Option Expr)} {vs:List Expr} {tk tv:TE} {trs:List (TE×TE)} (hk:PE X k tk) (hv:PE X v tv) (hr:YX X pos ks vs trs):
  YX X pos (some k:: ks) (v:: vs) ((tk,tv):: trs):=fun pins s σ H Q I h=>
 pairTrees_cons_walk (dJ (hk pins s σ H _ I h) fun u s1 ⟨x,H1,I1,rx,q1⟩=>dJ (hv pins s1 σ H1 _ I1 q1) fun w2 s2 ⟨y,H2,I2,ry,q2⟩=>
  dJ (hr pins s2 σ H2 _ I2 q2) fun ws s3 ⟨ps,H3,I3,rel,q3⟩=>⟨(x,y):: ps,H3,I3,.cons ⟨rx,ry⟩ rel,q3⟩)
noncomputable def uW (kvs more:List (Key×V)):List (Key×V):=more.foldl (fun acc kv=>putK acc kv.1 kv.2) kvs
theorem KV.merge:∀{more:List (Key×V)} {rs:List (Key×Value)} {kvs:List (Key×V)} {vs:List (Key×Value)},KV more rs->KV kvs vs->KV (uW kvs more) (merged vs rs):=by
 intro more rs kvs vs r
 unfold KV at r
 induction r generalizing kvs vs with
 | nil=>intro q;exact q
 | @cons p q ps qs h t ih=>
  intro r0
  have e:KV (putK kvs p.1 p.2) (stored vs q.1 q.2):=by
   have:=r0.put p.1 h.2
   rw [<-h.1];exact this
  exact ih e
theorem wO:∀(more kvs:List (Key×V)),(uW kvs more).length<=kvs.length+more.length
 | [],kvs=>by show kvs.length<=kvs.length+0;omega
 | p:: r,kvs=>by
  have h1:=wO r (putK kvs p.1 p.2)
  have h2:=lY kvs p.1 p.2
  show(uW (putK kvs p.1 p.2) r).length<=_
  rw [List.length_cons];omega
theorem DK {P:Program} {w:World}:∀{kvs:List (Key×V)} {ws:List (Value×Value)},VV (kvs.map fun kv=>(kV kv.1,kv.2)) ws->∃rs,Carries (cZ P w) ws rs/\KV kvs rs
 | [],_,r=>by rw [List.map_nil] at r;cases r;exact⟨[],True.intro,.nil⟩
 | p:: kvs,_,r=>by
  rw [List.map_cons] at r
  cases r with
  | @cons a b as bs h t=>
   obtain⟨rs,c,q⟩:=DK (P:=P) (w:=w) t
   obtain⟨b1,b2⟩:=b
   exact⟨(p.1,b2):: rs,⟨DQ h.1,rfl,c⟩,.cons ⟨rfl,h.2⟩ q⟩
noncomputable def YC (trs:List (TE×TE)):TE:=fun σ H Q=>∀p,H p=none->KJ trs σ (upd H p (.dK [])) fun ps H2=>H2 p=some (.dK [])/\∃kvs:List (Key×V),ps=kvs.map (fun kv=>(kV kv.1,kv.2))/\kvs.length<=15/\Q (.ref p) (upd H2 p (.dK (uW [] kvs)))
theorem Sy {X:Cx} {pos:Pos} {keys:List (Option Expr)} {values:List Expr} {trs:List (TE×TE)} (h:YX X pos keys values trs) (hall:keys.all (·.isSome)=true) (hl:keys.length=values.length) (h0:keys≠[])
  (h15:keys.length<=15):PE X (.Dict keys values pos) (YC trs):=by
 intro pins s σ H Q I q
 have hn:=I.hok.fresh (Nat.le_refl s.heap.objs.size)
 have I1:=I.laid (a:=s.heap.objs.size) (o:=.dK []) (h':=s.heap.push { cls:=.type "dict",data:=.dict #[] }) (t':=s.toks) (fun _ _ q=>Heap.get?_push_of_some _ q) (Nat.le_refl _) (Jv s.heap I.big)
 refine wpAny_Dict_walk (knd:=cZ X.prog X.w) hall hl h0 h15 (dJ (h pins _ σ _ _ I1 (q _ hn)) fun ws s2 hpt=>?_)
 obtain⟨ps,H2,I2,rel,e,kvs,ep,lk,q2⟩:=hpt
 subst ep
 obtain⟨rs,c,rk⟩:=DK (P:=X.prog) (w:=X.w) rel
 obtain⟨z,hd,vs0,r0,dd⟩:=UV I2.hok e
 cases r0
 refine⟨rs,c,dd,fun h' dd' hs=>⟨.ref s.heap.objs.size,_,?_,rfl,q2⟩⟩
 have hz:(uW [] kvs).length<=sizeLine:=by
  have h1:=wO kvs []
  rw [List.length_nil] at h1
  rw [sizeLine_eq];omega
 have he:∃q,h'.get? s.heap.objs.size=some q:=let ⟨q,_,_,hq,_⟩:=dd';⟨q,hq⟩
 exact Hi I2 (by rw [e];exact True.intro) hs he (Ry hz hd (rk.merge .nil) dd')
structure M2 (X:Cx) (o:Expr) (m:Str) (apos:Pos) (e f:Expr) (cpos:Pos):Prop where
 base:attributeBase o m X.env (eval o X.env)=eval o X.env
 few:((backTo cpos (starEach [e,f] X.env)).all (fun x=>!x.1) && (backToKw cpos (keywordEach [] X.env)).all (fun x=>x.1.isSome)
  && decide (([e,f]:List Expr).length+([]:List Keyword).length+(if ([]:List Keyword).isEmpty then 0 else 1) <30))=true
 line:(apos.endLine == cpos.line)=true
 trees:backTo cpos (starEach [e,f] X.env)=[(false,eval e X.env),(false,eval f X.env)]
noncomputable def Z1 (H:Hp) (a:Addr):Prop:=(∃kvs,Rd H a (.dK kvs))∨∃kvs,Rd H a (.dT kvs)
theorem VM {X:Cx} {pins:List (Addr×Obj)} {σ:St} {H:Hp} {s:Shared} {a:Addr} (I:Inv X pins σ H s) (d:Z1 H a):
  s.TypeIs (.ref a) "dict" /\(∀b,Value.ref a=.ref b->∃ob,s.heap.get? b=some ob/\ob.dict=none)/\(a == sysModules)=false:=by
 rcases d with ⟨kvs,e⟩ | ⟨kvs,e⟩
 ·obtain⟨_,hd,vs,_,dd⟩:=z7 I.hok e
  refine⟨dd.typeIs,fun b q=>?_,hd⟩
  cases q
  obtain⟨ob,_,_,h1,h2,_⟩:=dd
  exact⟨ob,h1,h2.2.1⟩
 ·obtain⟨_,hd,xs,_,dd⟩:=Dh I.hok e
  refine⟨dd.typeIs,fun b q=>?_,hd⟩
  cases q
  obtain⟨ob,_,_,h1,h2,_⟩:=dd
  exact⟨ob,h1,h2.2.1⟩
section
variable {X:Cx} {pins:List (Addr×Obj)} {σ:St} {H:Hp} {s:Shared} {a:Addr} {y d:V} {u r:Value} {o:Option V} {A:Around} {E:Value->Shared->Prop}
theorem WX {Q:Value->Shared->Prop} (hu:A.units+1 <cLine) (I:Inv X pins σ H s) (g:d7 H a y o) (ry:RelV y u) (rd:RelV d r) (h:∀w' s',Inv X pins σ H s'->RelV (o.getD d) w'->Q w' s'):
  wpAny (model X.prog X.w) A (call (.builtin "dict.get") [.ref a,u,r]) Q E s:=by
 rcases g with ⟨kvs,k,e,ey,l⟩ | ⟨kvs,k,b,e,ey,eb,l⟩
 ·subst ey
  obtain⟨z,hd,vs,rel,dd⟩:=z7 I.hok e
  refine call_meetsIn PySem.F.slot_dict_get dd.typeIs PySem.F.entry_dict_get (PySem.F.args_dict_get_3 _ _ _) (meets_dict_get_default (cZ X.prog X.w) a (DQ ry) hd r) ⟨_,dd.mapOf,h _ _ (I.tok _) ?_⟩
  rw [l]
  exact(rel.val k).getD rd
 ·subst ey
  cases (show u=Value.ref b from ry)
  obtain⟨z,hd,xs,rel,dd⟩:=Dh I.hok e
  refine call_meetsIn PySem.F.slot_dict_get dd.typeIs PySem.F.entry_dict_get (PySem.F.args_dict_get_3 _ _ _) (meetsH_dict_get_default (tupleKind (cZ X.prog X.w)) a b hd r) ⟨tupleKind_room_in1 hu,k,xs,zG I.hok eb,dd,h _ _ (I.tok _) ?_⟩
  rw [l]
  exact(rel.val k).getD rd
end
inductive M8 (ty:TE) (tx:TE) (σ:St) (Q:VK) (x:V) (H1:Hp):Prop where
 | mk:∀a,x=.ref a->Z1 H1 a->(ty σ H1 fun y H2=>tx σ H2 fun z H3=>∃o,d7 H3 a y o/\Q (o.getD z) H3)->M8 ty tx σ Q x H1
noncomputable def Wf (td ty tx:TE):TE:=fun σ H Q=>td σ H fun x H1=>M8 ty tx σ Q x H1
section
variable {X:Cx} {o e f:Expr} {apos cpos:Pos} {td ty tx:TE}
theorem Kg (hu:X.A.units+1 <cLine) (ho:PE X o td) (he:PE X e ty) (hf:PE X f tx) (m:M2 X o "get" apos e f cpos):PE X (.Call (.Attribute o "get" apos) [e,f] [] cpos) (Wf td ty tx):=by
 intro pins s σ H Q I h
 refine wpAny_Call_method m.base m.few m.line PySem.F.plainAttrs_dict PySem.F.slot_dict_get PySem.F.type_dict_get (dJ (ho pins s σ H _ I h) fun u s1 hpt=>?_)
 obtain⟨x,H1,I1,rx,a,ex,d,q1⟩:=hpt
 subst ex
 obtain rfl:u=Value.ref a:=rx
 obtain⟨t1,t2,_⟩:=VM I1 d
 refine⟨t1,t2,?_⟩
 rw [m.trees]
 refine Calls.callWith_builtin rfl (Calls.evalArgs_plain (Calls.spliced_cons (dJ (he pins s1 σ H1 _ I1 q1) fun iv s2 ⟨y,H2,I2,ry,q2⟩=>
  Calls.spliced_cons (dJ (hf pins s2 σ H2 _ I2 q2) fun fv s3 ⟨z,H3,I3,rz,ov,g,q3⟩=>Calls.spliced_nil ?_))))
 exact WX hu I3 g ry rz fun w' s4 I4 rw'=>⟨_,H3,I4,rw',q3⟩
end
section
variable {X:Cx} {pins:List (Addr×Obj)} {σ:St} {H:Hp} {s:Shared} {a:Addr} {kvs:List (Key×V)} {A:Around} {E:Value->Shared->Prop}
end
section
variable {X:Cx} {pins:List (Addr×Obj)} {σ:St} {H:Hp} {s:Shared} {a:Addr} {y:V} {u:Value} {A:Around} {E:Value->Shared->Prop}
end
section
variable {X:Cx} {pins:List (Addr×Obj)} {σ:St} {H:Hp} {s:Shared} {d:Addr} {kvs:List (Key×V)}
theorem Inv.chill (I:Inv X pins σ H s) (e:H d=some (.dK kvs)):∃o,s.heap.get? d=some o/\Inv X pins σ (upd H d (.frz o (.dK kvs))) s:=by
 obtain⟨z,hd,vs,rel,o,es,ep,ho,r⟩:=(show fY X.prog X.w H s.heap d (.dK kvs) from I.hok d _ e)
 refine⟨o,ho,?_⟩
 have:=I.write (x:=d) (e:=d) (o:=.frz o (.dK kvs)) (h':=s.heap) (t':=s.toks) (by rw [e];exact True.intro) (.inl rfl) (fun b u _ q=>q) ⟨o,ho⟩ ⟨ho,z,hd,vs,rel,o,es,ep,ho,r⟩
 exact this
theorem Inv.melt {o:Obj} (I:Inv X pins σ H s) (e:H d=some (.frz o (.dK kvs))) (h0:∀o u,X.H₀ d≠some (.frz o u)):Inv X pins σ (upd H d (.dK kvs)) s:=by
 have ne:∀b u,H b=some u->(∀o v,u≠.frz o v)->b≠d:=fun b u q n z=>by
  rw [z,e] at q
  exact n _ _ (Option.some.inj q).symm
 have no:∀b,H b=none->b≠d:=fun b q z=>by rw [z,e] at q;cases q
 refine⟨I.ok,I.os,I.bare,⟨I.base.keep,I.base.slot,fun b u q n hx=>?_,I.base.there,fun b xs q=>?_,fun b u v q=>?_,fun b ps q=>?_⟩,I.loc,I.cell,?_,fun y c q=>?_,fun p h=>?_,fun b u q=>?_,I.len⟩
 ·have z:=I.base.free b u q n hx
  rw [aH (no b z)];exact z
 ·have z:=I.base.tups b xs q
  rw [aH (ne b _ z (by intro _ _ w;cases w))];exact z
 ·have z:=I.base.frzs b u v q
  rw [aH (fun w=>by rw [w] at q;exact h0 _ _ q)];exact z
 ·obtain⟨m,z⟩:=I.base.tbls b ps q
  exact⟨m,by rw [aH (ne b _ z (by intro _ _ w;cases w))];exact z⟩
 ·rw [aH (no _ I.free)];exact I.free
 ·rw [aH (no _ (I.freeC y c q))];exact I.freeC y c q
 ·obtain⟨z1,z2,r⟩:=I.pin p h
  exact⟨z1,by rw [aH (no _ z2)];exact z2,r⟩
 ·by_cases w:b=d
  ·subst w
   rw [az] at q
   cases q
   exact(I.hok b _ e).2
  ·rw [aH w] at q
   exact(I.hok b u q).stay (fun _ _ _ z=>z) (fun c z=>by rw [aH (ne c _ z (by intro _ _ w;cases w))];exact z) fun c xs z=>by rw [aH (ne c _ z (by intro _ _ w;cases w))];exact z
end
inductive VJ (H0 H H':Hp):Prop where
 | mk:∀d o kvs,H d=some (.frz o (.dK kvs))->((∀o u,H0 d≠some (.frz o u)))->H'=upd H d (.dK kvs)->VJ H0 H H'
section
variable {X:Cx} {H0:Hp} {st:Stmt} {sts:List Stmt} {e:Expr} {t:TS} {te:TE}
theorem zj (hH:X.H₀=H0) (h:PS X st t):PS X st (fun D σ H=>t { D with nx:=fun σ' H'=>∃H'',VJ H0 H' H''/\D.nx σ' H'' } σ H):=by
 subst hH
 intro pins s σ H D I hh
 refine dJ (h pins s σ H _ I hh) fun f s1 q=>?_
 cases f with
 | next=>obtain⟨σ',H',I',H'',⟨d,o,kvs,e,n,rfl⟩,q⟩:=q;exact⟨σ',_,I'.melt e n,q⟩
 | ret v=>exact q
 | brk=>exact q
 | cont=>exact q
theorem Ux (hH:X.H₀=H0) (h:PE X e te):PE X e (fun σ H Q=>te σ H fun v H1=>∃H2,VJ H0 H1 H2/\Q v H2):=by
 subst hH
 intro pins s σ H Q I hh
 refine dJ (h pins s σ H _ I hh) fun u s1 q=>?_
 obtain⟨v,H1,I1,r,H2,⟨d,o,kvs,e,n,rfl⟩,q⟩:=q
 exact⟨v,_,I1.melt e n,r,q⟩
end
noncomputable def Xd (d:Addr) (o:Obj) (kvs:List (Key×V)):It:=
 ⟨fun i H=>H d=some (.frz o (.dK kvs))/\i <kvs.length,fun i H x H'=>H'=H/\∃k v,kvs[i]?=some (k,v)/\x=kV k,fun i H=>H d=some (.frz o (.dK kvs))/\kvs.length<=i⟩
theorem Q3 {P:Program} {w:World} {k:Key} {u:Value} (h:(cZ P w).is k u=true):RelV (kV k) u:=by
 rcases eX (k:=k) (v:=u) h with ⟨i,t,rfl,rfl⟩ | ⟨x,t,rfl,rfl⟩
 ·exact⟨t,rfl⟩
 ·exact⟨t,rfl⟩
theorem Ln:∀{kvs:List (Key×V)} {vs:List (Key×Value)} {i:Nat} {k:Key} {v:V},KV kvs vs->kvs[i]?=some (k,v)->∃v',vs[i]?=some (k,v')
 | _,_,0,k,v,.cons h _,e=>by
  cases (Option.some.inj e)
  exact⟨_,by rw [List.getElem?_cons_zero,show k=_ from h.1]⟩
 | _,_,i+1,k,v,.cons _ t,e=>by
  obtain⟨v',z⟩:=Ln (i:=i) (k:=k) (v:=v) t (by simpa using e)
  exact⟨v',by simpa using z⟩
theorem Pr {P:Program} {w:World} {K:PySem.W.Frag} {tg:Expr} {d it:Addr} {o:Obj} {kvs:List (Key×V)} {vs:List (Key×Value)} {ep:Nat} (rel:KV kvs vs) (hD:∀h:Heap,h.get? d=some o->h.DictAt (cZ P w) d vs ep):
  Turn P w K tg (Xd d o kvs) [it] it (fun i h=>h.IsKeyIter it d i vs.length ep) where
 mem:=by simp
 obj:=fun i h st b hb=>by
  have e:b=it:=by simpa using hb
  subst e
  obtain⟨o,e,c,d⟩:=st
  exact⟨o,e,fun v z=>by rw [d] at z;cases z⟩
 keep:=fun i h h' st k=>st.at fun o e=>k it (by simp) o e
 item:=by
  intro X hP hw hK hc i pins s σ H E I hf st hg
  subst hP hw hK
  obtain⟨hq,hi⟩:=hg
  obtain⟨f0,f1,f2,f3,f4,f5⟩:=hf it (by simp)
  have ho:s.heap.get? d=some o:=(I.hok d _ hq).1
  have hl:kvs.length=vs.length:=Paired.length rel
  obtain⟨k,v,ek⟩:∃k v,kvs[i]?=some (k,v):=⟨_,_,List.getElem?_eq_getElem hi⟩
  obtain⟨v',ev⟩:=Ln rel ek
  refine wpAny_pyNext_dict_item st (hD _ ho) ev fun key h' hk st' sb=>?_
  have I1:Inv X pins σ H { s with heap:=h' }:=I.turned (t':=s.toks) (fun b o hb e=>(sb.2 b hb).trans e) f0 f1 f3 f4 f5
  obtain⟨o',e,c,dd⟩:=id st'
  exact⟨key,rfl,Kc (s:={ s with heap:=h' }) e c dd (by decide) ⟨kV k,H,I1,Q3 hk,⟨rfl,k,v,ek,rfl⟩,st',fun b hb=>(hf b hb).1⟩⟩
 done:=by
  intro X hP hw hK hc i pins s σ H E I hf st hg
  subst hP hw hK
  obtain⟨hq,hi⟩:=hg
  obtain⟨f0,f1,f2,f3,f4,f5⟩:=hf it (by simp)
  have ho:s.heap.get? d=some o:=(I.hok d _ hq).1
  have hl:kvs.length=vs.length:=Paired.length rel
  exact wpAny_pyNext_dict_end (I.ok.hd hc) st (hD _ ho) (List.getElem?_eq_none (by omega)) fun h' eb=>⟨rfl,I.turned (t':=s.toks) (fun b o hb e=>eb b o hb e) f0 f1 f3 f4 f5⟩
 self:=fun _ _ _ _ _ st h=>wpAny_pyIter_keyiter st h
inductive Rm (R:It->Hp->Prop) (x:V) (H1:Hp):Prop where
 | mk:∀d kvs,x=.ref d->H1 d=some (.dK kvs)->(∀o,R (Xd d o kvs) (upd H1 d (.frz o (.dK kvs))))->Rm R x H1
noncomputable def X7 (td:TE):TI:=fun σ H R=>td σ H fun x H1=>Rm R x H1
theorem yK {X:Cx} {tg l:Expr} {td:TE} (hl:PE X l td):PI X tg l (X7 td):=by
 intro pins s σ H R I h
 refine dJ (hl pins s σ H _ I h) fun v s1 hpt=>?_
 obtain⟨x,H1,I1,r1,q1⟩:=hpt
 obtain⟨d,kvs,e,ed,q⟩:=q1
 subst e
 cases r1
 obtain⟨_,hd,vs,rel,o0,es,ep,ho0,r⟩:=(show fY X.prog X.w H1 s1.heap d (.dK kvs) from I1.hok d _ ed)
 obtain⟨o,ho,I2⟩:=I1.chill ed
 obtain rfl:o0=o:=Option.some.inj (ho0.symm.trans ho)
 have hD:∀h:Heap,h.get? d=some o0->h.DictAt (cZ X.prog X.w) d vs ep:=fun h z=>⟨o0,es,z,r⟩
 refine wpAny_pyIter_dict hd (hD _ ho) ?_
 refine⟨s1.heap.objs.size,[s1.heap.objs.size],_,_,_,rfl,I2.kept (t':=s1.toks) fun b o e=>Heap.get?_push_of_some _ e,Pr rel hD,⟨_,Heap.get?_push_size _ rfl,rfl,rfl⟩,fun b hb=>?_,q o0⟩
 have e:b=s1.heap.objs.size:=by simpa using hb
 subst e
 exact I2.fpOk (Nat.le_refl _) (I2.hok.fresh (Nat.le_refl _))
theorem yg {d:Addr} {o:Obj} {kvs:List (Key×V)} {g:TG} {tb:TS} {D:Ends} {σ:St} {H:Hp} (Pv:Nat->St->Hp->Prop) (h0:Pv 0 σ H) (hl:∀i σ H,i<=kvs.length->Pv i σ H->H d=some (.frz o (.dK kvs)))
  (hs:∀i k v σ H,kvs[i]?=some (k,v)->Pv i σ H->g (kV k) σ H fun σ2 H2=>tb { D with nx:=Pv (i+1),ct:=Pv (i+1),bk:=D.nx } σ2 H2) (hd:∀σ H,Pv kvs.length σ H->D.nx σ H):
  ∃W:Nat->Nat->St->Hp->Prop,(∃m,W 0 m σ H)/\∀i m σ H,W i m σ H->
   ((Xd d o kvs).stop i H/\D.nx σ H)∨((Xd d o kvs).go i H/\∃N:St->Hp->Prop,(∀σ' H',N σ' H'->∃m',m' <m/\W (i+1) m' σ' H')/\∀x H',(Xd d o kvs).yld i H x H'->g x σ H' fun σ2 H2=>tb { D with nx:=N,ct:=N,bk:=D.nx } σ2 H2):=by
 refine⟨fun i m σ H=>m=kvs.length - i/\i<=kvs.length/\Pv i σ H,⟨kvs.length,by simp,Nat.zero_le _,h0⟩,?_⟩
 rintro i m σ H ⟨rfl,hi,p⟩
 have q:=hl i σ H hi p
 by_cases hlt:i <kvs.length
 ·refine .inr ⟨⟨q,hlt⟩,Pv (i+1),fun σ' H' p'=>⟨kvs.length - (i+1),by omega,rfl,hlt,p'⟩,fun x H' y=>?_⟩
  obtain⟨rfl,k,v,ek,rfl⟩:=y
  exact hs i k v σ _ ek p
 ·obtain rfl:i=kvs.length:=by omega
  exact .inl ⟨⟨q,Nat.le_refl _⟩,hd σ H p⟩
theorem Oe {js:List Nat} {tt:TT} {te:TE} {σ:St} {Qd:List V->Hp->Prop} {d:Addr} {o:Obj} {kvs:List (Key×V)} {H:Hp} (Pv:Nat->List V->Hp->Prop) (hn:kvs.length<=sizeLine) (h0:Pv 0 [] H) (hl:∀i ys H,Pv i ys H->ys.length<=i) (hq:∀i ys H,i<=kvs.length->Pv i ys H->H d=some (.frz o (.dK kvs)))
  (hs:∀i k v ys H,kvs[i]?=some (k,v)->Pv i ys H->tt (some (kV k):: dN σ js) H fun b H4=>if b=true then te (some (kV k):: dN σ js) H4 fun y H5=>Pv (i+1) (ys ++ [y]) H5 else Pv (i+1) ys H4)
  (hd:∀ys H,Pv kvs.length ys H->Qd ys H):CompEnd js tt te σ Qd (Xd d o kvs) H:=by
 refine⟨fun i m ys H=>m=kvs.length - i/\i<=kvs.length/\Pv i ys H,⟨kvs.length,by simp,Nat.zero_le _,h0⟩,?_⟩
 rintro i m ys H ⟨rfl,hi,p⟩
 have hlen:=hl i ys H p
 have q:=hq i ys H hi p
 by_cases hlt:i <kvs.length
 ·refine .inr ⟨⟨q,hlt⟩,by omega,Pv (i+1),fun ys' H' p'=>⟨kvs.length - (i+1),by omega,rfl,hlt,p'⟩,fun x H' y=>?_⟩
  obtain⟨rfl,k,v,ek,rfl⟩:=y
  exact hs i k v ys _ ek p
 ·obtain rfl:i=kvs.length:=by omega
  exact .inl ⟨⟨q,Nat.le_refl _⟩,by omega,hd ys H p⟩
theorem z6:∀{xs:List V} {us:List Value},us.length=xs.length->(∀(j:Nat) x u,xs[j]?=some x->us[j]?=some u->RelV x u)->Vals xs us
 | [],[],_,_=>.nil
 | [],_:: _,h,_=>by simp at h
 | _:: _,[],h,_=>by simp at h
 | x:: xs,u:: us,h,r=>.cons (r 0 x u rfl rfl) (z6 (by simpa using h) fun j y v h1 h2=>r (j+1) y v (by simpa using h1) (by simpa using h2))
theorem oV {X:Cx} (hc:X.calm=true):mG X (.type "list") (fun xs H Q=>∃d kvs,xs=[.ref d]/\Rd H d (.dK kvs)/\∀l,H l=none->Q (.ref l) (upd H l (.lst (kvs.map fun p=>kV p.1)))):=by
 intro pins s σ H xs us Q I rx h
 obtain⟨d,kvs,rfl,hr,q⟩:=h
 obtain⟨u,rfl,ru⟩:=vals1 rx
 cases ru
 obtain⟨z,hd,vs,rel,dd⟩:=z7 I.hok hr
 obtain⟨ep,da⟩:=dd.dictAt
 have hl:kvs.length=vs.length:=Paired.length rel
 refine PySem.W.kdl_call (PySem.W.kdl_dict (knd:=cZ X.prog X.w) (kvs:=vs) (ep:=ep) hd) (I.ok.hd hc) da (by omega) fun h' tk acc' c' kp e' hi=>?_
 refine⟨.ref s.heap.objs.size,_,I.laid (t':=tk) kp (Nat.le_refl _) (show fY X.prog X.w _ h' _ (.lst (kvs.map fun p=>kV p.1)) from⟨by rw [List.length_map];exact z,acc'.toList,c',z6 (by rw [Array.length_toList,hi.1,List.length_map,hl]) fun j x u hx hu=>?_,by simpa using e'⟩),rfl,q _ (I.hok.fresh (Nat.le_refl _))⟩
 obtain⟨k,v,hkv,hk⟩:=hi.2 j u (by rw [<-Array.getElem?_toList];exact hu)
 rw [List.getElem?_map] at hx
 obtain⟨p,hp,rfl⟩:=Option.map_eq_some_iff.mp hx
 obtain⟨v',hv'⟩:=Ln rel (k:=p.1) (v:=p.2) hp
 rw [hkv] at hv'
 cases hv'
 exact Q3 hk
section
variable {X:Cx} {pins:List (Addr×Obj)} {σ:St} {H:Hp} {s:Shared}
end
section
variable {X:Cx} {tg:Expr}
end
theorem jq.u1 {k:Nat} {A:Around} (r:jq k A):A.units+1 <cLine:=by have:=r.units;omega
section
variable {prog:Program} {w:World} {A:Around} {E:Value->Shared->Prop} {s:Shared}
end
theorem Il {X:Cx} {K:PySem.W.Frag} {e:Expr} {f:Str} {pos:Pos} {ta:TE} (hK:X.K=K) (he:PE X e ta) (hb:attributeBase e f X.env (eval e X.env)=eval e X.env):PE X (.Attribute e f pos) (XS K ta f):=by subst hK;exact bh he hb
theorem K1 {X:Cx} {K:PySem.W.Frag} (hK:X.K=K):uK X (compareOp .In) (Y4 K false):=by subst hK;exact FW
theorem Ez {X:Cx} {K:PySem.W.Frag} (hK:X.K=K):uK X (compareOp .NotIn) (Y4 K true):=by subst hK;exact jf
section
variable {X:Cx} {P:Program} {w:World} {K:PySem.W.Frag} {mg:Str->Option Value} {base:Heap} {CX:FQ} {k:Nat} {E:XK} {m:Str} {pos apos:Pos} {e o:Expr} {es:List Expr} {ta:TE} {t:TA}
theorem Mf {pl:Sem Bool} (hP:X.prog=P) (hw:X.w=w) (hK:X.K=K) (hm:X.mg=mg) (hb:X.base=base) (he:PE X o ta) (hr:jq k X.A) (hx:qW CX X E)
  (ht:eval (.Call (.Attribute o m apos) [] [] pos) X.env=(do
   let ov <-eval o X.env
   standAt apos.atName
   let (f,first) <-holding [ov] (getMethod ov m pl)
   callWith pos f first (backTo pos (starEach [] X.env)) (backToKw pos (keywordEach [] X.env))):=by rfl):
  PE X (.Call (.Attribute o m apos) [] [] pos) (KY P w K mg base CX k m E ta Rz):=by
 subst hP hw hK hm hb
 exact Gq he hr hx ht
end
section
variable {prog:Program} {w:World} {A:Around} {R:Result->Shared->Prop} {s:Shared}
theorem X4 {elt tg iter:Expr} {ifs:List Expr} {scope:Scope} {pos:Pos} {it acc:Value} {env:Env} (J:Nat->Shared->Prop)
  (turn:∀k s1,J k s1->wpAny (model prog w) A (pyNext it) (fun r s2=>match r with
   | none=>R (.ok .next) s2
   | some v=>wpAny (model prog w) A (letOwnedTupleGo tg it v) (fun _ s3=>wpAny (model prog w) A (assign tg env v) (fun _ s4=>
     wpAny (model prog w) A (forIn ifs true fun c r=>if r=true then do let ok <-isTrue c env (eval c env);pure (ForInStep.yield ok) else pure (ForInStep.yield r)) (fun ok s5=>
      if ok=true then wpAny (model prog w) A (eval elt env) (fun y s6=>wpAny (model prog w) A (call (.builtin "list.append") [acc,y]) (fun _ s7=>∃m,m <k/\J m s7) (notedBy (model prog w) A env fun e s'=>R (.error e) s') s6)
       (notedBy (model prog w) A env fun e s'=>R (.error e) s') s5
      else ∃m,m <k/\J m s5) (notedBy (model prog w) A env fun e s'=>R (.error e) s') s4) (notedBy (model prog w) A env fun e s'=>R (.error e) s') s3) (notedBy (model prog w) A env fun e s'=>R (.error e) s') s2)
   (notedBy (model prog w) A env fun e s'=>R (.error e) s') s1)
  (k:Nat) (h:J k s):codeAny (model prog w) A (.compLoop (.ListComp elt [⟨tg,iter,ifs,0⟩] scope pos) 0 it acc env) R s:=by
 refine codeAny_loop rfl J (fun k s1 hJ=>?_) k h
 show wpAny _ A ((compTurn (.ListComp elt [⟨tg,iter,ifs,0⟩] scope pos) 0 it acc env).onRaise (fun e=>do noteFrame e env;theTreesLotGoes e)) _ _ s1
 refine wpAny_noted ?_
 rw [compTurn_list]
 refine wpAny_bind (wpAny_standAt (wpAny_bind (wpAny_mono (turn k s1 hJ) (fun r s2 h2=>?_) fun _ _ z=>z)))
 cases r with
 | none=>exact wpAny_pure h2
 | some v=>
  refine wpAny_bind (wpAny_mono h2 (fun _ s3 h3=>wpAny_bind (wpAny_mono h3 (fun _ s4 h4=>wpAny_bind (wpAny_mono h4 (fun ok s5 h5=>?_) fun _ _ z=>z)) fun _ _ z=>z)) fun _ _ z=>z)
  cases ok with
  | false=>exact wpAny_pure ⟨rfl,h5⟩
  | true=>exact wpAny_bind (wpAny_bind (wpAny_mono h5 (fun y s6 h6=>wpAny_bind (wpAny_mono h6 (fun _ s7 h7=>wpAny_pure (wpAny_pure ⟨rfl,h7⟩)) fun _ _ z=>z)) fun _ _ z=>z))
end
section
variable {X:Cx} {tg:Expr} {g:TG} {pos:Pos} {iter elt:Expr} {ifs:List Expr} {scope:Scope} {wi:TI} {tt:TT} {te:TE}
end
theorem O5 {X:Cx} (hc:X.calm=true):mG X (.builtin "min") (fun xs H Q=>∃(p:Addr) (a b:Int),xs=[.ref p]/\bI X.K H p [.int a,.int b]/\Q (.int (if b <a then b else a)) H):=by
 intro pins s σ H xs us Q I r h
 obtain⟨p,a,b,rfl,hq,q⟩:=h
 obtain⟨u,rfl,rx⟩:=vals1 r
 cases rx
 obtain⟨its,rv,pl,_⟩:=I.list hq
 obtain⟨v1,v2,rfl,⟨t1,rfl⟩,⟨t2,rfl⟩⟩:=vals2 rv
 have hl:s.heap.IsList p (intItems #[(a,t1),(b,t2)]):=by simpa [intItems] using pl.isList
 refine min_intList (I.ok.hd hc) hl (by simp) fun v h' tk hv hk=>?_
 obtain⟨t,rfl⟩:=intItems_at hv
 obtain⟨h1,h2⟩:=argBest_lt (numAt #[(a,t1),(b,t2)]) (#[(a,t1),(b,t2)].size - 1)
 have h1':argBest (fun i j=>decide (numAt #[(a,t1),(b,t2)] i <numAt #[(a,t1),(b,t2)] j)) (#[(a,t1),(b,t2)].size - 1)<=1:=h1
 have ha:_<=a:=h2 0 (Nat.zero_le _)
 have hb:_<=b:=h2 1 (by simp)
 generalize argBest (fun i j=>decide (numAt #[(a,t1),(b,t2)] i <numAt #[(a,t1),(b,t2)] j)) (#[(a,t1),(b,t2)].size - 1)=k at h1' ha hb ⊢
 refine⟨.int (numAt #[(a,t1),(b,t2)] k),H,I.kept hk,⟨_,rfl⟩,?_⟩
 have e:numAt #[(a,t1),(b,t2)] k=if b <a then b else a:=by
  match k,h1',ha,hb with
  | 0,_,_,hb=>
   have hb':a<=b:=hb
   rw [if_neg (by omega)];rfl
  | 1,_,ha,_=>
   have ha':b<=a:=ha
   show b=_
   by_cases z:b <a
   ·rw [if_pos z]
   ·rw [if_neg z];omega
 rw [e]
 exact q
theorem Ow {X:Cx} (hc:X.calm=true):mG X (.builtin "max") (fun xs H Q=>∃(p:Addr) (a b:Int),xs=[.ref p]/\bI X.K H p [.int a,.int b]/\Q (.int (if b <a then a else b)) H):=by
 intro pins s σ H xs us Q I r h
 obtain⟨p,a,b,rfl,hq,q⟩:=h
 obtain⟨u,rfl,rx⟩:=vals1 r
 cases rx
 obtain⟨its,rv,pl,_⟩:=I.list hq
 obtain⟨v1,v2,rfl,⟨t1,rfl⟩,⟨t2,rfl⟩⟩:=vals2 rv
 have hl:s.heap.IsList p (intItems #[(a,t1),(b,t2)]):=by simpa [intItems] using pl.isList
 refine max_intList (I.ok.hd hc) hl (by simp) fun v h' tk hv hk=>?_
 obtain⟨t,rfl⟩:=intItems_at hv
 obtain⟨h1,h2⟩:=argBest_gt (numAt #[(a,t1),(b,t2)]) (#[(a,t1),(b,t2)].size - 1)
 have h1':argBest (fun i j=>decide (numAt #[(a,t1),(b,t2)] i >numAt #[(a,t1),(b,t2)] j)) (#[(a,t1),(b,t2)].size - 1)<=1:=h1
 have ha:a<=_:=h2 0 (Nat.zero_le _)
 have hb:b<=_:=h2 1 (by simp)
 generalize argBest (fun i j=>decide (numAt #[(a,t1),(b,t2)] i >numAt #[(a,t1),(b,t2)] j)) (#[(a,t1),(b,t2)].size - 1)=k at h1' ha hb ⊢
 refine⟨.int (numAt #[(a,t1),(b,t2)] k),H,I.kept hk,⟨_,rfl⟩,?_⟩
 have e:numAt #[(a,t1),(b,t2)] k=if b <a then a else b:=by
  match k,h1',ha,hb with
  | 0,_,_,hb=>
   have hb':b<=a:=hb
   show a=_
   by_cases z:b <a
   ·rw [if_pos z]
   ·rw [if_neg z];omega
  | 1,_,ha,_=>
   have ha':a<=b:=ha
   rw [if_neg (by omega)];rfl
 rw [e]
 exact q
theorem BP {X:Cx} {K:PySem.W.Frag} {es:List Expr} {k:Nat} {pos:Pos} {t:R4} {n:Nat} (hK:X.K=K) (hc:X.calm=true) (h:Yh X es t)
  (hn:(assignEach es X.env).length=n:=by rfl) (hst:(assignEach es X.env).findIdx? (·.1)=none:=by rfl):PG X (.Tuple es k pos) (Yl K n t):=by
 subst hK
 exact jT hc h hn hst
noncomputable def lU (X:Cx) (scope:Scope) (xs:List Str) (js:List Nat) (cl:List (Str×Addr)) (C:Addr) (s:Shared) (H:Hp) (ex:List Addr):Cx where
 prog:=X.prog
 w:=X.w
 K:=X.K
 mg:=X.mg
 base:=X.base
 A:=X.A
 N:=xs ++ dI X.N js
 s₀:=s
 H₀:=H
 env:=compEnvC scope cl C X.env
 outer:=X.stack
 stack:=X.stack
 ex:=ex
 fn:=fun _=>false
 calm:=X.calm
 pn:=[]
 xe:=fun _ _=>False
noncomputable def yc (xs:List Str) (js:List Nat) (σ:St) (g:TG) (tt:TT) (te:TE) (Qd:List V->Hp->Prop) (J:It) (H1:Hp):Prop:=∃W:Nat->Nat->List V->Hp->Prop,(∃m,W 0 m [] H1)/\∀i m ys H2,W i m ys H2->
 (J.stop i H2/\ys.length<=sizeLine/\Qd ys H2)∨
 (J.go i H2/\ys.length <sizeLine/\∃N:List V->Hp->Prop,(∀ys' H',N ys' H'->∃m',m' <m/\W (i+1) m' ys' H')/\∀x H3,J.yld i H2 x H3->g x ((xs.map fun _=>none) ++ dN σ js) H3 fun σ2 H4=>σ2.drop xs.length=dN σ js/\tt σ2 H4 fun b H5=>
  if b=true then te σ2 H5 fun y H6=>N (ys ++ [y]) H6 else N ys H5)
noncomputable def RD (xs:List Str) (js:List Nat) (wi:TI) (g:TG) (tt:TT) (te:TE):TE:=fun σ H Q=>wi σ H (yc xs js σ g tt te fun ys H2=>∀D,H2 D=none->Q (.ref D) (upd H2 D (.lst ys)))
section
variable {X:Cx} {tg:Expr} {g:TG} {pos:Pos} {iter elt:Expr} {ifs:List Expr} {scope:Scope} {wi:TI} {tt:TT} {te:TE}
theorem tW (xs:List Str) (js:List Nat) {pins:List (Addr×Obj)} {σ:St} {s:Shared} {itv:Value} {Q:List V->Hp->Prop} {RR:Value->Addr->Result->Shared->Prop} {E:Value->Shared->Prop}
  (hc:X.calm=true) (hk:scope.kind=.function) (hcell:∀y∈scope.names,y.2≠.cell)
  (hfree:∀y∈scope.names,y.2=.free->X.env.kindOf y.1=some .cell∨X.env.kindOf y.1=some .free)
  (hg:∀cl C s H ex,PG (lU X scope xs js cl C s H ex) tg g)
  (hif:∀cl C s H ex,PF (lU X scope xs js cl C s H ex) ifs tt) (he:∀cl C s H ex,PE (lU X scope xs js cl C s H ex) elt te)
  (hjs:∀y∈dI X.N js,scope.names.lookup y=some .free) (hit:PIE X pins σ tg (yc xs js σ g tt te Q) itv s)
  (hR:∀D C s' H2 ys m,Inv X pins σ (upd H2 D (.lst ys)) s'->H2 D=none->s'.heap.Ns C m->(∀h',Heap.SameBut C s'.heap h'->Inv X pins σ (upd H2 D (.lst ys)) { s' with heap:=h' })->Ik X pins (upd H2 D (.lst ys)) C->C≠D->Q ys H2->RR (.ref D) C (.ok .next) s'):
  wpAny (model X.prog X.w) X.A (newList []) (fun acc s₃=>wpAny (model X.prog X.w) X.A (newFunctionEnv scope X.env.globals (clos X.env scope.names []) [] X.env.qual none .none (some X.env)) (fun cenv s₄=>
   codeAny (model X.prog X.w) X.A (.compStart (.ListComp elt [⟨tg,iter,ifs,0⟩] scope pos) 0 itv acc { cenv with scope:=relabel scope X.env }) (RR acc cenv.locals) s₄) E s₃) E s:=by
 obtain⟨it,fp,tn,J,H1,rfl,I1,T,st1,f1,W,⟨m0,w0⟩,turn⟩:=hit
 refine wpAny_newObj_type (wpAny_newFunctionEnv hcell (by intro y hy;simp at hy) (fun h₁ hns₁ hsb₁=>?_) hk)
 dsimp only at hns₁ hsb₁ ⊢
 generalize hH2:s.heap.push { cls:=.type "list",dict:=none,data:=.seq ([]:List Value).toArray }=Hl at hns₁ hsb₁ ⊢
 generalize hDe:s.heap.objs.size=D
 have hCe:Hl.objs.size=D+1:=by rw [<-hH2,Heap.size_push,hDe]
 generalize hC:Hl.objs.size=C at hns₁ hsb₁ hCe ⊢
 subst hCe
 have hDC:D≠D+1:=Nat.ne_of_lt (Nat.lt_succ_self _)
 have lt:∀b o,s.heap.get? b=some o->b <D:=fun b o e=>hDe ▸ Heap.lt_size e
 have old:∀b o,s.heap.get? b=some o->h₁.get? b=some o:=fun b o e=>by
  have hb:=lt b o e
  refine hsb₁.extBut b o (Nat.ne_of_lt (Nat.lt_succ_of_lt hb)) (Heap.get?_push_of_some _ ?_)
  rw [<-hH2];exact Heap.get?_push_of_some _ e
 have accD:h₁.get? D=some { cls:=.type "list",dict:=none,data:=.seq ([]:List Value).toArray }:=by
  refine hsb₁.extBut _ _ hDC (Heap.get?_push_of_some _ ?_)
  rw [<-hH2,<-hDe];exact Heap.get?_push_size _ rfl
 have fresh:∀a,D<=a->H1 a=none:=fun a ha=>I1.hok.fresh (by rw [hDe];exact ha)
 have fpD:∀b∈fp,b <D:=fun b hb=>by
  obtain⟨o,e,_⟩:=T.obj 0 s.heap st1 b hb
  exact lt b o e
 have cellD:∀y c,X.env.cells.lookup y=some c->c <D:=fun y c e=>by
  obtain⟨v,q⟩:=I1.cell y c e
  exact hDe ▸ q.lt
 generalize hcl:clos X.env scope.names []=cl
 have clsub:∀y c,cl.lookup y=some c->X.env.cells.lookup y=some c:=by
  rw [<-hcl];exact JM scope.names [] fun y a e=>by simp at e
 have frD:∀b∈frs X.stack,b <D:=fun b hb=>by
  obtain⟨_,o,ho,_⟩:=I1.stack.mem hb
  exact lt b o ho
 let Y:Cx:=lU X scope xs js cl (D+1) s H1 fp
 have kinds:∀y,Y.env.kindOf y=some .cell∨Y.env.kindOf y=some .free->∃k∈scope.names,k.1=y/\k.2=.free:=fun y hy=>by
  have hy':(relabel scope X.env).names.lookup y=some .cell∨(relabel scope X.env).names.lookup y=some .free:=hy
  rw [ug] at hy'
  cases q:scope.names.lookup y with
  | none=>rw [q] at hy';simp at hy'
  | some k=>
   have hm:=PySem.mem_of_lookup q
   refine⟨(y,k),hm,rfl,?_⟩
   have h1:k≠.cell:=hcell _ hm
   rw [q] at hy'
   simp only [Option.map_some,Option.some.injEq] at hy'
   by_cases hkf:k=.free
   ·exact hkf
   ·have:(k == NameKind.free)=false:=by simpa using hkf
    simp only [this,Bool.false_and,Bool.false_eq_true,if_false] at hy'
    rcases hy' with e | e
    ·exact absurd e h1
    ·exact absurd e hkf
 have okY:Y.Ok:=by
  refine⟨I1.ok.mod,hk,I1.ok.glob,I1.ok.blt,(by show s.heap.objs.size<=D+1;rw [hDe];exact Nat.le_succ _),fun y z c h1 h2=>I1.ok.inj y z c (clsub y c h1) (clsub z c h2),fun y hy=>?_,fun y c h _=>absurd h (by show ¬(false=true);decide),I1.ok.hd,I1.ok.frames,.inl rfl,fun b hb=>⟨Nat.ne_of_lt (Nat.lt_succ_of_lt (fpD b hb)),fun y c e z=>(f1 b hb).2.2.2.2.1 y c (clsub y c e) z⟩,
   fun b o e=>I1.bs b o e,Nat.le_trans I1.ok.bsz I1.sz,fun b o e hb=>?_,fun b hb hf=>?_,I1.stack,I1.stkFree⟩
  ·obtain⟨k,hm,e1,e2⟩:=kinds y hy
   show ∃c,cl.lookup y=some c
   rw [<-hcl]
   refine CT scope.names [] y (.inr ⟨k,hm,e1,e2,?_⟩)
   have:=hfree k hm e2
   rw [e1] at this
   exact I1.ok.has y this
  ·obtain⟨_,_,_,h4,_,_⟩:=f1 b hb
   rcases h4 with z | z
   ·exact I1.ok.noex b o e z
   ·exact absurd (Nat.lt_of_lt_of_le (Heap.lt_size e) (Nat.le_trans I1.ok.bsz z)) (Nat.lt_irrefl _)
  ·rcases List.mem_cons.mp (I1.stkSub b hf) with z | z
   ·exact(f1 b hb).2.1 z
   ·exact(f1 b hb).2.2.1 z
 let σ0:St:=(xs.map fun _=>none) ++ dN σ js
 have IY:Inv Y [] σ0 H1 { s with heap:=h₁,toks:=s.toks+([]:List (Str×Value)).length }:=by
  refine⟨okY,rfl,I1.bare,Un.kept old,⟨_,hns₁,fun i y v e1 e2 e3=>?_⟩,fun y c e=>?_,fresh _ (Nat.le_succ _),fun y c e=>I1.freeC y c (clsub y c e),fun p hp=>absurd (show p∈([]:List (Addr×Obj)) from hp) (by simp),I1.hok.kept old,?_⟩
  ·by_cases hi:i <xs.length
   ·exfalso
    have e2':((xs.map fun _=>(none:Option V)) ++ dN σ js)[i]?=some (some v):=e2
    rw [List.getElem?_append_left (by rw [List.length_map];exact hi),List.getElem?_map,List.getElem?_eq_getElem hi] at e2'
    cases e2'
   ·have e1':(xs ++ dI X.N js)[i]?=some y:=e1
    have e2':((xs.map fun _=>(none:Option V)) ++ dN σ js)[i]?=some (some v):=e2
    rw [List.getElem?_append_right (by omega)] at e1'
    rw [List.getElem?_append_right (by rw [List.length_map];omega),List.length_map] at e2'
    generalize i - xs.length=i at e1' e2'
    unfold dI at e1'
    unfold dN at e2'
    rw [List.getElem?_map] at e1' e2'
    cases q:js[i]? with
    | none=>rw [q] at e1';cases e1'
    | some j=>
     rw [q] at e1' e2'
     simp only [Option.map_some,Option.some.injEq] at e1' e2'
     have hv:σ[j]?=some (some v):=by
      cases z:σ[j]? with
      | none=>rw [z] at e2';cases e2'
      | some w=>rw [z] at e2';simpa using e2'
     have hj:j <X.N.length:=by
      rw [<-I1.len];exact(List.getElem?_eq_some_iff.mp hv).1
     have hy:X.N[j]?=some y:=by
      rw [List.getElem?_eq_getElem hj] at e1' ⊢
      rw [<-e1'];rfl
     obtain⟨m,hn,hl⟩:=I1.loc
     have hmem:y∈dI X.N js:=List.mem_map.mpr ⟨j,List.mem_of_getElem? q,by rw [hy];rfl⟩
     have hfr:=hjs y hmem
     have hkx:=hfree _ (PySem.mem_of_lookup hfr) rfl
     have hvis:YZ X.env.scope y:=hkx.elim (fun z=>.inr (.inl z)) fun z=>.inr (.inr z)
     obtain⟨u,r,l⟩:=hl j y v hy hv hvis
     refine⟨u,r,?_⟩
     rcases l with ⟨kl,_⟩ | ⟨_,c,hc1,z⟩
     ·exfalso
      have kl':X.env.kindOf y=some .local:=kl
      rcases hkx with w | w <;> · rw [show X.env.kindOf y=_ from w] at kl';cases kl'
     ·obtain⟨c',hc'⟩:=CT (env:=X.env) scope.names [] y (.inr ⟨_,PySem.mem_of_lookup hfr,rfl,rfl,c,hc1⟩)
      rw [hcl] at hc'
      have e4:=clsub y c' hc'
      rw [hc1] at e4
      cases e4
      obtain⟨o,ho,hd⟩:=z
      refine .inr ⟨?_,c,hc',o,old c o ho,hd⟩
      rcases e3 with e3 | e3 | e3
      ·exfalso
       have e3':(relabel scope X.env).names.lookup y=some .local:=e3
       rw [ug,hfr] at e3'
       simp only [Option.map_some,Option.some.injEq] at e3'
       split at e3' <;> cases e3'
      ·exact .inl e3
      ·exact .inr e3
  ·obtain⟨v,q⟩:=I1.cell y c (clsub y c e)
   obtain⟨o,ho,hd⟩:=q
   exact⟨v,o,old c o ho,hd⟩
  ·show((xs.map fun _=>(none:Option V)) ++ dN σ js).length=(xs ++ dI X.N js).length
   unfold dN dI
   rw [List.length_append,List.length_append,List.length_map,List.length_map,List.length_map]
 have mkR:∀(s':Shared) (H2:Hp) (ys:List V) (its:List Value) (σ':St),Inv Y [] σ' H2 s'->s'.heap.PlainList D its.toArray->Vals ys its->ys.length<=sizeLine->H2 D=none->Q ys H2->RR (.ref D) (D+1) (.ok .next) s':=by
  intro s' H2 ys its σ' I' pl rv hz hD hq
  obtain⟨m,hn,_⟩:=I'.loc
  have hn':s'.heap.Ns (D+1) m:=hn
  have hCn:H2 (D+1)=none:=I'.free
  have hch:∀b∈fp,(b∈X.ex∨X.s₀.heap.objs.size<=b)/\b≠X.env.locals/\(∀x c,X.env.cells.lookup x=some c->c≠b)/\∀p∈X.pn ++ pins,p.1≠b:=fun b hb=>by
   obtain⟨_,h2,_,h4,h5,h6⟩:=f1 b hb
   exact⟨h4,h2,h5,h6⟩
  have bs:Un (frs X.stack) fp H1 H2 s.heap s'.heap:=I'.base
  have all:∀h',Heap.SameBut (D+1) s'.heap h'->Inv X pins σ (upd H2 D (.lst ys)) { s' with heap:=h' }:=fun h' sb=>by
   have neD:∀b o,s.heap.get? b=some o->b≠D:=fun b o e=>Nat.ne_of_lt (lt b o e)
   have neC:∀b o,s.heap.get? b=some o->b≠D+1:=fun b o e=>Nat.ne_of_lt (Nat.lt_succ_of_lt (lt b o e))
   refine I1.call' (s':={ s' with heap:=h' }) (ch:=fp) I'.os ⟨fun b o e n hb hx=>?_,fun b o e n hb hx=>?_,fun b o e n hx=>?_,fun b o e hx=>?_,fun b xs e=>?_,fun b o u e=>?_,fun b ps e=>?_⟩ ?_ I'.bare hch
   ·exact(sb.2 b (neC b o e)).trans (bs.keep b o e n hb hx)
   ·obtain⟨sl,q⟩:=bs.slot b o e n hb hx
    exact⟨sl,(sb.2 b (neC b o e)).trans q⟩
   ·rw [aH (neD b o e)];exact bs.free b o e n hx
   ·obtain⟨o',q⟩:=bs.there b o e hx
    exact⟨o',(sb.2 b (neC b o e)).trans q⟩
   ·have:=bs.tups b xs e
    rw [aH (aF this hD)];exact this
   ·have:=bs.frzs b o u e
    rw [aH (aF this hD)];exact this
   ·obtain⟨more,q⟩:=bs.tbls b ps e
    exact⟨more,by rw [aH (aF q hD)];exact q⟩
   ·have h0:vf X.prog X.w H2 h':=fun b u e=>(I'.hok b u e).stay (fun c v hc q=>(sb.2 c (by
     rintro rfl
     rcases hc with z | z
     ·rw [z,e] at hCn;cases hCn
     ·rw [z] at hCn;cases hCn)).trans q) (fun _ q=>q) fun _ _ q=>q
    refine Oq h0 hD ?_
    obtain⟨n,e⟩:=pl
    exact⟨hz,its,n,rv,(sb.2 D hDC).trans e⟩
  have hall:=all s'.heap (.refl ..)
  refine hR D (D+1) s' H2 ys m hall hD hn' all ?_ hDC.symm hq
  refine⟨by rw [aH hDC.symm];exact hCn,?_,?_,.inr (Nat.le_trans I1.sz (by rw [hDe];exact Nat.le_succ _)),fun y c e z=>?_,fun p hp z=>?_⟩
  ·exact Nat.ne_of_gt (Nat.lt_trans (hDe ▸ I1.lt) (Nat.lt_succ_self _))
  ·exact I1.nofs (by rw [hDe];exact Nat.le_succ _)
  ·exact absurd z (Nat.ne_of_lt (Nat.lt_succ_of_lt (cellD y c e)))
  ·exact absurd z (Nat.ne_of_lt (Nat.lt_succ_of_lt (lt _ _ (I1.pin p hp).1)))
 have loop:∀s₃:Shared,s₃={ s with heap:=h₁,toks:=s.toks+([]:List (Str×Value)).length }->
   codeAny (model X.prog X.w) X.A (.compLoop (.ListComp elt [⟨tg,iter,ifs,0⟩] scope pos) 0 (.ref it) (.ref D) Y.env) (RR (.ref D) (D+1)) s₃:=by
  rintro s₃ rfl
  have stat:∀{H':Hp} {ob:Obj},(∀b∈fp,H' b=none)->∀b∈fp,Ik Y [(D,ob)] H' b:=fun {H'} {ob} hn b hb=>by
   refine⟨hn b hb,Nat.ne_of_lt (Nat.lt_succ_of_lt (fpD b hb)),fun hf=>okY.exfs b hb hf,.inl hb,fun y c e=>(okY.exf b hb).2 y c e,fun p hp z=>?_⟩
   have hp':p∈[(D,ob)]:=hp
   have e:p=(D,ob):=by simpa using hp'
   rw [e] at z
   exact absurd z (Ne.symm (Nat.ne_of_lt (fpD b hb)))
  refine X4 (fun n s'=>∃i ys its H',∃ob:Obj,Inv Y [(D,ob)] σ0 H' s'/\(∃n,ob={ cls:=.type "list",data:=.seq its.toArray n })/\Vals ys its/\H' D=none/\tn i s'.heap/\(∀b∈fp,H' b=none)/\W i n ys H') ?_ m0
   ⟨0,[],[],H1,{ cls:=.type "list",dict:=none,data:=.seq ([]:List Value).toArray },?_,⟨_,rfl⟩,.nil,fresh _ (Nat.le_refl _),T.keep _ _ _ st1 fun b _ o e=>old b o e,fun b hb=>(f1 b hb).1,w0⟩
  ·rintro n s3 ⟨i,ys,its,H3,ob,I3,⟨cap,rfl⟩,rv,hD,st3,fr3,w3⟩
   rcases turn i n ys H3 w3 with ⟨stop,hz,hq⟩ | ⟨go,hz,N,hN7,step⟩
   ·refine wpAny_mono (T.done Y rfl rfl rfl hc i _ s3 σ0 H3 (fun _ _=>False) I3 (stat fr3) st3 stop) (fun r s4 ⟨hr,I4⟩=>?_) fun _ _ f=>f.elim
    subst hr
    exact mkR s4 H3 ys its σ0 (I4.pins_of fun p hp=>absurd hp (by simp)) ⟨cap,(I4.pin _ (List.mem_append_right _ List.mem_cons_self)).1⟩ rv hz hD hq
   ·refine wpAny_mono (T.item Y rfl rfl rfl hc i _ s3 σ0 H3 (fun _ _=>False) I3 (stat fr3) st3 go) (fun r s4 ⟨u,hr,h4⟩=>?_) fun _ _ f=>f.elim
    subst hr
    refine wpAny_mono h4 (fun _ s4 ⟨xv,H5,I5,r5,y5,st5,fr5⟩=>?_) fun _ _ f=>f.elim
    have I5':=I5.pinned (stat fr5) (T.obj _ _ st5)
    refine wpAny_mono (hg cl (D+1) s H1 fp _ _ σ0 H5 xv u _ I5' r5 (step xv H5 y5)) (fun _ s6 ⟨σ6,H6,I6,hσ6,q6⟩=>?_) fun _ _ f=>False.elim f
    have again:∀{s7:Shared} {H7:Hp} {ys7:List V} {its7:List Value} {cap7:Nat} {pl:List (Addr×Obj)},Inv Y ([(D,{ cls:=.type "list",data:=.seq its7.toArray cap7 })] ++ pl) σ6 H7 s7->(∀b∈fp,∀o,s4.heap.get? b=some o->s7.heap.get? b=some o/\H7 b=none)->Vals ys7 its7->(∃m',m' <n/\W (i+1) m' ys7 H7)->
      ∃m,m <n/\∃i ys its H',∃ob:Obj,Inv Y [(D,ob)] σ0 H' s7/\(∃n,ob={ cls:=.type "list",data:=.seq its.toArray n })/\Vals ys its/\H' D=none/\tn i s7.heap/\(∀b∈fp,H' b=none)/\W i m ys H':=by
     intro s7 H7 ys7 its7 cap7 pl I7 kf rv7 ⟨m',hm,w7⟩
     refine⟨m',hm,i+1,ys7,its7,H7,_,I7.unpinned.weak (by rw [I7.len];show((xs.map fun _=>(none:Option V)) ++ dN σ js).length=(xs ++ dI X.N js).length;unfold dN dI;rw [List.length_append,List.length_append,List.length_map,List.length_map,List.length_map]) fun j v e=>?_,⟨cap7,rfl⟩,rv7,(I7.pin _ (List.mem_append_right _ (List.mem_append_left _ List.mem_cons_self))).2.1,T.keep _ _ _ st5 fun b hb o e=>(kf b hb o e).1,fun b hb=>?_,w7⟩
     ·have e':((xs.map fun _=>(none:Option V)) ++ dN σ js)[j]?=some (some v):=e
      by_cases hj:j <xs.length
      ·exfalso
       rw [List.getElem?_append_left (by rw [List.length_map];exact hj),List.getElem?_map,List.getElem?_eq_getElem hj] at e'
       cases e'
      ·rw [List.getElem?_append_right (by rw [List.length_map];omega),List.length_map,<-hσ6,List.getElem?_drop] at e'
       rw [show xs.length+(j - xs.length)=j by omega] at e'
       exact e'
     ·obtain⟨o,e,_⟩:=T.obj _ _ st5 b hb
      exact(kf b hb o e).2
    refine wpAny_mono (hif cl (D+1) s H1 fp _ s6 _ H6 _ I6 q6) (fun ok s7 ⟨H7,I7,q7⟩=>?_) fun _ _ f=>False.elim f
    have kf7:∀b∈fp,∀o,s4.heap.get? b=some o->s7.heap.get? b=some o/\H7 b=none:=fun b hb o e=>
     have z:=I7.pin (b,o) (List.mem_append_right _ (List.mem_append_right _ (rU hb e)))
     ⟨z.1,z.2.1⟩
    cases ok with
    | false=>
     rw [if_neg Bool.false_ne_true] at q7 ⊢
     exact again I7 kf7 rv (hN7 _ _ q7)
    | true=>
     rw [if_pos rfl] at q7 ⊢
     refine wpAny_mono (he cl (D+1) s H1 fp _ s7 _ H7 _ I7 q7) (fun yv s8 ⟨y,H8,I8,r8,q8⟩=>?_) fun _ _ f=>False.elim f
     have pD:=I8.pin _ (List.mem_append_right _ (List.mem_append_left _ List.mem_cons_self))
     have hlen:=rv.length
     refine wpAny_list_append_plain (items:=its.toArray) ⟨cap,pD.1⟩ (fun h9 pl9 sb9=>?_) (by rw [List.size_toArray];omega)
     obtain⟨cap9,e9⟩:=pl9
     have I9:Inv Y [] σ6 H8 { s8 with heap:=h9 }:=(I8.pins_of (pins':=[]) fun p hp=>absurd hp (by simp)).turned (t':=s8.toks) (it:=D) (fun b o hb e=>(sb9.2 b hb).trans e) pD.2.1 hDC
      (.inr (Nat.le_of_eq hDe)) (fun y c e z=>absurd z (Nat.ne_of_lt (cellD y c (clsub y c e)))) fun p hp=>absurd (show p∈([]:List (Addr×Obj)) from hp) (by simp)
     have kf9:∀b∈fp,∀o,s4.heap.get? b=some o->h9.get? b=some o/\H8 b=none:=fun b hb o e=>by
      have z:=I8.pin (b,o) (List.mem_append_right _ (List.mem_append_right _ (rU hb e)))
      exact⟨(sb9.2 b (Nat.ne_of_lt (fpD b hb))).trans z.1,z.2.1⟩
     refine again (s7:={ s8 with heap:=h9 }) (its7:=its ++ [yv]) (cap7:=cap9) (pl:=[]) (I9.pins_of fun p hp=>?_) kf9 (rv.append (.cons r8 .nil)) (hN7 _ _ q8)
     have hp':p=(D,{ cls:=.type "list",data:=.seq (its ++ [yv]).toArray cap9 }):=by simpa using hp
     subst hp'
     refine⟨?_,pD.2.1,pD.2.2.1,pD.2.2.2.1,fun v z=>by cases z⟩
     rw [e9]
     simp
  ·refine IY.pins_of fun p hp=>?_
   have hp':p=(D,{ cls:=.type "list",dict:=none,data:=.seq ([]:List Value).toArray }):=by simpa using hp
   subst hp'
   exact⟨accD,fresh _ (Nat.le_refl _),hDC,fun hf=>Nat.lt_irrefl _ (frD _ hf),fun v z=>by cases z⟩
 exact codeAny_compStart_list (loop _ rfl) (wpAny_mono (T.self X.A 0 _ (fun v s'=>v=.ref it/\s'={ s with heap:=h₁,toks:=s.toks+([]:List (Str×Value)).length }) (fun _ _=>False) (T.keep _ _ _ st1 fun b _ o e=>old b o e) ⟨rfl,rfl⟩) (fun v s' ⟨e1,e2⟩=>by subst e1 e2;exact loop _ rfl) fun _ _ f=>f.elim)
theorem Dk (xs:List Str) (js:List Nat) (N0:List Str) (sc0:Scope) (hc:X.calm=true) (hi:PI X tg iter wi) (hg:∀cl C s H ex,PG (lU X scope xs js cl C s H ex) tg g)
  (hif:∀cl C s H ex,PF (lU X scope xs js cl C s H ex) ifs tt) (he:∀cl C s H ex,PE (lU X scope xs js cl C s H ex) elt te)
  (hk:scope.kind=.function:=by rfl) (hcell:∀y∈scope.names,y.2≠.cell:=by decide +kernel)
  (hnames:∀y∈scope.names,y.2=.local->scope.names.lookup y.1=some .local:=by decide +kernel)
  (hsc:X.env.scope=sc0:=by rfl) (hfree0:∀y∈scope.names,y.2=.free->sc0.names.lookup y.1=some .cell∨sc0.names.lookup y.1=some .free:=by decide +kernel)
  (hNN:X.N=N0:=by rfl) (hj0:∀y∈dI N0 js,scope.names.lookup y=some .free:=by decide +kernel)
  (hs:∀x,foldedSetIterable iter X.env x=pure x:=by intro _;rfl):
  PE X (.ListComp elt [⟨tg,iter,ifs,0⟩] scope pos) (RD xs js wi g tt te):=by
 intro pins s σ H Q I h
 have hfree:∀y∈scope.names,y.2=.free->X.env.kindOf y.1=some .cell∨X.env.kindOf y.1=some .free:=fun y hy e=>by
  show X.env.scope.names.lookup y.1=some .cell∨X.env.scope.names.lookup y.1=some .free
  rw [hsc];exact hfree0 y hy e
 rw [eval_ListComp]
 have hcl:closureFor scope X.env=pure (clos X.env scope.names []):=lB fun y hy e=>I.ok.has y.1 (hfree y hy e)
 refine wpAny_comprehension_free (use:=none) rfl hs hcl hk hnames (dJ (hi pins s σ H _ I h) fun xv s1 h1=>dJ h1 fun it s2 h2=>?_)
 have hjs:∀y∈dI X.N js,scope.names.lookup y=some .free:=by rw [hNN];exact hj0
 refine tW xs js (RR:=fun acc C=>compPost (model X.prog X.w) X.A X.xe none (EP X pins σ Q) acc C) (Q:=fun ys H2=>∀D,H2 D=none->Q (.ref D) (upd H2 D (.lst ys))) hc hk hcell hfree hg hif he hjs h2 ?_
 intro D C s' H2 ys m I' hD hn all fpC hCD hq
 exact⟨m,hn,fun h' sb=>⟨.ref D,_,all h' sb,rfl,hq D hD⟩⟩
theorem QB {i:Nat} {y:Str} {py spos:Pos} (xs:List Str) (js:List Nat) (N0:List Str) (sc0:Scope) (hc:X.calm=true) (hNX:X.N.Nodup) (hiy:X.N[i]?=some y) (hi:PI X tg iter wi) (hg:∀cl C s H ex,PG (lU X scope xs js cl C s H ex) tg g)
  (hif:∀cl C s H ex,PF (lU X scope xs js cl C s H ex) ifs tt) (he:∀cl C s H ex,PE (lU X scope xs js cl C s H ex) elt te)
  (hsw:swapsWith (.ListComp elt [⟨tg,iter,ifs,0⟩] scope pos) (some (.Name y py)) spos.line X.env=pure true:=by rfl) (hy:X.env.scope.names.lookup y=some .local:=by rfl)
  (hk:scope.kind=.function:=by rfl) (hcell:∀y∈scope.names,y.2≠.cell:=by decide +kernel)
  (hnames:∀y∈scope.names,y.2=.local->scope.names.lookup y.1=some .local:=by decide +kernel)
  (hsc:X.env.scope=sc0:=by rfl) (hfree0:∀y∈scope.names,y.2=.free->sc0.names.lookup y.1=some .cell∨sc0.names.lookup y.1=some .free:=by decide +kernel)
  (hNN:X.N=N0:=by rfl) (hj0:∀y∈dI N0 js,scope.names.lookup y=some .free:=by decide +kernel)
  (hs:∀x,foldedSetIterable iter X.env x=pure x:=by intro _;rfl):
  PS X (.Assign [.Name y py] (.ListComp elt [⟨tg,iter,ifs,0⟩] scope pos) spos) (QQ (RD xs js wi g tt te) (yJ i)):=by
 intro pins s σ H D I h
 have hfree:∀y∈scope.names,y.2=.free->X.env.kindOf y.1=some .cell∨X.env.kindOf y.1=some .free:=fun y hy e=>by
  show X.env.scope.names.lookup y.1=some .cell∨X.env.scope.names.lookup y.1=some .free
  rw [hsc];exact hfree0 y hy e
 have hjs:∀y∈dI X.N js,scope.names.lookup y=some .free:=by rw [hNN];exact hj0
 rw [exec_Assign_Name_used _ _ _ _ hsw]
 refine wpAny_bind (wpAny_standAt (wpAny_bind ?_))
 show wpAny _ X.A (do let _ <-comprehension (.ListComp elt [⟨tg,iter,ifs,0⟩] scope pos) scope X.env _ (newList []) false (eval iter X.env) (some (assign (.Name y py) X.env))) _ _ s
 have hcl:closureFor scope X.env=pure (clos X.env scope.names []):=lB fun y hy e=>I.ok.has y.1 (hfree y hy e)
 refine wpAny_bind (wpAny_mono (wpAny_comprehension_free (use:=some (assign (.Name y py) X.env)) (Q:=fun _ s'=>SP X pins D .next s') rfl hs hcl hk hnames
  (dJ (hi pins s σ H _ I h) fun xv s1 h1=>dJ h1 fun it s2 h2=>?_)) (fun _ s' hq=>wpAny_pure (wpAny_pure hq)) fun _ _ e=>e)
 refine tW xs js (RR:=fun acc C=>compPost (model X.prog X.w) X.A X.xe (some (assign (.Name y py) X.env)) (fun _ s'=>SP X pins D .next s') acc C) (Q:=fun ys H2=>∀D',H2 D'=none->D.nx (σ.set i (some (.ref D'))) (upd H2 D' (.lst ys))) hc hk hcell hfree hg hif he hjs h2 ?_
 intro D' C s' H2 ys m I' hD hn all fpC hCD hq
 show wpAny _ X.A (assign (.Name y py) X.env (.ref D')) _ _ _
 refine wpAny_assign_Name (zP I' hNX hiy (.inl hy) (v:=.ref D') rfl (fun s'' I'' ⟨a,sb,ha⟩=>?_) (.inr hy))
 obtain⟨f1,f2,f3,f4,f5,f6⟩:=fpC
 have hCa:C≠a:=by
  rcases ha with z | z
  ·rw [z];exact f2
  ·exact fun w=>f5 _ _ z w.symm
 exact⟨m,hn.sameBut sb hCa,fun h' sb'=>⟨_,_,I''.turned (t':=s''.toks) (it:=C) (fun b o hb e=>(sb'.2 b hb).trans e) f1 f2 f4 f5 f6,hq D' hD⟩⟩
end
theorem CJ {ts:List Str} {js:List Nat} {σ:St} {g:TG} {tt:TT} {te:TE} {Qd:List V->Hp->Prop} {K:PySem.W.Frag} {a:Addr} {xs:List V} {H:Hp} (Pv:Nat->List V->Hp->Prop) (hn:xs.length<=sizeLine) (h0:Pv 0 [] H) (hl:∀i ys H,Pv i ys H->ys.length<=i) (hq:∀i ys H,i<=xs.length->Pv i ys H->bI K H a xs)
  (hs:∀i x ys H,xs[i]?=some x->Pv i ys H->g x ((ts.map fun _=>none) ++ dN σ js) H fun σ2 H3=>σ2.drop ts.length=dN σ js/\tt σ2 H3 fun b H4=>if b=true then te σ2 H4 fun y H5=>Pv (i+1) (ys ++ [y]) H5 else Pv (i+1) ys H4)
  (hd:∀ys H,Pv xs.length ys H->Qd ys H):yc ts js σ g tt te Qd (Wt K a) H:=by
 refine⟨fun i m ys H=>m=xs.length - i/\i<=xs.length/\Pv i ys H,⟨xs.length,by simp,Nat.zero_le _,h0⟩,?_⟩
 rintro i m ys H ⟨rfl,hi,p⟩
 have hlen:=hl i ys H p
 have q:=hq i ys H hi p
 by_cases hlt:i <xs.length
 ·refine .inr ⟨⟨xs,xs[i],q,by simp [hlt]⟩,by omega,Pv (i+1),fun ys' H' p'=>⟨xs.length - (i+1),by omega,rfl,hlt,p'⟩,fun x H' y=>?_⟩
  obtain⟨e,y⟩:=y
  subst e
  exact hs i x ys _ (y xs q) p
 ·have e:i=xs.length:=by omega
  subst e
  exact .inl ⟨⟨xs,q,Nat.le_refl _⟩,by omega,hd ys H p⟩
structure Lf (K:PySem.W.Frag) (x qual:Str) (st:Stmt) (f:Addr) (fd:FuncData) (its:Array Value):Prop where
 ex:∃(oc:Value) (od:Option Addr) (T:Addr) (kV doc pm:Value) (an:Option Addr) (cdv ct:Value) (osl:Array (Option Value)) (o:Obj) (n:Nat),
  fd=PySem.W.fnOf x qual (jh st) (gM st) (bc st) (.ref T) kV doc pm an cdv ct/\K.lookup f=some ⟨oc,od,.func fd,osl⟩/\PySem.W.codeIn K cdv qual=true/\K.lookup T=some o/\o.data=.seq its n
 kp:PySem.W.keepIn K (.ref f)=true
section
variable {P:Program} {w:World} {K:PySem.W.Frag} {mg:Str->Option Value} {base:Heap} {its:Array Value}
theorem Lf.ok {x qual:Str} {st:Stmt} {f:Addr} {fd:FuncData} {N ps:List Str} {k:Nat} {sp:Sp} (F:Lf K x qual st f fd its) (S:fG N ps (bc st)) (len:∀vs H Q E,sp vs H Q E->vs.length=ps.length)
  (hbody:∀(cdv:Value) (A:Around) (outer:List Env) (s:Shared) (H:Hp) (vs:List V) (Q:VK) (E:XK),jq k (A.deeper (envOfC qual (bc st) s.heap.objs.size f cdv))->sp vs H Q E->
   ∃t,MP (K3 CP P w K mg base N qual (bc st) f cdv A outer s H E).nox (gM st) t/\t { nx:=fun _ H'=>Q .non H',rt:=Q } (start N vs) H):iM P w K mg base CP (k+1) f fd ps sp:=by
 obtain⟨oc,od,T,kV,doc,pm,an,cdv,ct,osl,o,n,rfl,lk,hcd,_⟩:=F.ex
 refine Vd lk hcd S len fun A outer s H vs Q E hr hsp=>?_
 obtain⟨t,h,q⟩:=hbody cdv A outer s H vs Q E hr hsp
 exact⟨t,h.nox,q⟩
theorem Lf.binds {x qual:Str} {st:Stmt} {f:Addr} {fd:FuncData} {ps:List Str} (F:Lf K x qual st f fd its)
  (h:∀(T:Addr) (kV doc pm:Value) (an:Option Addr) (cdv ct:Value) (us:List Value),us.length=ps.length->∃k,bindArgs (PySem.W.fnOf x qual (jh st) (gM st) (bc st) (.ref T) kV doc pm an cdv ct) ⟨us,[]⟩=seqItems? (.ref T) >>= k/\k (some its)=pure (ps.zip us)):Binds K fd ps []:=by
 obtain⟨oc,od,T,kV,doc,pm,an,cdv,ct,osl,o,n,rfl,lk,hcd,hT,ho⟩:=F.ex
 intro s us X hl
 rw [List.append_nil] at hl ⊢
 obtain⟨k,h1,h2⟩:=h T kV doc pm an cdv ct us hl
 exact .of_defaults rfl (X _ _ hT) ho h1 h2
theorem Uw {x qual:Str} {st:Stmt} {f T:Addr} {oc:Value} {od an:Option Addr} {osl:Array (Option Value)} {kV doc pm cdv ct:Value} {o:Obj} {n:Nat} (l:K.lookup f=some ⟨oc,od,.func (PySem.W.fnOf x qual (jh st) (gM st) (bc st) (.ref T) kV doc pm an cdv ct),osl⟩)
  (c:PySem.W.codeIn K cdv qual=true) (k:PySem.W.keepIn K (.ref f)=true) (d:K.lookup T=some o) (e:o.data=.seq its n):Lf K x qual st f (PySem.W.fnOf x qual (jh st) (gM st) (bc st) (.ref T) kV doc pm an cdv ct) its:=⟨⟨oc,od,T,kV,doc,pm,an,cdv,ct,osl,o,n,rfl,l,c,d,e⟩,k⟩
end
theorem Er {ts:List Str} {js:List Nat} {σ:St} {g:TG} {tt:TT} {te:TE} {Qd:List V->Hp->Prop} {K:PySem.W.Frag} {a:Addr} {xs:List V} {H:Hp} (Pv:Nat->List V->Hp->Prop) (hn:xs.length<=sizeLine) (h0:Pv 0 [] H) (hl:∀i ys H,Pv i ys H->ys.length<=i) (hq:∀i ys H,i<=xs.length->Pv i ys H->bI K H a xs)
  (hs:∀i x ys H p,xs[i]?=some x->Pv i ys H->H p=none->g (.ref p) ((ts.map fun _=>none) ++ dN σ js) (upd H p (.tup [.int (i:Nat),x])) fun σ2 H3=>σ2.drop ts.length=dN σ js/\tt σ2 H3 fun b H4=>if b=true then te σ2 H4 fun y H5=>Pv (i+1) (ys ++ [y]) H5 else Pv (i+1) ys H4)
  (hd:∀ys H,Pv xs.length ys H->Qd ys H):yc ts js σ g tt te Qd (O4 K a) H:=by
 refine⟨fun i m ys H=>m=xs.length - i/\i<=xs.length/\Pv i ys H,⟨xs.length,by simp,Nat.zero_le _,h0⟩,?_⟩
 rintro i m ys H ⟨rfl,hi,p⟩
 have hlen:=hl i ys H p
 have q:=hq i ys H hi p
 by_cases hlt:i <xs.length
 ·refine .inr ⟨⟨xs,xs[i],q,by simp [hlt]⟩,by omega,Pv (i+1),fun ys' H' p'=>⟨xs.length - (i+1),by omega,rfl,hlt,p'⟩,fun x H' y=>?_⟩
  obtain⟨u,z,hu,ex,eH,hy⟩:=y
  subst ex eH
  exact hs i z ys H u (hy xs q) p hu
 ·have e:i=xs.length:=by omega
  subst e
  exact .inl ⟨⟨xs,q,Nat.le_refl _⟩,by omega,hd ys H p⟩
section
variable {X:Cx} {e:Expr} {es:List Expr} {te:TE} {t:TA} {pos:Pos} {st:Stmt} {rest:List Stmt} {ts us:TS}
end
section
variable {X:Cx}
end
section
variable {X:Cx}
end
section
variable {prog:Program} {w:World} {A:Around} {E:Value->Shared->Prop}
end
section
variable {X:Cx} {tg:Expr}
end
section
variable {X:Cx} {e:Expr}
end
section
variable {X:Cx}
end
section
variable {M:Model} {A:Around} {E:Value->Shared->Prop} {nm q:Str} {C N:Addr} {bs bm:List Value} {hdct:Bool} {sn:List Str} {sub:List Value} {ab:Bool} {col:Option Bool} {dd:Option Addr} {k0 k1 k2 k3 k5:Option Value} {newId:String}
end
end L2
namespace L2
open PySem PyProof
section
variable {X:Cx} {x:Str} {px pos:Pos} {iter elt:Expr} {ifs:List Expr} {scope:Scope} {wi:TI} {tt:TT} {te:TE}
theorem Ag (js:List Nat) {pins:List (Addr×Obj)} {σ:St} {s:Shared} {itv:Value} {Q:List V->Hp->Prop} {RR:Value->Addr->Result->Shared->Prop} {E:Value->Shared->Prop}
  (hc:X.calm=true) (hk:scope.kind=.function) (hx:scope.names.lookup x=some .local) (hcell:∀y∈scope.names,y.2≠.cell)
  (hfree:∀y∈scope.names,y.2=.free->X.env.kindOf y.1=some .cell∨X.env.kindOf y.1=some .free)
  (hN:(x:: dI X.N js).Nodup) (hjs:∀y∈dI X.N js,scope.names.lookup y=some .free)
  (hif:∀cl C s H ex,PF (zE X scope x js cl C s H ex) ifs tt) (he:∀cl C s H ex,PE (zE X scope x js cl C s H ex) elt te)
  (hit:PIE X pins σ (.Name x px) (CompEnd js tt te σ Q) itv s)
  (hR:∀D C s' H2 ys m,Inv X pins σ (upd H2 D (.lst ys)) s'->H2 D=none->s'.heap.Ns C m->(∀h',Heap.SameBut C s'.heap h'->Inv X pins σ (upd H2 D (.lst ys)) { s' with heap:=h' })->Ik X pins (upd H2 D (.lst ys)) C->C≠D->Q ys H2->RR (.ref D) C (.ok .next) s'):
  wpAny (model X.prog X.w) X.A (newList []) (fun acc s₃=>wpAny (model X.prog X.w) X.A (newFunctionEnv scope X.env.globals (clos X.env scope.names []) [] X.env.qual none .none (some X.env)) (fun cenv s₄=>
   codeAny (model X.prog X.w) X.A (.compStart (.ListComp elt [⟨.Name x px,iter,ifs,0⟩] scope pos) 0 itv acc { cenv with scope:=relabel scope X.env }) (RR acc cenv.locals) s₄) E s₃) E s:=
 tW (tg:=.Name x px) (g:=yJ 0) [x] js hc hk hcell hfree (fun cl C s H ex=>lA (i:=0) hN rfl (.inl (lookup_relabel_local hx)) (.inr (lookup_relabel_local hx))) hif he hjs
  (by
   obtain⟨it,fp,tn,J,H',e,I,T,t0,hf,W,h0,hW⟩:=hit
   exact⟨it,fp,tn,J,H',e,I,T,t0,hf,W,h0,fun i m ys H2 w=>(hW i m ys H2 w).imp_right fun⟨a,b,N,c,d⟩=>⟨a,b,N,c,fun y H3 z=>⟨rfl,d y H3 z⟩⟩⟩) hR
theorem iT (js:List Nat) (N0:List Str) (sc0:Scope) (hc:X.calm=true) (hi:PI X (.Name x px) iter wi)
  (hif:∀cl C s H ex,PF (zE X scope x js cl C s H ex) ifs tt) (he:∀cl C s H ex,PE (zE X scope x js cl C s H ex) elt te)
  (hk:scope.kind=.function:=by rfl) (hx:scope.names.lookup x=some .local:=by rfl) (hcell:∀y∈scope.names,y.2≠.cell:=by decide +kernel)
  (hnames:∀y∈scope.names,y.2=.local->scope.names.lookup y.1=some .local:=by decide +kernel)
  (hsc:X.env.scope=sc0:=by rfl) (hfree0:∀y∈scope.names,y.2=.free->sc0.names.lookup y.1=some .cell∨sc0.names.lookup y.1=some .free:=by decide +kernel)
  (hNN:X.N=N0:=by rfl) (hN0:(x:: dI N0 js).Nodup:=by decide +kernel) (hj0:∀y∈dI N0 js,scope.names.lookup y=some .free:=by decide +kernel)
  (hs:∀x,foldedSetIterable iter X.env x=pure x:=by intro _;rfl):
  PE X (.ListComp elt [⟨.Name x px,iter,ifs,0⟩] scope pos) (UL js wi tt te):=by
 intro pins s σ H Q I h
 have hN:(x:: dI X.N js).Nodup:=by rw [hNN];exact hN0
 have hfree:∀y∈scope.names,y.2=.free->X.env.kindOf y.1=some .cell∨X.env.kindOf y.1=some .free:=fun y hy e=>by
  show X.env.scope.names.lookup y.1=some .cell∨X.env.scope.names.lookup y.1=some .free
  rw [hsc];exact hfree0 y hy e
 have hjs:∀y∈dI X.N js,scope.names.lookup y=some .free:=by rw [hNN];exact hj0
 rw [eval_ListComp]
 have hcl:closureFor scope X.env=pure (clos X.env scope.names []):=lB fun y hy e=>I.ok.has y.1 (hfree y hy e)
 refine wpAny_comprehension_free (use:=none) rfl hs hcl hk hnames (dJ (hi pins s σ H _ I h) fun xv s1 h1=>dJ h1 fun it s2 h2=>?_)
 refine Ag js (RR:=fun acc C=>compPost (model X.prog X.w) X.A X.xe none (EP X pins σ Q) acc C) (Q:=fun ys H2=>∀D,H2 D=none->Q (.ref D) (upd H2 D (.lst ys))) hc hk hx hcell hfree hN hjs hif he h2 ?_
 intro D C s' H2 ys m I' hD hn all fpC hCD hq
 exact⟨m,hn,fun h' sb=>⟨.ref D,_,all h' sb,rfl,hq D hD⟩⟩
theorem mH {i:Nat} {y:Str} {py spos:Pos} (js:List Nat) (N0:List Str) (sc0:Scope) (hc:X.calm=true) (hNX:X.N.Nodup) (hiy:X.N[i]?=some y) (hi:PI X (.Name x px) iter wi)
  (hif:∀cl C s H ex,PF (zE X scope x js cl C s H ex) ifs tt) (he:∀cl C s H ex,PE (zE X scope x js cl C s H ex) elt te)
  (hsw:swapsWith (.ListComp elt [⟨.Name x px,iter,ifs,0⟩] scope pos) (some (.Name y py)) spos.line X.env=pure true:=by rfl) (hy:X.env.scope.names.lookup y=some .local:=by rfl)
  (hk:scope.kind=.function:=by rfl) (hx:scope.names.lookup x=some .local:=by rfl) (hcell:∀y∈scope.names,y.2≠.cell:=by decide +kernel)
  (hnames:∀y∈scope.names,y.2=.local->scope.names.lookup y.1=some .local:=by decide +kernel)
  (hsc:X.env.scope=sc0:=by rfl) (hfree0:∀y∈scope.names,y.2=.free->sc0.names.lookup y.1=some .cell∨sc0.names.lookup y.1=some .free:=by decide +kernel)
  (hNN:X.N=N0:=by rfl) (hN0:(x:: dI N0 js).Nodup:=by decide +kernel) (hj0:∀y∈dI N0 js,scope.names.lookup y=some .free:=by decide +kernel)
  (hs:∀x,foldedSetIterable iter X.env x=pure x:=by intro _;rfl):
  PS X (.Assign [.Name y py] (.ListComp elt [⟨.Name x px,iter,ifs,0⟩] scope pos) spos) (QQ (UL js wi tt te) (yJ i)):=by
 intro pins s σ H D I h
 have hN:(x:: dI X.N js).Nodup:=by rw [hNN];exact hN0
 have hfree:∀y∈scope.names,y.2=.free->X.env.kindOf y.1=some .cell∨X.env.kindOf y.1=some .free:=fun y hy e=>by
  show X.env.scope.names.lookup y.1=some .cell∨X.env.scope.names.lookup y.1=some .free
  rw [hsc];exact hfree0 y hy e
 have hjs:∀y∈dI X.N js,scope.names.lookup y=some .free:=by rw [hNN];exact hj0
 rw [exec_Assign_Name_used _ _ _ _ hsw]
 refine wpAny_bind (wpAny_standAt (wpAny_bind ?_))
 show wpAny _ X.A (do let _ <-comprehension (.ListComp elt [⟨.Name x px,iter,ifs,0⟩] scope pos) scope X.env _ (newList []) false (eval iter X.env) (some (assign (.Name y py) X.env))) _ _ s
 have hcl:closureFor scope X.env=pure (clos X.env scope.names []):=lB fun y hy e=>I.ok.has y.1 (hfree y hy e)
 refine wpAny_bind (wpAny_mono (wpAny_comprehension_free (use:=some (assign (.Name y py) X.env)) (Q:=fun _ s'=>SP X pins D .next s') rfl hs hcl hk hnames
  (dJ (hi pins s σ H _ I h) fun xv s1 h1=>dJ h1 fun it s2 h2=>?_)) (fun _ s' hq=>wpAny_pure (wpAny_pure hq)) fun _ _ e=>e)
 refine Ag js (RR:=fun acc C=>compPost (model X.prog X.w) X.A X.xe (some (assign (.Name y py) X.env)) (fun _ s'=>SP X pins D .next s') acc C) (Q:=fun ys H2=>∀D',H2 D'=none->D.nx (σ.set i (some (.ref D'))) (upd H2 D' (.lst ys))) hc hk hx hcell hfree hN hjs hif he h2 ?_
 intro D' C s' H2 ys m I' hD hn all fpC hCD hq
 show wpAny _ X.A (assign (.Name y py) X.env (.ref D')) _ _ _
 refine wpAny_assign_Name (zP I' hNX hiy (.inl hy) (v:=.ref D') rfl (fun s'' I'' ⟨a,sb,ha⟩=>?_) (.inr hy))
 obtain⟨f1,f2,f3,f4,f5,f6⟩:=fpC
 have hCa:C≠a:=by
  rcases ha with z | z
  ·rw [z];exact f2
  ·exact fun w=>f5 _ _ z w.symm
 exact⟨m,hn.sameBut sb hCa,fun h' sb'=>⟨_,_,I''.turned (t':=s''.toks) (it:=C) (fun b o hb e=>(sb'.2 b hb).trans e) f1 f2 f4 f5 f6,hq D' hD⟩⟩
end
end L2
namespace L2
open PySem PySem.Spec PyProof.Rows
noncomputable def fdOf (K:PySem.W.Frag) (f:Addr):FuncData:=match K.lookup f with
 | some ⟨_,_,.func d,_⟩=>d
 | _=>default
theorem Tq {K:PySem.W.Frag} {f:Addr} {oc:Value} {od:Option Addr} {fd:FuncData} {osl:Array (Option Value)} (l:K.lookup f=some ⟨oc,od,.func fd,osl⟩):fdOf K f=fd:=by
 unfold fdOf
 rw [l]
structure dW (K:PySem.W.Frag) (nm qn:Str) (s:Stmt) (f:Addr) (ps:List Str):Prop where
 F:Vw K nm qn s f (fdOf K f)
 b:Binds K (fdOf K f) ps []
 i:PySem.W.isFn K (.ref f)=true
theorem dW.me {K:PySem.W.Frag} {nm qn m:Str} {s:Stmt} {f C:Addr} {ps:List Str} (x:dW K nm qn s f ps) (h:PySem.W.findIn K (.ref C) m=some (some (.ref f))):Meth K C m f:=⟨h,x.i,x.F.kp⟩
theorem dW.of {K:PySem.W.Frag} {nm qn:Str} {s:Stmt} {f:Addr} {ps:List Str} {oc:Value} {od an:Option Addr} {osl:Array (Option Value)} {kV doc pm cdv ct:Value}
  (l:K.lookup f=some ⟨oc,od,.func (PySem.W.fnOf nm qn (jh s) (gM s) (bc s) .none kV doc pm an cdv ct),osl⟩) (c:PySem.W.codeIn K cdv qn=true) (k:PySem.W.keepIn K (.ref f)=true) (i:PySem.W.isFn K (.ref f)=true)
  (h:∀(kV doc pm:Value) (an:Option Addr) (cdv ct:Value) (us:List Value),us.length=ps.length->bindArgs (PySem.W.fnOf nm qn (jh s) (gM s) (bc s) .none kV doc pm an cdv ct) ⟨us,[]⟩=pure (ps.zip us)):dW K nm qn s f ps:=by
 have e:fdOf K f=PySem.W.fnOf nm qn (jh s) (gM s) (bc s) .none kV doc pm an cdv ct:=by
  unfold fdOf
  rw [l]
 have F:=Wl l c k
 have b:=F.binds h
 rw [<-e] at F b
 exact⟨F,b,i⟩
structure Xc (K:PySem.W.Frag) (nm qn:Str) (s:Stmt) (f:Addr) (ps:List Str):Prop where
 F:Lf K nm qn s f (fdOf K f) #[.none]
 b:Binds K (fdOf K f) ps []
 i:PySem.W.isFn K (.ref f)=true
theorem Xc.me {K:PySem.W.Frag} {nm qn m:Str} {s:Stmt} {f C:Addr} {ps:List Str} (x:Xc K nm qn s f ps) (h:PySem.W.findIn K (.ref C) m=some (some (.ref f))):Meth K C m f:=⟨h,x.i,x.F.kp⟩
theorem Xc.of {K:PySem.W.Frag} {nm qn:Str} {s:Stmt} {f T:Addr} {ps:List Str} {oc oe:Value} {od an oh:Option Addr} {osl osm:Array (Option Value)} {kV doc pm cdv ct:Value} {n:Nat}
  (l:K.lookup f=some ⟨oc,od,.func (PySem.W.fnOf nm qn (jh s) (gM s) (bc s) (.ref T) kV doc pm an cdv ct),osl⟩) (d:K.lookup T=some ⟨oe,oh,.seq #[.none] n,osm⟩) (c:PySem.W.codeIn K cdv qn=true) (k:PySem.W.keepIn K (.ref f)=true) (i:PySem.W.isFn K (.ref f)=true)
  (h:∀fd:FuncData,Lf K nm qn s f fd #[.none]->Binds K fd ps []):Xc K nm qn s f ps:=by
 have F:=Uw (its:=#[.none]) l c k d rfl
 have b:=h _ F
 rw [<-Tq l] at F b
 exact⟨F,b,i⟩
structure oH (K:PySem.W.Frag) (mg:Str->Option Value) (nm:Str) (s:Stmt) (f:Addr) (ps:List Str):Prop where
 x:dW K nm nm s f ps
 m:mg nm=some (.ref f)
theorem oH.of {K:PySem.W.Frag} {mg:Str->Option Value} {nm:Str} {s:Stmt} {f:Addr} {ps:List Str} (m:mg nm=some (.ref f)) (x:dW K nm nm s f ps):oH K mg nm s f ps:=⟨x,m⟩
theorem gC {mg:Str->Option Value} {nm:Str} {u:Value} {v:V} (m:mg nm=some u) (r:RelV v u):∃u,mg nm=some u/\RelV v u:=⟨u,m,r⟩
theorem oH.F {K:PySem.W.Frag} {mg:Str->Option Value} {nm:Str} {s:Stmt} {f:Addr} {ps:List Str} (h:oH K mg nm s f ps):Vw K nm nm s f (fdOf K f):=h.x.F
theorem oH.b {K:PySem.W.Frag} {mg:Str->Option Value} {nm:Str} {s:Stmt} {f:Addr} {ps:List Str} (h:oH K mg nm s f ps):Binds K (fdOf K f) ps []:=h.x.b
noncomputable def MB (K:PySem.W.Frag) (C:Addr):List (Str×Addr)->Prop
 | []=>True
 | (m,f):: r=>PySem.W.findIn K (.ref C) m=some (some (.ref f))/\MB K C r
noncomputable def NB (K:PySem.W.Frag) (C:Addr):List Str->Prop
 | []=>True
 | f:: r=>PySem.W.findIn K (.ref C) f=some none/\NB K C r
structure Jl (K:PySem.W.Frag) (mg:Str->Option Value) (nm:Str) (C:Addr) (ms:List (Str×Addr)) (as:List Str):Prop where
 m:mg nm=some (.ref C)
 c:Oz K C
 mks:PySem.W.makesIn K C=true
 kp:PySem.W.keepIn K (.ref C)=true
 me:MB K C ms
 na:NB K C as
theorem Jl.M {K:PySem.W.Frag} {mg:Str->Option Value} {nm:Str} {C f:Addr} {ms:List (Str×Addr)} {as ps:List Str} {n q:Str} {s:Stmt} (h:Jl K mg nm C (("__init__",f):: ms) as) (x:dW K n q s f ps):Mk K C f:=⟨h.mks,h.me.1,x.i,h.kp⟩
theorem Wc {K:PySem.W.Frag} {nm qn:Str} {st:Stmt} {f:Addr} {x:Str} (F:Vw K nm qn st f (fdOf K f))
  (h:∀(kV doc pm:Value) (an:Option Addr) (cdv ct v:Value),bindArgs (PySem.W.fnOf nm qn (jh st) (gM st) (bc st) .none kV doc pm an cdv ct) ⟨[v],[]⟩=pure [(x,v)]) (s:Shared) (v:Value):BindsTo s (fdOf K f) ⟨[v],[]⟩ [(x,v)]:=by
 obtain⟨oc,od,kV,doc,pm,an,cdv,ct,osl,e,lk,hcd⟩:=F.ex
 rw [e]
 exact .of_eq (h kV doc pm an cdv ct v)
theorem Z5 {K:PySem.W.Frag} {h:Heap} {C f:Addr} (X:K.In h) (_:PySem.W.findIn K (.ref C) "__init__" =some (some (.ref f))) (b:Rp K C f=true):ExcAt K C:=(CW.ofIn b).at X
theorem us_0 {α:Type} {P:List α->Prop} (h:P []):∀us:List α,us.length=0->P us
 | [],_=>h
theorem DY {α:Type} {P:List α->Prop} (h:∀a,P [a]):∀us:List α,us.length=1->P us
 | [a],_=>h a
theorem xG {α:Type} {P:List α->Prop} (h:∀a b,P [a,b]):∀us:List α,us.length=2->P us
 | [a,b],_=>h a b
theorem Fe {α:Type} {P:List α->Prop} (h:∀a b c,P [a,b,c]):∀us:List α,us.length=3->P us
 | [a,b,c],_=>h a b c
theorem Ob {α:Type} {P:List α->Prop} (h:∀a b c d,P [a,b,c,d]):∀us:List α,us.length=4->P us
 | [a,b,c,d],_=>h a b c d
theorem WN {α:Type} {P:List α->Prop} (h:∀a b c d e,P [a,b,c,d,e]):∀us:List α,us.length=5->P us
 | [a,b,c,d,e],_=>h a b c d e
theorem Zk {α:Type} {P:List α->Prop} (h:∀a b c d e f,P [a,b,c,d,e,f]):∀us:List α,us.length=6->P us
 | [a,b,c,d,e,f],_=>h a b c d e f
theorem us_7 {α:Type} {P:List α->Prop} (h:∀a b c d e f g,P [a,b,c,d,e,f,g]):∀us:List α,us.length=7->P us
 | [a,b,c,d,e,f,g],_=>h a b c d e f g
theorem dW.sc {K:PySem.W.Frag} {nm qn:Str} {s:Stmt} {f:Addr} {ps:List Str} (_:dW K nm qn s f ps) (N:List Str) (h:fG N ps (bc s):=by exact⟨rfl,rfl,rfl,by decide +kernel,rfl,by decide +kernel,by decide +kernel⟩):fG N ps (bc s):=h
theorem oH.sc {K:PySem.W.Frag} {mg:Str->Option Value} {nm:Str} {s:Stmt} {f:Addr} {ps:List Str} (_:oH K mg nm s f ps) (N:List Str) (h:fG N ps (bc s):=by exact⟨rfl,rfl,rfl,by decide +kernel,rfl,by decide +kernel,by decide +kernel⟩):fG N ps (bc s):=h
noncomputable abbrev FO (P:Program) (w:World) (K:PySem.W.Frag) (mg:Str->Option Value) (base:Heap) (k:Nat) (f:Addr) (ps:List Str) (sp:Sp):Prop:=iM P w K mg base CP k f (fdOf K f) ps sp
theorem GX {N ps:List Str} {sc:Scope} (h:fG N ps sc:=by exact⟨rfl,rfl,rfl,by decide +kernel,rfl,by decide +kernel,by decide +kernel⟩):fG N ps sc:=h
section
variable {X:Cx} {k k' i:Nat} {f C:Addr} {ps as:List Str} {ms:List (Str×Addr)} {sp:Sp} {x m nm qn n:Str} {p pos apos pos':Pos} {e o:Expr} {es:List Expr} {ta te:TE} {t:TA} {s:Stmt} {N:List Str}
theorem dZ (F:iM X.prog X.w X.K X.mg X.base CP k f (fdOf X.K f) ps sp) (g:oH X.K X.mg x s f ps) (hr:jq k' X.A) (ha:PA X (e:: es) t) (hk:k<=k':=by decide) (hg:Gl X x:=by rfl)
  (hdb:(x == ("__debug__" :Str))=false:=by decide) (he:starEach (e:: es) X.env=(false,eval e X.env):: starEach es X.env:=by rfl) (hpl:(backTo pos (starEach es X.env)).any (·.1)=false:=by rfl):
  PE X (.Call (.Name x p) (e:: es) [] pos) (U3 sp [] E0 t):=S9 F (hr.mono hk) hg g.m g.F.kp g.b .nil iy ha hdb he hpl
theorem wQ {pl:Sem Bool} (he:PE X o ta) (c:Jl X.K X.mg n C ms as) (hm:PySem.W.findIn X.K (.ref C) m=some (some (.ref f))) (F:iM X.prog X.w X.K X.mg X.base CP k f (fdOf X.K f) ps sp) (g:dW X.K nm qn s f ps) (hr:jq k' X.A) (ha:PA X (e:: es) t)
  (hk:k<=k':=by decide) (hst:starEach (e:: es) X.env=(false,eval e X.env):: starEach es X.env:=by rfl) (hpl:(backTo pos (starEach es X.env)).any (·.1)=false:=by rfl)
  (ht:eval (.Call (.Attribute o m apos) (e:: es) [] pos) X.env=(do
   let ov <-eval o X.env
   standAt apos.atName
   let (f,first) <-holding [ov] (getMethod ov m pl)
   callWith pos f first (backTo pos (starEach (e:: es) X.env)) (backToKw pos (keywordEach [] X.env))):=by rfl):
  PE X (.Call (.Attribute o m apos) (e:: es) [] pos) (Ny C m sp [] E0 ta t):=Nv he c.c (g.me hm) F (hr.mono hk) g.b .nil iy ha hst hpl ht
theorem Sd {pl:Sem Bool} (he:PE X o ta) (c:Jl X.K X.mg n C ms as) (hm:PySem.W.findIn X.K (.ref C) m=some (some (.ref f))) (F:iM X.prog X.w X.K X.mg X.base CP k f (fdOf X.K f) ps sp) (g:dW X.K nm qn s f ps) (hr:jq k' X.A)
  (hk:k<=k':=by decide) (ht:eval (.Call (.Attribute o m apos) [] [] pos) X.env=(do
   let ov <-eval o X.env
   standAt apos.atName
   let (f,first) <-holding [ov] (getMethod ov m pl)
   callWith pos f first (backTo pos (starEach [] X.env)) (backToKw pos (keywordEach [] X.env))):=by rfl):
  PE X (.Call (.Attribute o m apos) [] [] pos) (Ny C m sp [] E0 ta Rz):=RJ he c.c (g.me hm) F (hr.mono hk) g.b .nil iy ht
theorem gN {sc:Scope} (S:fG X.N ps sc) (i:Nat) (hi:X.N[i]?=some x:=by rfl) (hx:Loc X.env.scope x:=by first | exact Or.inl rfl | exact Or.inr rfl) (hf:X.fn x=true∨X.env.scope.names.lookup x=some .local:=by first | exact .inl rfl | exact .inr rfl | assumption):PG X (.Name x pos) (yJ i):=lA S.nd hi hx hf
theorem sN {sc:Scope} (S:fG X.N ps sc) (i:Nat) (he:PE X e te) (hi:X.N[i]?=some x:=by rfl) (hx:Loc X.env.scope x:=by first | exact Or.inl rfl | exact Or.inr rfl) (hs:swapsWith e (some (.Name x pos')) pos.line X.env=pure false:=by rfl) (hf:X.fn x=true∨X.env.scope.names.lookup x=some .local:=by first | exact .inl rfl | exact .inr rfl | assumption):
  PS X (.Assign [.Name x pos'] e pos) (QQ te (yJ i)):=WY S.nd hi hx he hs hf
theorem Hx (h1:PE X o ta) (h2:PA X (e:: es) t) (hbase:attributeBase o "append" X.env (eval o X.env)=eval o X.env:=by rfl)
  (hfew:((backTo pos (starEach (e:: es) X.env)).all (fun x=>!x.1) && (backToKw pos (keywordEach [] X.env)).all (fun x=>x.1.isSome) && decide ((e:: es).length+([]:List Keyword).length+(if ([]:List Keyword).isEmpty then 0 else 1) <30))=true:=by rfl)
  (hline:(apos.endLine == pos.line)=true:=by rfl) (hs:starEach (e:: es) X.env=(false,eval e X.env):: starEach es X.env:=by rfl) (hplain:(backTo pos (starEach es X.env)).any (·.1)=false:=by rfl):
  PE X (.Call (.Attribute o "append" apos) (e:: es) [] pos) (Z2 X.K "list" M5 ta t):=Ek PySem.F.plainAttrs_list PySem.F.slot_list_append PySem.F.type_list_append OJ h1 h2 hbase hfew hline hs hplain
end
theorem ln {sp:Sp} {ps:List Str} (h:∀vs H Q E,sp vs H Q E->vs.length=ps.length:=by
 intro _ _ _ _ h
 first
 | (cases h;subst_vars;rfl)
 | (cases h;rename_i h;cases h;subst_vars;rfl)
 | (obtain⟨_,rfl,_⟩:=h;rfl)
 | (obtain⟨_,_,rfl,_⟩:=h;rfl)
 | (obtain⟨_,_,_,rfl,_⟩:=h;rfl)):∀vs H Q E,sp vs H Q E->vs.length=ps.length:=h
noncomputable def YD:V->V->V->Hp->(Hp->Prop)->Prop:=fun o i v H Q=>∃a H',o=.ref a/\j7 H a i v H'/\Q H'
theorem set_dict {X:Cx} (hu:X.A.units+1 <cLine):Tp X YD:=by
 intro pins s σ H o i v ov iv u Q I ro ri rv h
 obtain⟨a,H',rfl,g,q⟩:=h
 obtain rfl:ov=Value.ref a:=ro
 exact zF hu I g ri rv fun s1 I1=>⟨H',I1,q⟩
noncomputable def Yq (K:PySem.W.Frag):R2:=fun x y H Q=>∃p xs i v,x=.ref p/\y=.int i/\0<=i/\bI K H p xs/\Es xs i=some v/\Q v H
theorem Ka {X:Cx}:XJ X (Yq X.K):=by
 intro pins s σ H x y v u Q I rx ry h
 obtain⟨p,xs,i,z,rfl,rfl,h0,hq,he,q⟩:=h
 cases rx
 obtain⟨t,rfl⟩:=ry
 obtain⟨its,r,pl,hz⟩:=I.list hq
 obtain⟨j,h1,h2,h3,h4,h5⟩:=Bt he
 obtain⟨w,ew,rw'⟩:=r.get h2
 have hl:=r.length
 have hn:=zx
 have fin:EP X pins σ Q w s:=⟨z,H,I,rw',q⟩
 have hj:i.toNat=j:=by
  rw [seqIndex_of h0 h5] at h1
  exact Option.some.inj h1
 exact wpAny_getItem_list pl.isList h0 (by omega) (by rw [hj];simpa using ew) fin
end L2
namespace One
open PySem PySem.W PySem.Calls PyProof.Rows
def GK:Nat->BT->List Obj->BT
 | _,t,[]=>t
 | n,t,o:: r=>GK (n+1) (t.ins n o) r
def Iv:Nat->BT->List Obj->Bool
 | _,_,[]=>true
 | n,t,o:: r=>((t.ins n o).get n).isSome && Iv (n+1) (t.ins n o) r
theorem GD {life:Life}:∀(l:List Obj) (n:Nat) (t:BT) (as:List Obj),absHeap t n life=⟨as.toArray,life⟩->Iv n t l=true->absHeap (GK n t l) (n+l.length) life=⟨(as ++ l).toArray,life⟩
 | [],n,t,as,h,_=>by simpa [GK] using h
 | o:: r,n,t,as,h,k=>by
  simp only [Iv,Bool.and_eq_true] at k
  have e:=absHeap_ins (life:=life) k.1
  rw [h] at e
  have:=GD r (n+1) (t.ins n o) (as ++ [o]) (by rw [e];simp [Heap.push]) k.2
  rw [List.append_assoc] at this
  rw [List.length_cons,show n+(r.length+1)=n+1+r.length by omega]
  exact this
def Xp (tb:String->Option Builtin) (p:Program) (w:World) (m:Nat) (an:Option Value):Nat->SharedT->Thread->Option (SharedT×Thread)
 | 0,s,t=>some (s,t)
 | n+1,s,t=>match through t with
  | true=>some (s,t)
  | false=>match stepOk m an t with
   | false=>none
   | true=>match stepT (denote tb) p w s t with
    | some (s',t')=>Xp tb p w m an n s' t'
    | none=>none
theorem Rk {tb:String->Option Builtin} {p:Program} {w:World} {m:Nat} {an:Option Value}:∀{n:Nat} {s s':SharedT} {t t':Thread},Xp tb p w m an n s t=some (s',t')->through t'=true->topRun tb p w m an (n+1) s.abs t=some s'.abs
 | 0,s,s',t,t',h,z=>by
  obtain⟨rfl,rfl⟩:=Prod.mk.inj (Option.some.inj h)
  unfold topRun
  rw [z]
 | n+1,s,s',t,t',h,z=>by
  unfold Xp at h
  unfold topRun
  cases e1:through t with
  | true=>
   rw [e1] at h
   obtain⟨rfl,rfl⟩:=Prod.mk.inj (Option.some.inj h)
   rfl
  | false=>
   rw [e1] at h
   cases e2:stepOk m an t with
   | false=>rw [e2] at h;cases h
   | true=>
    rw [e2] at h
    cases e3:stepT (denote tb) p w s t with
    | none=>rw [e3] at h;cases h
    | some r=>
     obtain⟨s2,t2⟩:=r
     rw [e3] at h
     rw [stepT_spec e3]
     exact Rk h z
def ends (r:SharedT×Thread):Option SharedT:=match through r.2 with
 | true=>some r.1
 | false=>none
theorem Ue {tb:String->Option Builtin} {p:Program} {w:World} {m:Nat} {an:Option Value} {n:Nat} {s s':SharedT} {t:Thread} (h:(Xp tb p w m an n s t).bind ends=some s'):topRun tb p w m an (n+1) s.abs t=some s'.abs:=by
 obtain⟨⟨s2,t2⟩,e1,e2⟩:=Option.bind_eq_some_iff.mp h
 unfold ends at e2
 cases z:through t2 with
 | false=>simp only [z] at e2;cases e2
 | true=>
  simp only [z] at e2
  cases e2
  exact Rk e1 z
noncomputable def Xn (P:Params):Option Value:=(boot_heap P).nsMap mainGlobals "__annotations__"
noncomputable def S0 (w:World) (os:OsState):SharedT:=⟨GK 0 .nil (boot_heap w.params).objs.toList,11,{},Array.mk [],boot_drawn,boot_toks,os⟩
theorem WM (w:World) (os:OsState):(S0 w os).abs=⟨boot_heap w.params,Array.mk [],boot_drawn,boot_toks,os⟩:=by
 have e:=GD (life:={}) (boot_heap w.params).objs.toList 0 .nil [] rfl (by rfl)
 have e2:absHeap (GK 0 .nil (boot_heap w.params).objs.toList) 11 {}=boot_heap w.params:=e
 show(⟨absHeap (GK 0 .nil (boot_heap w.params).objs.toList) 11 {},_,_,_,_⟩:Shared)=_
 rw [e2]
 rfl
noncomputable def Wj (p:Program) (M:Nat) (w:World) (os:OsState):Option SharedT:=(Xp treeTable p w 11 (Xn w.params) M (S0 w os) (topStub p)).bind ends
noncomputable def Ri (p q:Program) (loose:List Str) (Xt:Shared->Bool) (M:Nat) (w:World) (os:OsState):=
 (Wj p M w os).map fun s=>(staticsOk (importedModules p.main.body) (boot_heap w.params) s.abs.heap && namesBound p s.abs.heap && gensDone s.abs && laidKept (boot_heap w.params) s.abs.heap,openSeen q loose (importedModules p.main.body) Xt true s.abs)
theorem Uc {p q:Program} {loose:List Str} {Xt:Shared->Bool} {α:Type} {Yf:Shared->α} {Ya:World->α} {N M:Nat} (e:opening p=plainProg p.main.scope.names) (hN:Nat.ble 600 N=true) (f:∀s,fenceModules? p s=some s) (le:Nat.ble (M+1) N=true)
  (A:∀w os,Ri p q loose Xt M w os=some (true,openGood q loose)) (B:∀w os,(Wj p M w os).map (fun s=>Yf s.abs)=some (Ya w)):LeftO p q loose Xt Yf Ya N:=fun w=>by
 obtain⟨⟨h,gs,d,k,os⟩,e1,e2⟩:=Option.map_eq_some_iff.mp (boot_open e hN f w)
 obtain⟨rfl,rfl,rfl,rfl⟩:h=boot_heap w.params/\gs=Array.mk []/\d=boot_drawn/\k=boot_toks:=by simpa using e2
 obtain⟨s1,r1,l1⟩:=Option.map_eq_some_iff.mp (A w os)
 obtain⟨s2,r2,l2⟩:=Option.map_eq_some_iff.mp (B w os)
 rw [r1] at r2
 cases r2
 obtain⟨l3,l4⟩:=Prod.mk.inj l1
 have r3:=Ue r1
 rw [WM] at r3
 have r4:=topRun_mono (N - (M+1)) _ _ _ _ r3
 rw [show M+1+(N - (M+1))=N by have:=Nat.le_of_ble_eq_true le;omega] at r4
 have t:topFrom treeTable p w N ⟨boot_heap w.params,Array.mk [],boot_drawn,boot_toks,os⟩=some s1.abs:=by
  unfold topFrom
  have z1:((boot_heap w.params).isNs mainGlobals && (Array.mk []:Array GenState).size == 0)=true:=by kernel_rfl
  dsimp only
  rw [z1]
  show((topRun treeTable p w 11 (Xn w.params) N _ _).bind _)=_
  rw [r4]
  show(match staticsOk (importedModules p.main.body) (boot_heap w.params) s1.abs.heap && namesBound p s1.abs.heap && gensDone s1.abs && laidKept (boot_heap w.params) s1.abs.heap with | true=>_ | false=>_)=_
  rw [l3]
 unfold openEnds
 rw [e1]
 show(topFrom treeTable p w N _).map _=_
 rw [t]
 exact congrArg some (Prod.ext l4 l2)
def yG (s:SharedT) (a:Addr):Option Obj:=match Nat.blt a s.n with
 | true=>(match s.tree.get a with | some o=>alive o | none=>none)
 | false=>none
theorem RQ {s:SharedT} {a:Addr} {o:Obj} (h:yG s a=some o):s.abs.heap.get? a=some o:=by
 unfold yG at h
 cases e:Nat.blt a s.n with
 | false=>rw [e] at h;cases h
 | true=>
  rw [e] at h
  cases g:s.tree.get a with
  | none=>rw [g] at h;cases h
  | some x=>
   rw [g] at h
   exact(abs_get (Nat.le_of_ble_eq_true e) g).trans h
theorem My {s:SharedT}:∀{as:List Addr} {l:List (Addr×Obj)},as.map (yG s)=l.map (fun p=>some p.2)->as.map s.abs.heap.get?=l.map fun p=>some p.2
 | [],[],_=>rfl
 | [],_:: _,h=>by cases h
 | _:: _,[],h=>by cases h
 | a:: as,x:: l,h=>by
  have h1:=List.cons.inj h
  show s.abs.heap.get? a:: as.map _=_
  rw [RQ h1.1,My h1.2]
  rfl
theorem chunk {o:Option SharedT} {as:List Addr} {l:List (Addr×Obj)} (n:Nat) (h1:o.map (fun s=>(as.take n).map (yG s))=some ((l.take n).map fun p=>some p.2)) (h2:o.map (fun s=>(as.drop n).map (yG s))=some ((l.drop n).map fun p=>some p.2)):
  o.map (fun s=>as.map (yG s))=some (l.map fun p=>some p.2):=by
 obtain⟨s,e1,e2⟩:=Option.map_eq_some_iff.mp h1
 subst e1
 have e3:=Option.some.inj h2
 show some (as.map (yG s))=_
 rw [<-List.take_append_drop n as,<-List.take_append_drop n l,List.map_append,List.map_append]
 exact congrArg some (congr (congrArg _ e2) e3)
theorem Tz {o:Option SharedT} {w:World} {K:Params->Frag} {as:List Addr} {e:∀P,as=(K P).map (·.1)} (h:o.map (fun s=>as.map (yG s))=some ((K w.params).map fun p=>some p.2)):
  o.map (fun s=>Hook.obs (kHook K as e) s.abs)=some (Hook.val (kHook K as e) w):=by
 obtain⟨s,h1,h2⟩:=Option.map_eq_some_iff.mp h
 rw [h1]
 exact congrArg some (My h2)
end One
namespace HD
open PySem PySem.W PySem.Calls PyProof.Rows
abbrev rr:OpenRow:=OpenLaw.row PySem.Challenge.rw_holdlane_k45_whole_a_beginning_of_the_pl
def q:Program:=view PySem.Challenge.pw_holdlane_k45_whole_a_beginning_of_the_pl [84]
def loose:List PySem.Str:=(["_wall", "LaneError", "TooMany", "NoKind", "BadName", "Doubled", "NoSuch", "BadNumbers", "BadLanes", "BadRoom", "Open", "Loose", "BadRow", "Flow", "VALUES", "FIGURES"]:List PySem.Str) ++ (["LETTERS", "LONGEST_NAME", "is_whole", "is_value", "is_name", "rest", "COUNTS", "Part", "Give", "Take", "Pass", "Copy", "Turn", "Heap", "Add", "Less"]:List PySem.Str) ++ (["Order", "Choose", "Split", "is_kind", "need_fit", "made_of", "part_made", "MOST_LANES", "MOST_PARTS", "MOST_ROOM", "need_counts", "need_fresh", "need_lane", "fresh_part", "tie_lanes", "need_ends"]:List PySem.Str) ++ (["joined_with", "need_joined", "Net", "LONGEST_ROW", "is_row", "need_rows", "Run", "_law_cell", "_law_mix", "_law_value", "_law_word", "_law_lane", "_law_part", "_law_pick", "_law_two", "_law_loop"]:List PySem.Str) ++ (["_law_step", "_law_closed", "_law_net", "_law_places", "_law_two_given", "_law_given", "_law_doors", "_law_heads", "_law_worked", "_law_plain", "_law_held", "_law_holds"]:List PySem.Str)
def Xt (s:Shared):Bool:=xlAt q [] s && recOk (RowW.records (OpenRow.toRowW (OpenLaw.row PySem.Challenge.rw_holdlane_k45_whole_a_beginning_of_the_pl))) s
structure KA where
 K:Params->Frag
 as:List Addr
def pickK {r:OpenRow} {K:Params->Frag} {as:List Addr} (_:(∀H:Hook,(∃e,H=kHook K as e)->r.Holds)->r.Holds):KA:=⟨K,as⟩
local macro_rules | `(tactic| o_head $H)=>`(tactic| (rename_i hh;exact hh $H ⟨_,rfl⟩))
noncomputable def ka:KA:=pickK (r:=rr) (fun _=>by k_head)
theorem Ul (P:Params):KA.as ka=(ka.heap_1 P).map (·.1):=by kernel_rfl
noncomputable def runC:World->OsState->Option SharedT:=fun w os=>One.Wj PySem.Challenge.pw_holdlane_k45_whole_a_beginning_of_the_pl 14060 w os
noncomputable def IK:=fun(w:World) (os:OsState)=>One.Ri PySem.Challenge.pw_holdlane_k45_whole_a_beginning_of_the_pl q loose Xt 14060 w os
noncomputable def Nz:=some (true,openGood q loose)
theorem Wm:runC=runC:=rfl
name_quick runQ for HD.runC by HD.Wm
theorem PB:IK=IK:=rfl
name_quick looksQ for HD.IK by HD.PB
theorem SQ:Nz=Nz:=rfl
name_quick goodQ for HD.Nz by HD.SQ
theorem A0 (w:World) (os:OsState):PySem.W.Fast.looksQ (w.withFollow "special-get-raises" false) os=PySem.W.Fast.goodQ:=by kernel_rfl
theorem Zv (w:World) (os:OsState):(PySem.W.Fast.runQ (w.withFollow "special-get-raises" false) os).map (fun s=>(KA.as ka).map (One.yG s))=some ((ka.heap_1 (w.withFollow "special-get-raises" false).params).map fun p=>some p.2):=by kernel_rfl
theorem B0 (w:World) (os:OsState):(PySem.W.Fast.runQ (w.withFollow "special-get-raises" false) os).map (fun s=>(KA.as ka).map (One.yG s))=some ((ka.heap_1 (w.withFollow "special-get-raises" false).params).map fun p=>some p.2):=Zv w os
theorem A1 (w:World) (os:OsState):PySem.W.Fast.looksQ (w.withFollow "special-get-raises" true) os=PySem.W.Fast.goodQ:=by kernel_rfl
theorem Za (w:World) (os:OsState):(PySem.W.Fast.runQ (w.withFollow "special-get-raises" true) os).map (fun s=>(KA.as ka).map (One.yG s))=some ((ka.heap_1 (w.withFollow "special-get-raises" true).params).map fun p=>some p.2):=by kernel_rfl
theorem B1 (w:World) (os:OsState):(PySem.W.Fast.runQ (w.withFollow "special-get-raises" true) os).map (fun s=>(KA.as ka).map (One.yG s))=some ((ka.heap_1 (w.withFollow "special-get-raises" true).params).map fun p=>some p.2):=Za w os
theorem A (w:World):∀os,IK w os=Nz:=by
 rw [PySem.W.Fast.looksQ_eq,PySem.W.Fast.goodQ_eq]
 exact byRow2 "special-get-raises" (P:=fun w=>∀os,PySem.W.Fast.looksQ w os=PySem.W.Fast.goodQ) A0 A1 w
theorem B (w:World):∀os,(runC w os).map (fun s=>(KA.as ka).map (One.yG s))=some ((ka.heap_1 w.params).map fun p=>some p.2):=by
 rw [PySem.W.Fast.runQ_eq]
 exact byRow2 "special-get-raises" (P:=fun w=>∀os,(PySem.W.Fast.runQ w os).map (fun s=>(KA.as ka).map (One.yG s))=some ((ka.heap_1 w.params).map fun p=>some p.2)) B0 B1 w
theorem head {d:DefRec} {kwd:List (PySem.Str×Expr)}
  (hdef:defOf q rr.name=some (d,kwd)) (hp:rr.prog.theDef rr.name=some (d.params,d.body,d.scope)) (hk:kwWritten? d.params.kwonlyargs d.params.kw_defaults=some kwd) (hwr:(!rr.writes || rr.records.isEmpty)=true)
  (k1:rr.wellSaid=true) (ok:(chainsOk q && opensWell rr.prog && (frees rr.toRowW && rr.within.isEmpty))=true) (hb:rr.prog.bare) (ho:opening PySem.Challenge.pw_holdlane_k45_whole_a_beginning_of_the_pl=plainProg (PySem.Challenge.pw_holdlane_k45_whole_a_beginning_of_the_pl).main.scope.names) (f:∀s,fenceModules? PySem.Challenge.pw_holdlane_k45_whole_a_beginning_of_the_pl s=some s)
  (hw:rr.toRowW.promised) (hc:WalkO q loose (XL q []) (Hook.says (kHook ka.heap_1 (KA.as ka) Ul)) rr.toRowW d kwd fun f vs=>PySem.call f vs):rr.Holds:=by
 have left:LeftO PySem.Challenge.pw_holdlane_k45_whole_a_beginning_of_the_pl q loose Xt (Hook.obs (kHook ka.heap_1 (KA.as ka) Ul)) (Hook.val (kHook ka.heap_1 (KA.as ka) Ul)) 28700:=One.Uc (M:=14060) ho rfl f rfl A fun w os=>One.Tz (B w os)
 exact holds_open (XP:=XL q []) (YP:=Hook.says (kHook ka.heap_1 (KA.as ka) Ul)) left (Hook.of _) (Hook.keeps _) (fun s z=>xl_of s (Bool.and_eq_true_iff.mp z).1) XL.keeps hdef hp hk (fun s z=>recFacts_of (Bool.and_eq_true_iff.mp z).2) hwr k1 ok hb hw hc
end HD
namespace K45
open PySem L2
theorem lM {α β:Type} {f:α->β} {l:List α}:(l.map f).length=l.length:=List.length_map ..
theorem lP {α:Type} {l m:List α}:(l ++ m).length=l.length+m.length:=List.length_append ..
theorem jl {n:Nat} (h:Nat.ble n 16777216=true:=by rfl):n<=sizeLine:=by rw [sizeLine_eq];exact Nat.le_of_ble_eq_true h
noncomputable def top (i:Nat):Stmt:=PySem.Challenge.pw_holdlane_k45_whole_a_beginning_of_the_pl.main.body.getD i (.Pass ⟨0,0,0,0⟩)
set_option genInjectivity false in
structure jN where
 (Dq Eo b7 uw uJ uf uc uX uZ xH uH rZ qO sI Fw CG Gg Ac Qe cP mZ cT dB sY qM qK qR qL sW qC o9 mV pH qT qQ Cz Bd xW Bb Ad Aw Av DR Ae Aj wz Dz Ga wA yu z9 yj Ba Ak wj ww lu lr jt uT uV iC qD pG qF pK su mW uG km sy pC uC zU mQ mO mK ur o8 Cj kO xN JC An pq pF zK uU wg rn yU zp Ah xV vU yL zq U4 Lj Le K4 Ls KC Kz Qm Mq Hz CN HQ dR cB pJ zb:Addr)
noncomputable abbrev ROWS:List (Str×List Int):=[("give",[0,0,1]),("take",[0,1,0]),("pass",[0,1,1]),("copy",[0,1,2]),("turn",[2,1,1]),("heap",[1,1,1]),("add",[0,2,1]),("less",[0,2,1]),("order",[0,2,2]),("choose",[0,3,1]),("split",[0,2,2])]
structure Txt (w:World) (K:PySem.W.Frag) (mg:Str->Option Value) (t:jN):Prop where
 iH:Jl K mg "Give" t.Lj [("__init__",t.b7),("kind",t.uw),("taking",t.cP),("lacks",t.cT),("worked",t.qT),("start",t.dB)] ["name", "numbers", "ins", "outs"]
 iD:Jl K mg "Take" t.Le [("__init__",t.b7),("kind",t.uJ),("taking",t.cP),("lacks",t.cT),("worked",t.qQ),("start",t.dB)] ["name", "numbers", "ins", "outs"]
 iV:Jl K mg "Pass" t.K4 [("__init__",t.b7),("kind",t.uf),("taking",t.cP),("lacks",t.cT),("worked",t.qM),("start",t.dB)] ["name", "numbers", "ins", "outs"]
 iG:Jl K mg "Copy" t.Ls [("__init__",t.b7),("kind",t.uc),("taking",t.cP),("lacks",t.cT),("worked",t.qK),("start",t.dB)] ["name", "numbers", "ins", "outs"]
 iY:Jl K mg "Turn" t.KC [("__init__",t.b7),("kind",t.uX),("taking",t.cP),("lacks",t.cT),("worked",t.qR),("start",t.dB)] ["name", "numbers", "ins", "outs"]
 iI:Jl K mg "Heap" t.Kz [("__init__",t.b7),("kind",t.uZ),("taking",t.cP),("lacks",t.cT),("worked",t.qL),("start",t.sY)] ["name", "numbers", "ins", "outs"]
 mC:Jl K mg "Add" t.Qm [("__init__",t.b7),("kind",t.xH),("taking",t.cP),("lacks",t.cT),("worked",t.sW),("start",t.dB)] ["name", "numbers", "ins", "outs"]
 iW:Jl K mg "Less" t.Mq [("__init__",t.b7),("kind",t.uH),("taking",t.cP),("lacks",t.cT),("worked",t.qC),("start",t.dB)] ["name", "numbers", "ins", "outs"]
 fK:Jl K mg "Order" t.Hz [("__init__",t.b7),("kind",t.rZ),("taking",t.cP),("lacks",t.cT),("worked",t.o9),("start",t.dB)] ["name", "numbers", "ins", "outs"]
 d8:Jl K mg "Choose" t.CN [("__init__",t.b7),("kind",t.qO),("taking",t.mZ),("lacks",t.cT),("worked",t.mV),("start",t.dB)] ["name", "numbers", "ins", "outs"]
 fO:Jl K mg "Split" t.HQ [("__init__",t.b7),("kind",t.sI),("taking",t.cP),("lacks",t.cT),("worked",t.pH),("start",t.dB)] ["name", "numbers", "ins", "outs"]
 bu:Jl K mg "Net" t.dR [("__init__",t.pK),("lane_names",t.lu),("part_names",t.lr),("names_of_kind",t.jt),("gives",t.uT),("takes",t.uV),("need_lane_name",t.iC),("room_of",t.qD),("first_of",t.pG),("part_of",t.qF)] ["rooms", "firsts", "parts", "givers", "takers"]
 aU:Jl K mg "Flow" t.cB [("__init__",t.mQ),("holds",t.su),("held_now",t.mW),("head",t.uG),("row_ended",t.km),("heads",t.sy),("lacking",t.pC),("deed",t.uC),("do",t.zU),("gone_by",t.pF)] ["net", "ever", "gone", "kept", "done", "rows"]
 bZ:Jl K mg "Run" t.pJ [("__init__",t.pq),("full_lane",t.mO),("next_deed",t.mK),("need_doors",t.kO),("step",t.xN),("works",t.ur),("lane_now",t.o8),("turn",t.Cj),("had",t.zK),("taken",t.uU)] ["net", "flow", "turns"]
 sr:oH K mg "is_whole" (top 21) t.Dq ["thing"]
 oX:oH K mg "is_value" (top 22) t.Eo ["thing"]
 bj:dW K "__init__" "Part.__init__" (inClass (top 27) 0) t.b7 ["self", "name", "numbers", "ins", "outs"]
 qb:dW K "kind" "Give.kind" (inClass (top 28) 0) t.uw ["self"]
 pW:dW K "kind" "Take.kind" (inClass (top 29) 0) t.uJ ["self"]
 p8:dW K "kind" "Pass.kind" (inClass (top 30) 0) t.uf ["self"]
 pR:dW K "kind" "Copy.kind" (inClass (top 31) 0) t.uc ["self"]
 qw:dW K "kind" "Turn.kind" (inClass (top 32) 0) t.uX ["self"]
 qi:dW K "kind" "Heap.kind" (inClass (top 33) 0) t.uZ ["self"]
 sO:dW K "kind" "Add.kind" (inClass (top 34) 0) t.xH ["self"]
 qu:dW K "kind" "Less.kind" (inClass (top 35) 0) t.uH ["self"]
 oG:dW K "kind" "Order.kind" (inClass (top 36) 0) t.rZ ["self"]
 lK:dW K "kind" "Choose.kind" (inClass (top 37) 0) t.qO ["self"]
 oJ:dW K "kind" "Split.kind" (inClass (top 38) 0) t.sI ["self"]
 vA:oH K mg "is_kind" (top 39) t.Fw ["word"]
 xx:oH K mg "need_fit" (top 40) t.CG ["kind", "name", "numbers", "ins", "outs"]
 Gk:oH K mg "made_of" (top 41) t.Gg ["kind", "name", "numbers", "ins", "outs"]
 Ab:oH K mg "part_made" (top 42) t.Ac ["kind", "name", "numbers", "ins", "outs"]
 CZ:oH K mg "rest" (top 24) t.Qe ["number"]
 bF:dW K "taking" "Part.taking" (inClass (top 27) 4) t.cP ["self", "heads"]
 jD:dW K "taking" "Choose.taking" (inClass (top 37) 1) t.mZ ["self", "heads"]
 bH:dW K "lacks" "Part.lacks" (inClass (top 27) 3) t.cT ["self", "heads"]
 bM:dW K "start" "Part.start" (inClass (top 27) 2) t.dB ["self"]
 nW:dW K "start" "Heap.start" (inClass (top 33) 1) t.sY ["self"]
 lL:dW K "worked" "Pass.worked" (inClass (top 30) 1) t.qM ["self", "values", "kept"]
 lJ:dW K "worked" "Copy.worked" (inClass (top 31) 1) t.qK ["self", "values", "kept"]
 lG:dW K "worked" "Turn.worked" (inClass (top 32) 1) t.qR ["self", "values", "kept"]
 lH:dW K "worked" "Heap.worked" (inClass (top 33) 2) t.qL ["self", "values", "kept"]
 nZ:dW K "worked" "Add.worked" (inClass (top 34) 1) t.sW ["self", "values", "kept"]
 lC:dW K "worked" "Less.worked" (inClass (top 35) 1) t.qC ["self", "values", "kept"]
 jQ:dW K "worked" "Order.worked" (inClass (top 36) 1) t.o9 ["self", "values", "kept"]
 jF:dW K "worked" "Choose.worked" (inClass (top 37) 2) t.mV ["self", "values", "kept"]
 jW:dW K "worked" "Split.worked" (inClass (top 38) 1) t.pH ["self", "values", "kept"]
 lV:dW K "worked" "Give.worked" (inClass (top 28) 1) t.qT ["self", "values", "kept"]
 lO:dW K "worked" "Take.worked" (inClass (top 29) 1) t.qQ ["self", "values", "kept"]
 bA:oH K mg "_law_mix" (top 64) t.Cz ["_law_cell_here", "_law_k"]
 fP:oH K mg "_law_cell" (top 63) t.Bd ["_law_script", "_law_k"]
 gJ:oH K mg "_law_value" (top 65) t.xW ["_law_cell_here", "_law_k"]
 jJ:oH K mg "_law_word" (top 66) t.Bb ["_law_cell_here", "_law_k"]
 iQ:oH K mg "_law_lane" (top 67) t.Ad ["_law_state", "_law_cell_here", "_law_back"]
 mJ:oH K mg "_law_pick" (top 69) t.Aw ["_law_state", "_law_number"]
 cM:oH K mg "_law_part" (top 68) t.Av ["_law_state", "_law_cell_here", "_law_kind", "_law_numbers", "_law_ins", "_law_many"]
 xJ:oH K mg "_law_two" (top 70) t.DR ["_law_state", "_law_cell_here", "_law_one", "_law_odd"]
 tV:oH K mg "_law_loop" (top 71) t.Ae ["_law_state", "_law_cell_here", "_law_one"]
 uP:oH K mg "_law_step" (top 72) t.Aj ["_law_state", "_law_cell_here", "_law_odd"]
 qG:oH K mg "_law_closed" (top 73) t.wz ["_law_state", "_law_cell_here", "_law_back"]
 xm:oH K mg "_law_net" (top 74) t.Dz ["_law_script", "_law_start", "_law_steps", "_law_odd"]
 zu:oH K mg "is_name" (top 23) t.Ga ["thing"]
 qy:oH K mg "need_counts" (top 47) t.wA ["lanes", "parts"]
 oE:oH K mg "need_fresh" (top 48) t.yu ["name", "known"]
 uY:oH K mg "need_lane" (top 49) t.z9 ["name", "room", "first"]
 sG:oH K mg "fresh_part" (top 50) t.yj ["row", "known"]
 pZ:oH K mg "tie_lanes" (top 51) t.Ba ["part", "lanes", "rooms", "ends"]
 ut:oH K mg "need_ends" (top 52) t.Ak ["rooms", "givers", "takers"]
 qN:oH K mg "joined_with" (top 53) t.wj ["part", "givers", "takers"]
 qz:oH K mg "need_joined" (top 54) t.ww ["names", "givers", "takers"]
 ji:dW K "lane_names" "Net.lane_names" (inClass (top 55) 1) t.lu ["self"]
 gf:dW K "part_names" "Net.part_names" (inClass (top 55) 2) t.lr ["self"]
 fZ:dW K "names_of_kind" "Net.names_of_kind" (inClass (top 55) 5) t.jt ["self", "kind"]
 lX:dW K "gives" "Net.gives" (inClass (top 55) 3) t.uT ["self"]
 pY:dW K "takes" "Net.takes" (inClass (top 55) 4) t.uV ["self"]
 dH:dW K "need_lane_name" "Net.need_lane_name" (inClass (top 55) 12) t.iC ["self", "name"]
 qU:dW K "room_of" "Net.room_of" (inClass (top 55) 7) t.qD ["self", "name"]
 pI:dW K "first_of" "Net.first_of" (inClass (top 55) 8) t.pG ["self", "name"]
 fV:dW K "part_of" "Net.part_of" (inClass (top 55) 11) t.qF ["self", "name"]
 j5:dW K "__init__" "Net.__init__" (inClass (top 55) 0) t.pK ["self", "lanes", "parts"]
 oK:dW K "holds" "Flow.holds" (inClass (top 15) 1) t.su ["self", "lane"]
 mY:dW K "held_now" "Flow.held_now" (inClass (top 15) 2) t.mW ["self", "lane"]
 tZ:dW K "head" "Flow.head" (inClass (top 15) 5) t.uG ["self", "lane"]
 lz:dW K "row_ended" "Flow.row_ended" (inClass (top 15) 8) t.km ["self", "name"]
 nY:dW K "heads" "Flow.heads" (inClass (top 15) 6) t.sy ["self", "part"]
 oU:dW K "lacking" "Flow.lacking" (inClass (top 15) 7) t.pC ["self", "name"]
 uy:dW K "deed" "Flow.deed" (inClass (top 15) 9) t.uC ["self", "name"]
 zy:dW K "do" "Flow.do" (inClass (top 15) 10) t.zU ["self", "name", "deed"]
 jC:dW K "__init__" "Flow.__init__" (inClass (top 15) 0) t.mQ ["self", "net", "rows"]
 mU:dW K "full_lane" "Run.full_lane" (inClass (top 61) 4) t.mO ["self", "deed"]
 mX:dW K "next_deed" "Run.next_deed" (inClass (top 61) 3) t.mK ["self", "name"]
 tX:dW K "works" "Run.works" (inClass (top 61) 6) t.ur ["self", "name"]
 oY:dW K "lane_now" "Run.lane_now" (inClass (top 61) 8) t.o8 ["self", "name"]
 V9:dW K "turn" "Run.turn" (inClass (top 61) 10) t.Cj ["self"]
 kI:dW K "need_doors" "Run.need_doors" (inClass (top 61) 2) t.kO ["self", "names"]
 xf:Xc K "step" "Run.step" (inClass (top 61) 1) t.xN ["self", "held"]
 Ci:oH K mg "is_row" (top 58) t.JC ["thing"]
 uN:oH K mg "need_rows" (top 59) t.An ["net", "rows"]
 jZ:dW K "__init__" "Run.__init__" (inClass (top 61) 0) t.pq ["self", "net", "rows"]
 o7:dW K "gone_by" "Flow.gone_by" (inClass (top 15) 3) t.pF ["self", "lane"]
 vo:dW K "had" "Run.had" (inClass (top 61) 9) t.zK ["self", "name"]
 um:dW K "taken" "Run.taken" (inClass (top 61) 7) t.uU ["self", "name"]
 qH:oH K mg "_law_places" (top 75) t.wg ["_law_kind", "_law_heads_here"]
 kY:oH K mg "_law_two_given" (top 76) t.rn ["_law_kind", "_law_values"]
 yp:oH K mg "_law_given" (top 77) t.yU ["_law_kind", "_law_numbers", "_law_values", "_law_kept"]
 rN:oH K mg "_law_doors" (top 78) t.zp ["_law_script", "_law_parts", "_law_many"]
 Ay:oH K mg "_law_held" (top 82) t.Ah ["_law_script", "_law_doors_here", "_law_cell_here", "_law_seldom"]
 sE:oH K mg "_law_heads" (top 79) t.xV ["_law_past", "_law_places_here", "_law_one"]
 qP:oH K mg "_law_worked" (top 80) t.vU ["_law_past", "_law_places_here", "_law_kept", "_law_one", "_law_row"]
 sV:oH K mg "_law_plain" (top 81) t.yL ["_law_lanes", "_law_parts", "_law_rows", "_law_most"]
 rO:oH K mg "_law_holds" (top 83) t.zq ["_law_run", "_law_lanes"]
 M9:oH K mg "law" (top 84) t.U4 ["_law_script"]
 GR:mg "COUNTS" =some (.ref t.zb)
 JP:KTab w K t.zb ROWS
 NQ:mg "all" =none
 VF:mg "bool" =none
 qe:mg "enumerate" =none
 U7:mg "int" =none
 oA:mg "isinstance" =none
 dX:mg "len" =none
 pB:mg "list" =none
 JX:mg "max" =none
 UG:mg "min" =none
 lF:mg "range" =none
 Vz:mg "str" =none
 Bw:mg "tuple" =none
 J9:∃u,mg "VALUES" =some u/\RelV (.int 1000000000) u
 Gb:∃u,mg "LETTERS" =some u/\RelV (.str "abcdefghijklmnopqrstuvwxyz") u
 En:∃u,mg "LONGEST_NAME" =some u/\RelV (.int 8) u
 Og:∃u,mg "FIGURES" =some u/\RelV (.str "0123456789") u
 HW:∃u,mg "MOST_LANES" =some u/\RelV (.int 24) u
 HN:∃u,mg "MOST_PARTS" =some u/\RelV (.int 16) u
 Jw:∃u,mg "MOST_ROOM" =some u/\RelV (.int 199) u
 Fp:∃u,mg "LONGEST_ROW" =some u/\RelV (.int 300) u
section
variable {P:Program} {w:World} {K:PySem.W.Frag} {mg:Str->Option Value} {base:Heap} {t:jN}
noncomputable def cL (i:Nat):Str:=match i with
 | 0=> "give"
 | 1=> "take"
 | 2=> "pass"
 | 3=> "copy"
 | 4=> "turn"
 | 5=> "heap"
 | 6=> "add"
 | 7=> "less"
 | 8=> "order"
 | 9=> "choose"
 | _=> "split"
noncomputable def cN (i:Nat):Nat:=match i with
 | 0=>0
 | 1=>0
 | 2=>0
 | 3=>0
 | 4=>2
 | 5=>1
 | 6=>0
 | 7=>0
 | 8=>0
 | 9=>0
 | _=>0
noncomputable def cI (i:Nat):Nat:=match i with
 | 0=>0
 | 1=>1
 | 2=>1
 | 3=>1
 | 4=>1
 | 5=>1
 | 6=>2
 | 7=>2
 | 8=>2
 | 9=>3
 | _=>2
noncomputable def cO (i:Nat):Nat:=match i with
 | 0=>1
 | 1=>0
 | 2=>1
 | 3=>2
 | 4=>1
 | 5=>1
 | 6=>1
 | 7=>1
 | 8=>2
 | 9=>1
 | _=>2
noncomputable def cls (t:jN) (i:Nat):Addr:=match i with
 | 0=>t.Lj
 | 1=>t.Le
 | 2=>t.K4
 | 3=>t.Ls
 | 4=>t.KC
 | 5=>t.Kz
 | 6=>t.Qm
 | 7=>t.Mq
 | 8=>t.Hz
 | 9=>t.CN
 | _=>t.HQ
theorem row_of (i:Nat):rowOf ROWS (cL i)=some [((cN i:Nat):Int),((cI i:Nat):Int),((cO i:Nat):Int)]:=match i with
 | 0=>by show rowOf ROWS "give" =some [0,0,1];decide +kernel
 | 1=>by show rowOf ROWS "take" =some [0,1,0];decide +kernel
 | 2=>by show rowOf ROWS "pass" =some [0,1,1];decide +kernel
 | 3=>by show rowOf ROWS "copy" =some [0,1,2];decide +kernel
 | 4=>by show rowOf ROWS "turn" =some [2,1,1];decide +kernel
 | 5=>by show rowOf ROWS "heap" =some [1,1,1];decide +kernel
 | 6=>by show rowOf ROWS "add" =some [0,2,1];decide +kernel
 | 7=>by show rowOf ROWS "less" =some [0,2,1];decide +kernel
 | 8=>by show rowOf ROWS "order" =some [0,2,2];decide +kernel
 | 9=>by show rowOf ROWS "choose" =some [0,3,1];decide +kernel
 | n+10=>by show rowOf ROWS "split" =some [0,2,2];decide +kernel
theorem ir (T:Txt w K mg t) (i:Nat):Oz K (cls t i):=match i with
 | 0=>T.iH.c
 | 1=>T.iD.c
 | 2=>T.iV.c
 | 3=>T.iG.c
 | 4=>T.iY.c
 | 5=>T.iI.c
 | 6=>T.mC.c
 | 7=>T.iW.c
 | 8=>T.fK.c
 | 9=>T.d8.c
 | n+10=>T.fO.c
theorem BW (T:Txt w K mg t) (i:Nat):oZ K (cls t i) "name" :=match i with
 | 0=>T.iH.na.1
 | 1=>T.iD.na.1
 | 2=>T.iV.na.1
 | 3=>T.iG.na.1
 | 4=>T.iY.na.1
 | 5=>T.iI.na.1
 | 6=>T.mC.na.1
 | 7=>T.iW.na.1
 | 8=>T.fK.na.1
 | 9=>T.d8.na.1
 | n+10=>T.fO.na.1
theorem sJ (T:Txt w K mg t) (i:Nat):oZ K (cls t i) "numbers" :=match i with
 | 0=>T.iH.na.2.1
 | 1=>T.iD.na.2.1
 | 2=>T.iV.na.2.1
 | 3=>T.iG.na.2.1
 | 4=>T.iY.na.2.1
 | 5=>T.iI.na.2.1
 | 6=>T.mC.na.2.1
 | 7=>T.iW.na.2.1
 | 8=>T.fK.na.2.1
 | 9=>T.d8.na.2.1
 | n+10=>T.fO.na.2.1
theorem xn (T:Txt w K mg t) (i:Nat):oZ K (cls t i) "ins" :=match i with
 | 0=>T.iH.na.2.2.1
 | 1=>T.iD.na.2.2.1
 | 2=>T.iV.na.2.2.1
 | 3=>T.iG.na.2.2.1
 | 4=>T.iY.na.2.2.1
 | 5=>T.iI.na.2.2.1
 | 6=>T.mC.na.2.2.1
 | 7=>T.iW.na.2.2.1
 | 8=>T.fK.na.2.2.1
 | 9=>T.d8.na.2.2.1
 | n+10=>T.fO.na.2.2.1
theorem Ib (T:Txt w K mg t) (i:Nat):oZ K (cls t i) "outs" :=match i with
 | 0=>T.iH.na.2.2.2.1
 | 1=>T.iD.na.2.2.2.1
 | 2=>T.iV.na.2.2.2.1
 | 3=>T.iG.na.2.2.2.1
 | 4=>T.iY.na.2.2.2.1
 | 5=>T.iI.na.2.2.2.1
 | 6=>T.mC.na.2.2.2.1
 | 7=>T.iW.na.2.2.2.1
 | 8=>T.fK.na.2.2.2.1
 | 9=>T.d8.na.2.2.2.1
 | n+10=>T.fO.na.2.2.2.1
theorem Vb (i:Nat):cN i<=2:=match i with
 | 0=>by show 0<=2;decide
 | 1=>by show 0<=2;decide
 | 2=>by show 0<=2;decide
 | 3=>by show 0<=2;decide
 | 4=>by show 2<=2;decide
 | 5=>by show 1<=2;decide
 | 6=>by show 0<=2;decide
 | 7=>by show 0<=2;decide
 | 8=>by show 0<=2;decide
 | 9=>by show 0<=2;decide
 | n+10=>by show 0<=2;decide
theorem vV (i:Nat):cI i<=3:=match i with
 | 0=>by show 0<=3;decide
 | 1=>by show 1<=3;decide
 | 2=>by show 1<=3;decide
 | 3=>by show 1<=3;decide
 | 4=>by show 1<=3;decide
 | 5=>by show 1<=3;decide
 | 6=>by show 2<=3;decide
 | 7=>by show 2<=3;decide
 | 8=>by show 2<=3;decide
 | 9=>by show 3<=3;decide
 | n+10=>by show 2<=3;decide
theorem Rq (i:Nat):cO i<=2:=match i with
 | 0=>by show 1<=2;decide
 | 1=>by show 0<=2;decide
 | 2=>by show 1<=2;decide
 | 3=>by show 2<=2;decide
 | 4=>by show 1<=2;decide
 | 5=>by show 1<=2;decide
 | 6=>by show 1<=2;decide
 | 7=>by show 1<=2;decide
 | 8=>by show 2<=2;decide
 | 9=>by show 1<=2;decide
 | n+10=>by show 2<=2;decide
theorem ie {f:Str} {y:V} {fs:List (Str×V)} {n:Nat} (h:fs.length<=n):(aJ f y fs).length<=n+1:=Nat.le_trans (uq f y fs) (Nat.succ_le_succ h)
noncomputable def CV (nm:V) (tn ti to:Addr):List (Str×V):=aJ "outs" (.ref to) (aJ "ins" (.ref ti) (aJ "numbers" (.ref tn) (aJ "name" nm [])))
theorem zV (nm:V) (tn ti to:Addr):(CV nm tn ti to).lookup ("name" :Str)=some nm:=by
 unfold CV
 rw [aC,if_neg (by decide +kernel),aC,if_neg (by decide +kernel),aC,if_neg (by decide +kernel),aC,if_pos rfl]
theorem rR (nm:V) (tn ti to:Addr):(CV nm tn ti to).lookup ("numbers" :Str)=some (.ref tn):=by
 unfold CV
 rw [aC,if_neg (by decide +kernel),aC,if_neg (by decide +kernel),aC,if_pos rfl]
theorem rG (nm:V) (tn ti to:Addr):(CV nm tn ti to).lookup ("ins" :Str)=some (.ref ti):=by
 unfold CV
 rw [aC,if_neg (by decide +kernel),aC,if_pos rfl]
theorem GP (nm:V) (tn ti to:Addr):(CV nm tn ti to).lookup ("outs" :Str)=some (.ref to):=by
 unfold CV
 rw [aC,if_pos rfl]
theorem vH (nm:V) (tn ti to:Addr) {m:Str} (h1:¬m= "outs") (h2:¬m= "ins") (h3:¬m= "numbers") (h4:¬m= "name"):(CV nm tn ti to).lookup m=none:=by
 unfold CV
 rw [aC,if_neg h1,aC,if_neg h2,aC,if_neg h3,aC,if_neg h4]
 all_goals rfl
structure fH (K:PySem.W.Frag) (t:jN) (H:Hp) (p:Addr) (i:Nat) (nm:V) (ns is os:List V):Prop where
 ex:∃dx tn ti to,H p=some (.ins (cls t i) dx (CV nm tn ti to))/\eQ K H tn ns/\eQ K H ti is/\eQ K H to os
theorem fH.same {H H':Hp} {p:Addr} {i:Nat} {nm:V} {ns is os:List V} (h:fH K t H p i nm ns is os) (s:aM H H'):fH K t H' p i nm ns is os:=by
 obtain⟨dx,tn,ti,to,h1,h2,h3,h4⟩:=h
 exact⟨dx,tn,ti,to,s _ _ h1,s.seqT h2,s.seqT h3,s.seqT h4⟩
noncomputable def je (i:Nat):Sp:=fun vs H Q _=>∃x,vs=[x]/\Q (.str (cL i)) H
noncomputable def nV (j:Nat):V:=.int (j:Nat)
inductive Val (v:V):Prop where
 | mk:∀n:Int,v=.int n->0<=n->n <1000000000->Val v
inductive Flat:PyData->Prop
 | non:Flat .none
 | int (i:Int):Flat (.int i)
noncomputable def places (i:Nat) (hs:List V):List Nat:=if i=9 then(match hs with | .int n:: _=>[0,1+(n % 2).toNat] | _=>[0]) else List.range hs.length
noncomputable def rP (i:Nat) (hs:List V):Prop:=hs.length=cI i/\∀h∈hs,h=.non∨∃n:Int,h=.int n
noncomputable def j6 (hs:List V) (q:Nat):Bool:=decide (hs[q]?=some V.non)
noncomputable def Nh (i:Nat) (hs:List V):V:=match (places i hs).find? (j6 hs) with
 | some q=>nV q
 | none=>.non
theorem f9 {i:Nat} {hs:List V} (h:rP i hs):∀q∈places i hs,q <hs.length:=by
 intro q hq
 unfold places at hq
 by_cases hi:i=9
 ·rw [if_pos hi] at hq
  have hl:hs.length=3:=by rw [h.1,hi];rfl
  rw [hl]
  split at hq
  ·rename_i n r
   have h0:=Int.emod_nonneg n (show(2:Int)≠0 by decide)
   have h1:=Int.emod_lt_of_pos n (show(0:Int) <2 by decide)
   simp at hq
   omega
  ·simp at hq
   omega
 ·rw [if_neg hi] at hq
  simpa using hq
theorem Nf {f:Nat->Bool}:∀{l:List Nat} {j q:Nat},l[j]?=some q->(∀x∈l.take j,f x=false)->f q=true->l.find? f=some q
 | [],_,_,e,_,_=>by simp at e
 | x:: r,0,q,e,_,hq=>by
  simp at e
  subst e
  rw [List.find?_cons,hq]
 | x:: r,j+1,q,e,h,hq=>by
  have hx:f x=false:=h x (by simp)
  rw [List.find?_cons,hx]
  exact Nf (l:=r) (j:=j) (by simpa using e) (fun y hy=>h y (by simp [hy])) hq
theorem S8 {f:Nat->Bool} {l:List Nat} (h:∀x∈l,f x=false):l.find? f=none:=by
 rw [List.find?_eq_none]
 intro x hx
 rw [h x hx]
 decide
inductive oR (K:PySem.W.Frag) (t:jN) (i:Nat) (vs:List V) (H:Hp) (Q:VK) (E:XK):Prop where
 | mk:∀(p a:Addr) (nm:V) (ns is os hs:List V),vs=[.ref p,.ref a]->fH K t H p i nm ns is os->is.length=cI i->bI K H a hs->rP i hs->(∀H' L,aM H H'->H L=none->H' L=some (.lst ((places i hs).map nV))->Q (.ref L) H')->oR K t i vs H Q E
inductive yD (K:PySem.W.Frag) (t:jN) (i:Nat) (vs:List V) (H:Hp) (Q:VK) (E:XK):Prop where
 | mk:∀(p a:Addr) (nm:V) (ns is os hs:List V),vs=[.ref p,.ref a]->fH K t H p i nm ns is os->is.length=cI i->bI K H a hs->rP i hs->(∀H',aM H H'->Q (Nh i hs) H')->yD K t i vs H Q E
noncomputable def g0 (l:List Int):Int:=l.getD 0 0
noncomputable def g1 (l:List Int):Int:=l.getD 1 0
noncomputable def cV (i:Nat):Nat:=match i with
 | 0=>1
 | 1=>1
 | 2=>1
 | 3=>1
 | 4=>1
 | 5=>1
 | 6=>2
 | 7=>2
 | 8=>2
 | 9=>2
 | _=>2
noncomputable def cz (i:Nat) (ns ws:List Int) (kp:Int):List (Int×Int):=match i with
 | 0=>[(0,g0 ws)]
 | 1=>[]
 | 2=>[(0,g0 ws)]
 | 3=>[(0,g0 ws),(1,g0 ws)]
 | 4=>[(0,(g0 ns * g0 ws+g1 ns) % 1000000000)]
 | 5=>[(0,(kp+g0 ws) % 1000000000)]
 | 6=>[(0,(g0 ws+g1 ws) % 1000000000)]
 | 7=>[(0,if g0 ws <g1 ws then 1 else 0)]
 | 8=>[(0,if g1 ws <g0 ws then g1 ws else g0 ws),(1,if g1 ws <g0 ws then g0 ws else g1 ws)]
 | 9=>[(0,g1 ws)]
 | _=>[(g0 ws % 2,g1 ws)]
noncomputable def d9 (i:Nat) (ws:List Int) (kp:Int):Int:=if i=5 then(kp+g0 ws) % 1000000000 else kp
noncomputable def BK (ps:List (Int×Int)):List (List V):=ps.map fun p=>[.int p.1,.int p.2]
noncomputable def VR (ws:List Int):Prop:=∀w∈ws,0<=w/\w <1000000000
inductive eG (K:PySem.W.Frag) (t:jN) (i:Nat) (vs:List V) (H:Hp) (Q:VK) (E:XK):Prop where
 | mk:∀(p a:Addr) (nm:V) (ns:List Int) (is os:List V) (ws:List Int) (kp:Int),vs=[.ref p,.ref a,.int kp]->fH K t H p i nm (ns.map V.int) is os->ns.length=cN i->bI K H a (ws.map V.int)->ws.length=cV i->VR ws->(∀H' U L rs,aM H H'->H L=none->H' U=some (.tup [.ref L,.int (d9 i ws kp)])->H' L=some (.lst (rs.map V.ref))->gB H' rs (BK (cz i ns ws kp))->Q (.ref U) H')->eG K t i vs H Q E
theorem rC {H:Hp} {Q:VK} {a b x y:Int} (hx:x=a) (hy:y=b) (k:∀H' L rs,aM H H'->H L=none->H' L=some (.lst (rs.map V.ref))->gB H' rs (BK [(a,b)])->Q (.ref L) H') {t0 L:Addr} (n0:H t0=none)
  (nL:(upd H t0 (.tup [.int x,.int y])) L=none):Q (.ref L) (upd (upd H t0 (.tup [.int x,.int y])) L (.lst [.ref t0])):=by
 subst hx hy
 have s0:=aB (o:=.tup [.int x,.int y]) n0
 have s1:=aB (o:=.lst [.ref t0]) nL
 exact k _ L [t0] (s0.trans s1) (s0.free nL) az (.cons (s1 _ _ az) .nil)
theorem RV {H:Hp} {Q:VK} {a b c d x y u v:Int} (hx:x=a) (hy:y=b) (hu:u=c) (hv:v=d) (k:∀H' L rs,aM H H'->H L=none->H' L=some (.lst (rs.map V.ref))->gB H' rs (BK [(a,b),(c,d)])->Q (.ref L) H') {t0 t1 L:Addr} (n0:H t0=none)
  (n1:(upd H t0 (.tup [.int x,.int y])) t1=none) (nL:(upd (upd H t0 (.tup [.int x,.int y])) t1 (.tup [.int u,.int v])) L=none):Q (.ref L) (upd (upd (upd H t0 (.tup [.int x,.int y])) t1 (.tup [.int u,.int v])) L (.lst [.ref t0,.ref t1])):=by
 subst hx hy hu hv
 have s0:=aB (o:=.tup [.int x,.int y]) n0
 have s1:=aB (o:=.tup [.int u,.int v]) n1
 have s2:=aB (o:=.lst [.ref t0,.ref t1]) nL
 exact k _ L [t0,t1] (s0.trans (s1.trans s2)) (s0.free (s1.free nL)) az (.cons (s2 _ _ (s1 _ _ az)) (.cons (s2 _ _ az) .nil))
theorem Du {H:Hp} {Q:VK} {c:Int} {ps:List (Int×Int)} (k:∀H' U L rs,aM H H'->H L=none->H' U=some (.tup [.ref L,.int c])->H' L=some (.lst (rs.map V.ref))->gB H' rs (BK ps)->Q (.ref U) H'):
  ∀H' L rs,aM H H'->H L=none->H' L=some (.lst (rs.map V.ref))->gB H' rs (BK ps)->∀U,H' U=none->Q (.ref U) (upd H' U (.tup [.ref L,.int c])):=fun H' L rs s nL eL tL U nU=>
 have s2:=aB (o:=.tup [.ref L,.int c]) nU
 k _ U L rs (s.trans s2) nL az (s2 _ _ eL) (tL.same s2)
theorem bT:(2:Nat)<=sizeLine:=by decide
theorem one_le:(1:Nat)<=sizeLine:=by decide
theorem Yr {a b:Int} {ws:List Int} (h:VR ws) (hb:b∈ws):IntMulOk a b:=.of_right (intBits_le_64 (by have:=(h b hb).1;omega) (by have:=(h b hb).2;omega))
noncomputable def G7 (i:Nat) (ns:List V):V:=if i=5 then ns.headD .non else .int 0
inductive uh (K:PySem.W.Frag) (t:jN) (i:Nat) (vs:List V) (H:Hp) (Q:VK) (E:XK):Prop where
 | mk:∀(p:Addr) (nm:V) (ns is os:List V),vs=[.ref p]->fH K t H p i nm ns is os->ns.length=cN i->Q (G7 i ns) H->uh K t i vs H Q E
noncomputable def Wz (i:Nat) (kv:V) (ns:List V):List V:=if i=5 then [kv] else ns
inductive Ec (K:PySem.W.Frag) (t:jN) (i:Nat) (vs:List V) (H:Hp) (Q:VK) (E:XK):Prop where
 | mk:∀(p:Addr) (kv nm:V) (ns is os:List V),vs=[.ref p,kv]->i<=10->fH K t H p i nm ns is os->(∀H' q,aM H H'->H q=none->fH K t H' q i nm (Wz i kv ns) is os->Q (.ref q) H')->Ec K t i vs H Q E
noncomputable def cD (a b:Int):Int:=((((a % 2147483647 * 48271+7919 * b+11) % 2147483647) * ((a % 2147483647 * 48271+7919 * b+11) % 2147483647) % 2147483629+613 * b) * (((a % 2147483647 * 48271+7919 * b+11) % 2147483647) * ((a % 2147483647 * 48271+7919 * b+11) % 2147483647) % 2147483629)) % 2147483587
theorem Bf (a b:Int):0<=cD a b:=Int.emod_nonneg _ (by decide)
noncomputable def j8 (ns:List Int) (j:Nat):Int:=(ns[j]?).getD (41 * (j:Int)+3)
noncomputable def qI (a b:Int):Int:=if cD a b / 7 % 3=0 then cD a b % 5 else if cD a b / 7 % 3=1 then cD a b % 10 ^ 9 else 10 ^ 9 - 1 - cD a b % 3
theorem rJ (a b:Int):0<=qI a b/\qI a b <1000000000:=by
 unfold qI
 have h0:=Bf a b
 generalize cD a b=n at h0
 split
 ·omega
 ·split
  ·have h1:=Int.emod_lt_of_pos n (show(0:Int) <10 ^ 9 by decide)
   have h2:=Int.emod_nonneg n (show(10:Int) ^ 9≠0 by decide)
   exact⟨h2,h1⟩
  ·have h1:=Int.emod_lt_of_pos n (show(0:Int) <3 by decide)
   have h2:=Int.emod_nonneg n (show(3:Int)≠0 by decide)
   have e:(10:Int) ^ 9=1000000000:=by decide
   rw [e]
   omega
noncomputable def low (c:Nat):Bool:=decide (97<=c) && decide (c<=122)
noncomputable def Nm (c:Nat):Bool:=decide (48<=c) && decide (c<=57)
noncomputable def nameB (x:Str):Bool:=match x.cps.toList with
 | []=>false
 | c:: r=>decide (r.length<=7) && (low c && (c:: r).all fun d=>low d || Nm d)
theorem oM (x:Str):x.cps.toList.length=x.length:=by simp [Str.length]
theorem Cg:∀(ws:List Str),(Str.join Str.empty ws).cps.toList=(ws.map fun w=>w.cps.toList).flatten
 | []=>rfl
 | [w]=>by simp [Str.join]
 | w:: v:: r=>by
  have ih:=Cg (v:: r)
  show(w.cps ++ #[] ++ (Str.join Str.empty (v:: r)).cps).toList=_
  rw [Array.toList_append,ih]
  simp
theorem Q9 {n:Nat}:∀(ws:List Str),(∀w∈ws,w.length<=n)->(ws.map (·.length)).sum<=ws.length * n
 | [],_=>by simp
 | w:: r,h=>by
  have h1:=h w (by simp)
  have h2:=Q9 r fun v hv=>h v (by simp [hv])
  simp only [List.map_cons,List.sum_cons,List.length_cons,Nat.add_mul]
  omega
noncomputable def JG (n:Int):Nat:=97+(n % 26).toNat
theorem IV (n:Int):low (JG n)=true:=by
 unfold low JG
 have h0:=Int.emod_nonneg n (show(26:Int)≠0 by decide)
 have h1:=Int.emod_lt_of_pos n (show(0:Int) <26 by decide)
 simp
 omega
noncomputable abbrev LT:Str:= "abcdefghijklmnopqrstuvwxyz"
theorem Li:LT.length=26:=by decide +kernel
theorem RT:LT.cps.toList=List.range' 97 26:=by decide +kernel
theorem Rf (n:Int):Es LT.cps.toList (n % 26)=some (JG n):=by
 have h0:=Int.emod_nonneg n (show(26:Int)≠0 by decide)
 have h1:=Int.emod_lt_of_pos n (show(0:Int) <26 by decide)
 obtain⟨j,hj⟩:∃j:Nat,n % 26=(j:Int):=⟨(n % 26).toNat,by omega⟩
 unfold JG
 rw [hj,RT]
 exact aK (by rw [List.getElem?_range' (by omega)];simp)
noncomputable def gH (a:Int):List Nat:=(List.range (cD a 50 % 7).toNat).map fun j=>JG (cD a (60+(j:Nat)))
noncomputable def qg (a:Int):Nat:=(cD a 51 % (cD a 50 % 7+1)).toNat
noncomputable def K7 (n:Nat):List Nat:=(toString (Int.ofNat n):Str).cps.toList
noncomputable def Az (a:Int) (k:Nat):List Nat:=if cD a 52 % 3=0 then JG (cD a 53):: K7 (cD a 54 % 1000+37 * (k:Int)).toNat else(gH a).take (qg a) ++ JG (cD a 55+k):: (gH a).drop (qg a)
noncomputable def cW (a:Int) (k:Nat):Str:=⟨(Az a k).toArray⟩
noncomputable def PJ (l:List Nat):Nat:=l.foldl (fun r c=>10 * r+(c - 48)) 0
theorem S7:(List.range 2000).all (fun i=>(K7 i).all Nm && decide ((K7 i).length<=4) && decide (PJ (K7 i)=i))=true:=by decide +kernel
theorem vJ {n:Nat} (h:n <2000):(K7 n).all Nm=true/\(K7 n).length<=4/\PJ (K7 n)=n:=by
 have z:=List.all_eq_true.mp S7 n (List.mem_range.mpr h)
 simp only [Bool.and_eq_true,decide_eq_true_eq] at z
 exact⟨z.1.1,z.1.2,z.2⟩
theorem DN (a:Int):(gH a).length<=6/\((gH a).length:Int)=cD a 50 % 7:=by
 unfold gH
 have h0:=Int.emod_nonneg (cD a 50) (show(7:Int)≠0 by decide)
 have h1:=Int.emod_lt_of_pos (cD a 50) (show(0:Int) <7 by decide)
 rw [lM,List.length_range]
 omega
theorem MJ (a:Int):qg a<=(gH a).length:=by
 have h:=(DN a).2
 unfold qg
 have h0:=Int.emod_nonneg (cD a 50) (show(7:Int)≠0 by decide)
 have h1:=Int.emod_lt_of_pos (cD a 51) (show(0:Int) <cD a 50 % 7+1 by omega)
 have h2:=Int.emod_nonneg (cD a 51) (show cD a 50 % 7+1≠0 by omega)
 omega
theorem DP {x:Str} {c:Nat} {r:List Nat} (e:x.cps.toList=c:: r) (h:r.length<=7) (hc:low c=true) (ha:∀d∈r,low d=true∨Nm d=true):nameB x=true:=by
 unfold nameB
 rw [e]
 simp only [Bool.and_eq_true,decide_eq_true_eq,List.all_eq_true,Bool.or_eq_true]
 refine⟨h,hc,fun d hd=>?_⟩
 rcases List.mem_cons.mp hd with rfl | hd
 ·exact .inl hc
 ·exact ha d hd
theorem Dy (a:Int) (k:Nat):(cW a k).cps.toList=Az a k:=by simp [cW]
theorem Ng (a:Int) {k:Nat} (hk:k <26):nameB (cW a k)=true:=by
 have h0:=Int.emod_nonneg (cD a 54) (show(1000:Int)≠0 by decide)
 have h1:=Int.emod_lt_of_pos (cD a 54) (show(0:Int) <1000 by decide)
 have e:=Dy a k
 unfold Az at e
 split at e
 ·obtain⟨n1,n2,_⟩:=vJ (n:=(cD a 54 % 1000+37 * (k:Int)).toNat) (by omega)
  exact DP e (by omega) (IV _) fun c hc=>.inr (List.all_eq_true.mp n1 c hc)
 ·have b1:=(DN a).1
  have b2:=MJ a
  have all:∀c∈(gH a).take (qg a) ++ JG (cD a 55+k):: (gH a).drop (qg a),low c=true:=fun c hc=>by
   have hb:∀c∈gH a,low c=true:=fun c hc=>by
    unfold gH at hc
    obtain⟨j,_,rfl⟩:=List.mem_map.mp hc
    exact IV _
   rcases List.mem_append.mp hc with h | h
   ·exact hb c (List.mem_of_mem_take h)
   ·rcases List.mem_cons.mp h with rfl | h
    ·exact IV _
    ·exact hb c (List.mem_of_mem_drop h)
  have len:((gH a).take (qg a) ++ JG (cD a 55+k):: (gH a).drop (qg a)).length<=7:=by
   rw [lP,List.length_take,List.length_cons,List.length_drop]
   omega
  have ne:(gH a).take (qg a) ++ JG (cD a 55+k):: (gH a).drop (qg a)≠[]:=by simp
  generalize (gH a).take (qg a) ++ JG (cD a 55+k):: (gH a).drop (qg a)=l at all len ne e
  obtain⟨c,r,rfl⟩:=List.exists_cons_of_ne_nil ne
  rw [List.length_cons] at len
  exact DP e (by omega) (all c List.mem_cons_self) fun d hd=>.inl (all d (List.mem_cons_of_mem _ hd))
theorem J8 (a:Int) {j k:Nat} (hj:j <26) (hk:k <26) (h:cW a j=cW a k):j=k:=by
 have e:Az a j=Az a k:=by
  have:=congrArg (fun s:Str=>s.cps.toList) h
  simpa [cW] using this
 unfold Az at e
 split at e
 ·have h0:=Int.emod_nonneg (cD a 54) (show(1000:Int)≠0 by decide)
  have h1:=Int.emod_lt_of_pos (cD a 54) (show(0:Int) <1000 by decide)
  have e2:=congrArg PJ (List.cons.inj e).2
  rw [(vJ (by omega)).2.2,(vJ (by omega)).2.2] at e2
  omega
 ·have e2:=(List.cons.inj (List.append_cancel_left e)).1
  unfold JG at e2
  omega
namespace Drawn
variable {S:Type}
structure iz (S:Type) where
 kind:Nat
 name:S
 nums:List Int
 ins:List S
 outs:List S
structure NS (S:Type) where
 lanes:List S
 parts:List (iz S)
 opens:List S
 back:List S
inductive jx (ps:List (iz S)):S->S->Prop
 | refl (x:S):jx ps x x
 | step {x y z:S} {p:iz S}:p∈ps->x∈p.ins ++ p.outs->y∈p.ins ++ p.outs->jx ps y z->jx ps x z
theorem jx.trans {ps:List (iz S)} {x y z:S} (h:jx ps x y) (k:jx ps y z):jx ps x z:=by
 induction h with
 | refl _=>exact k
 | step hp hx hy _ ih=>exact .step hp hx hy (ih k)
theorem jx.symm {ps:List (iz S)} {x y:S} (h:jx ps x y):jx ps y x:=by
 induction h with
 | refl _=>exact .refl _
 | step hp hx hy _ ih=>exact ih.trans (.step hp hy hx (.refl _))
theorem jx.mono {ps qs:List (iz S)} (hs:∀p∈ps,p∈qs) {x y:S} (h:jx ps x y):jx qs x y:=by
 induction h with
 | refl _=>exact .refl _
 | step hp hx hy _ ih=>exact .step (hs _ hp) hx hy ih
theorem jx.part {ps:List (iz S)} {p:iz S} (hp:p∈ps) {x y:S} (hx:x∈p.ins ++ p.outs) (hy:y∈p.ins ++ p.outs):jx ps x y:=.step hp hx hy (.refl _)
structure WF (ns:NS S):Prop where
 nod:ns.lanes.Nodup
 outs:((ns.parts.flatMap (·.outs)) ++ ns.back).Perm ns.lanes
 ins:((ns.parts.flatMap (·.ins)) ++ ns.opens).Perm ns.lanes
 hang:∀p∈ns.parts,∃x∈p.ins ++ p.outs,∃o∈ns.opens,jx ns.parts x o
 touch:∀p∈ns.parts,p.ins ++ p.outs≠[]
theorem WF.add {ns:NS S} (w:WF ns) {p:iz S} {newl opens' back':List S} (hn:(ns.lanes ++ newl).Nodup) (ho:(p.outs ++ back').Perm (ns.back ++ newl)) (hi:(p.ins ++ opens').Perm (ns.opens ++ newl))
  (hg:∀o∈ns.opens,∃o'∈opens',jx (ns.parts ++ [p]) o o') (hp:∃x∈p.ins ++ p.outs,∃o∈opens',jx (ns.parts ++ [p]) x o):
  WF { lanes:=ns.lanes ++ newl,parts:=ns.parts ++ [p],opens:=opens',back:=back' }:=by
 have mono:∀q∈ns.parts,q∈ns.parts ++ [p]:=fun q hq=>List.mem_append.mpr (.inl hq)
 refine⟨hn,?_,?_,?_,?_⟩
 ·have e:(ns.parts ++ [p]).flatMap (·.outs)=ns.parts.flatMap (·.outs) ++ p.outs:=by simp
  show(((ns.parts ++ [p]).flatMap (·.outs)) ++ back').Perm _
  rw [e,List.append_assoc]
  exact(ho.append_left _).trans (by rw [<-List.append_assoc];exact w.outs.append_right _)
 ·have e:(ns.parts ++ [p]).flatMap (·.ins)=ns.parts.flatMap (·.ins) ++ p.ins:=by simp
  show(((ns.parts ++ [p]).flatMap (·.ins)) ++ opens').Perm _
  rw [e,List.append_assoc]
  exact(hi.append_left _).trans (by rw [<-List.append_assoc];exact w.ins.append_right _)
 ·intro q hq
  rcases List.mem_append.mp hq with h | h
  ·obtain⟨x,hx,o,hoq,c⟩:=w.hang q h
   obtain⟨o',ho',c'⟩:=hg o hoq
   exact⟨x,hx,o',ho',(c.mono mono).trans c'⟩
  ·rw [List.mem_singleton] at h
   subst h
   exact hp
 ·intro q hq
  rcases List.mem_append.mp hq with h | h
  ·exact w.touch q h
  ·rw [List.mem_singleton] at h
   subst h
   obtain⟨x,hx,_⟩:=hp
   intro z
   rw [z] at hx
   cases hx
theorem WF.start:WF (⟨[],[],[],[]⟩:NS S):=⟨List.nodup_nil,.refl _,.refl _,fun p hp=>(by cases hp),fun p hp=>(by cases hp)⟩
theorem WF.backLane {ns:NS S} (w:WF ns) {b:S} (hn:(ns.lanes ++ [b]).Nodup):WF { ns with lanes:=ns.lanes ++ [b],opens:=ns.opens ++ [b],back:=ns.back ++ [b] }:=by
 refine⟨hn,?_,?_,fun p hp=>?_,w.touch⟩
 ·show(_ ++ (ns.back ++ [b])).Perm _
  rw [<-List.append_assoc]
  exact w.outs.append_right _
 ·show(_ ++ (ns.opens ++ [b])).Perm _
  rw [<-List.append_assoc]
  exact w.ins.append_right _
 ·obtain⟨x,hx,o,ho,c⟩:=w.hang p hp
  exact⟨x,hx,o,List.mem_append.mpr (.inl ho),c⟩
theorem WF.part {ns:NS S} (w:WF ns) {p:iz S} {rest:List S} (hi:ns.opens.Perm (p.ins ++ rest)) (hf:(ns.lanes ++ p.outs).Nodup) (ho:p.outs≠[]):
  WF { ns with lanes:=ns.lanes ++ p.outs,parts:=ns.parts ++ [p],opens:=rest ++ p.outs }:=by
 have hp:p∈ns.parts ++ [p]:=by simp
 obtain⟨o1,hoo⟩:∃o1,o1∈p.outs:=List.exists_mem_of_ne_nil _ ho
 have h1:o1∈rest ++ p.outs:=List.mem_append.mpr (.inr hoo)
 refine w.add hf List.perm_append_comm ?_ (fun o h=>?_) ⟨o1,List.mem_append.mpr (.inr hoo),o1,h1,.refl _⟩
 ·rw [<-List.append_assoc]
  exact hi.symm.append_right _
 ·rcases List.mem_append.mp (hi.mem_iff.mp h) with h | h
  ·exact⟨o1,h1,jx.part hp (List.mem_append.mpr (.inl h)) (List.mem_append.mpr (.inr hoo))⟩
  ·exact⟨o,List.mem_append.mpr (.inl h),.refl _⟩
theorem WF.take {ns:NS S} (w:WF ns) {p:iz S} {rest:List S} {y x:S} (hi:p.ins=[y]) (ho:p.outs=[]) (hr:ns.opens.Perm (y:: rest)) (hx:x∈rest) (c:jx ns.parts y x):
  WF { ns with parts:=ns.parts ++ [p],opens:=rest }:=by
 have mono:∀q∈ns.parts,q∈ns.parts ++ [p]:=fun q hq=>List.mem_append.mpr (.inl hq)
 have:=w.add (p:=p) (newl:=[]) (opens':=rest) (back':=ns.back) (by rw [List.append_nil];exact w.nod) (by rw [ho,List.append_nil];exact .refl _) (by rw [hi,List.append_nil];exact hr.symm)
  (fun o h=>by
   rcases List.mem_cons.mp (hr.mem_iff.mp h) with rfl | h
   ·exact⟨x,hx,c.mono mono⟩
   ·exact⟨o,h,.refl _⟩) ⟨y,by simp [hi],x,hx,c.mono mono⟩
 rw [List.append_nil] at this
 exact this
theorem WF.loop {ns:NS S} (w:WF ns) {p:iz S} {rest:List S} {one own fresh:S} (hi:p.ins=[one,own]) (ho:p.outs=[own,fresh]) (hr:ns.opens.Perm (one:: rest)) (hn:(ns.lanes ++ [own,fresh]).Nodup):
  WF { ns with lanes:=ns.lanes ++ [own,fresh],parts:=ns.parts ++ [p],opens:=rest ++ [fresh] }:=by
 have hp:p∈ns.parts ++ [p]:=by simp
 have hf:fresh∈rest ++ [fresh]:=by simp
 refine w.add hn (by rw [ho];exact List.perm_append_comm) ?_ (fun o h=>?_) ⟨fresh,by simp [ho],fresh,hf,.refl _⟩
 ·rw [hi]
  show(one:: own:: (rest ++ [fresh])).Perm (ns.opens ++ [own,fresh])
  refine .trans ?_ (hr.symm.append_right _)
  refine .cons _ ?_
  show(own:: (rest ++ [fresh])).Perm (rest ++ ([own] ++ [fresh]))
  rw [<-List.append_assoc]
  exact(List.perm_append_comm (l₁:=[own]) (l₂:=rest)).append_right [fresh]
 ·rcases List.mem_cons.mp (hr.mem_iff.mp h) with rfl | h
  ·exact⟨fresh,hf,jx.part hp (by simp [hi]) (by simp [ho])⟩
  ·exact⟨o,List.mem_append.mpr (.inl h),.refl _⟩
theorem WF.closeBack {ns:NS S} (w:WF ns) {p:iz S} {rest:List S} {one b fresh:S} (hi:p.ins=[one]) (ho:p.outs=[b,fresh]) (hb:ns.back.Perm (b:: rest)) (h1:ns.opens=[one]) (hn:(ns.lanes ++ [fresh]).Nodup):
  WF { lanes:=ns.lanes ++ [fresh],parts:=ns.parts ++ [p],opens:=[fresh],back:=rest }:=by
 have hp:p∈ns.parts ++ [p]:=by simp
 refine w.add hn ?_ (by rw [hi,h1]) (fun o h=>?_) ⟨fresh,by simp [ho],fresh,by simp,.refl _⟩
 ·rw [ho]
  show(b:: fresh:: rest).Perm (ns.back ++ [fresh])
  refine .trans ?_ (hb.symm.append_right _)
  exact .cons _ (List.perm_append_comm (l₁:=[fresh]) (l₂:=rest))
 ·rw [h1,List.mem_singleton] at h
  subst h
  exact⟨fresh,by simp,jx.part hp (by simp [hi]) (by simp [ho])⟩
theorem WF.last {ns:NS S} (w:WF ns) {p:iz S} {y:S} (hb:ns.back=[]) (h1:ns.opens=[y]) (hi:p.ins=[y]) (ho:p.outs=[]):
  ((ns.parts ++ [p]).flatMap (·.outs)).Perm ns.lanes/\((ns.parts ++ [p]).flatMap (·.ins)).Perm ns.lanes/\∀q∈ns.parts ++ [p],∃x∈q.ins ++ q.outs,jx (ns.parts ++ [p]) x y:=by
 have mono:∀q∈ns.parts,q∈ns.parts ++ [p]:=fun q hq=>List.mem_append.mpr (.inl hq)
 refine⟨?_,?_,?_⟩
 ·have e:(ns.parts ++ [p]).flatMap (·.outs)=ns.parts.flatMap (·.outs):=by simp [ho]
  rw [e]
  have:=w.outs
  rw [hb,List.append_nil] at this
  exact this
 ·have e:(ns.parts ++ [p]).flatMap (·.ins)=ns.parts.flatMap (·.ins) ++ [y]:=by simp [hi]
  rw [e]
  have:=w.ins
  rw [h1] at this
  exact this
 ·intro q hq
  rcases List.mem_append.mp hq with h | h
  ·obtain⟨x,hx,o,hoq,c⟩:=w.hang q h
   rw [h1,List.mem_singleton] at hoq
   subst hoq
   exact⟨x,hx,c.mono mono⟩
  ·rw [List.mem_singleton] at h
   subst h
   exact⟨y,by simp [hi],.refl _⟩
theorem Mt {ps:List (iz S)} {J:iz S->Prop} (closed:∀(l:S) (p q:iz S),p∈ps->q∈ps->l∈p.ins ++ p.outs->l∈q.ins ++ q.outs->J p->J q) {y:S} (hang:∀q∈ps,∃x∈q.ins ++ q.outs,jx ps x y)
  {p0:iz S} (hp0:p0∈ps) (h0:J p0):∀q∈ps,J q:=by
 have go:∀{x z:S},jx ps x z->(∃p∈ps,x∈p.ins ++ p.outs/\J p)->∃p∈ps,z∈p.ins ++ p.outs/\J p:=by
  intro x z c
  induction c with
  | refl _=>exact id
  | step hp hx hy _ ih=>
   rintro⟨p',hp',hx',hJ⟩
   exact ih ⟨_,hp,hy,closed _ _ _ hp' hp hx' hx hJ⟩
 obtain⟨x0,hx0,c0⟩:=hang p0 hp0
 have hy:=go c0 ⟨p0,hp0,hx0,h0⟩
 intro q hq
 obtain⟨x,hx,c⟩:=hang q hq
 obtain⟨p',hp',hx',hJ⟩:=go c.symm hy
 exact closed _ _ _ hp' hq hx' hx hJ
theorem OD {ps:List (iz S)} (f:iz S->List S) (h:(ps.flatMap f).Nodup) {i j:Nat} {p q:iz S} {l:S} (hi:ps[i]?=some p) (hj:ps[j]?=some q) (hp:l∈f p) (hq:l∈f q):i=j:=by
 induction ps generalizing i j with
 | nil=>cases hi
 | cons r rs ih=>
  rw [List.flatMap_cons,List.nodup_append] at h
  obtain⟨h1,h2,h3⟩:=h
  have far:∀{k:Nat} {s:iz S},rs[k]?=some s->l∈f s->l∈rs.flatMap f:=fun e hs=>List.mem_flatMap.mpr ⟨_,List.mem_of_getElem? e,hs⟩
  match i,j with
  | 0,0=>rfl
  | 0,j+1=>
   simp only [List.getElem?_cons_zero,Option.some.injEq] at hi
   subst hi
   exact absurd rfl (h3 l hp l (far (by simpa using hj) hq))
  | i+1,0=>
   simp only [List.getElem?_cons_zero,Option.some.injEq] at hj
   subst hj
   exact absurd rfl (h3 l hq l (far (by simpa using hi) hp))
  | i+1,j+1=>exact congrArg (· +1) (ih h2 (by simpa using hi) (by simpa using hj))
end Drawn
structure aG where
 name:Str
 room:Int
 first:List Int
noncomputable def aG.ok (l:aG):Prop:=1<=l.room/\l.room<=10/\(l.first.length:Int)<=l.room/\∀v∈l.first,0<=v/\v <1000000000
noncomputable abbrev PD:=Drawn.iz Str
noncomputable def m5 (p:PD):Prop:=p.kind <11/\p.nums.length=cN p.kind/\p.ins.length=cI p.kind/\p.outs.length=cO p.kind/\∀v∈p.nums,0<=v/\v <1000000000
noncomputable def bB (E:List Addr) (H:Hp):Hp:=fun b=>if b∈E then none else H b
theorem cj {E:List Addr} {H:Hp}:aM (bB E H) H:=fun b o e=>by
 unfold bB at e
 split at e
 ·cases e
 ·exact e
theorem Tj {E:List Addr} {H:Hp} {p:Addr} {o:HO} (h:H p=none):aM (bB E H) (bB E (upd H p o)):=fun b u e=>by
 have e':=cj b u e
 unfold bB at e ⊢
 split at e
 ·cases e
 ·rename_i n
  rw [if_neg n,aH (aF e' h)]
  exact e
theorem cJ {E:List Addr} {H:Hp} {p:Addr} {o:HO} (h:H p=some o) (n:p∉E):bB E H p=some o:=by
 unfold bB
 rw [if_neg n]
 exact h
theorem eU {E:List Addr} {H:Hp} {a:Addr} {o:HO} (h:a∈E):bB E (upd H a o)=bB E H:=by
 funext b
 unfold bB
 split
 ·rfl
 ·rename_i n
  rw [aH (fun z=>n (by rw [z];exact h))]
theorem Ke {E:List Addr} {H H':Hp} (s:aM H H') (hE:∀a∈E,∃o,H a=some o):aM (bB E H) (bB E H'):=fun b o e=>by
 have e':=cj b o e
 unfold bB at e ⊢
 split at e
 ·cases e
 ·rename_i n
  rw [if_neg n]
  exact s _ _ e'
inductive jM {α β:Type} (R:α->β->Prop):List α->List β->Prop
 | nil:jM R [] []
 | cons {a:α} {b:β} {l:List α} {m:List β}:R a b->jM R l m->jM R (a:: l) (b:: m)
theorem jM.imp {α β:Type} {R R':α->β->Prop} (h:∀a b,R a b->R' a b):∀{l:List α} {m:List β},jM R l m->jM R' l m
 | _,_,.nil=>.nil
 | _,_,.cons r t=>.cons (h _ _ r) (t.imp h)
theorem jM.length {α β:Type} {R:α->β->Prop}:∀{l:List α} {m:List β},jM R l m->l.length=m.length
 | _,_,.nil=>rfl
 | _,_,.cons _ t=>by rw [List.length_cons,List.length_cons,t.length]
theorem jM.app {α β:Type} {R:α->β->Prop}:∀{l l':List α} {m m':List β},jM R l m->jM R l' m'->jM R (l ++ l') (m ++ m')
 | _,_,_,_,.nil,h=>h
 | _,_,_,_,.cons r t,h=>.cons r (t.app h)
theorem jM.get {α β:Type} {R:α->β->Prop}:∀{l:List α} {m:List β},jM R l m->∀{i:Nat} {a:α},l[i]?=some a->∃b,m[i]?=some b/\R a b
 | _,_,.nil,_,_,h=>by simp at h
 | _,_,.cons r t,0,_,h=>by
  simp only [List.getElem?_cons_zero,Option.some.injEq] at h
  subst h
  exact⟨_,rfl,r⟩
 | _,_,.cons r t,i+1,_,h=>t.get (i:=i) (by simpa using h)
theorem jM.take {α β:Type} {R:α->β->Prop}:∀{l:List α} {m:List β},jM R l m->∀n:Nat,jM R (l.take n) (m.take n)
 | _,_,.nil,_=>by simp;exact .nil
 | _,_,.cons r t,0=>by simp;exact .nil
 | _,_,.cons r t,n+1=>by simp;exact .cons r (t.take n)
theorem jM.drop {α β:Type} {R:α->β->Prop}:∀{l:List α} {m:List β},jM R l m->∀n:Nat,jM R (l.drop n) (m.drop n)
 | _,_,.nil,_=>by simp;exact .nil
 | _,_,.cons r t,0=>.cons r t
 | _,_,.cons r t,n+1=>by simp;exact t.drop n
inductive uA (G:Hp) (v:V) (l:aG):Prop where
 | mk:∀q f,v=.ref q->G q=some (.tup [.str l.name,.int l.room,.ref f])->G f=some (.lst (l.first.map V.int))->uA G v l
inductive wV (G:Hp) (v:V) (p:PD):Prop where
 | mk:∀q a1 a2 a3,v=.ref q->G q=some (.tup [.str (cL p.kind),.str p.name,.ref a1,.ref a2,.ref a3])->G a1=some (.lst (p.nums.map V.int))->G a2=some (.lst (p.ins.map V.str))->G a3=some (.lst (p.outs.map V.str))->wV G v p
theorem uA.same {G G':Hp} {v:V} {l:aG} (h:uA G v l) (s:aM G G'):uA G' v l:=by
 obtain⟨q,f,e,h1,h2⟩:=h
 exact⟨q,f,e,s _ _ h1,s _ _ h2⟩
theorem wV.same {G G':Hp} {v:V} {p:PD} (h:wV G v p) (s:aM G G'):wV G' v p:=by
 obtain⟨q,a1,a2,a3,e,h1,h2,h3,h4⟩:=h
 exact⟨q,a1,a2,a3,e,s _ _ h1,s _ _ h2,s _ _ h3,s _ _ h4⟩
structure Dw where
 S:Addr
 L:Addr
 P:Addr
 O:Addr
 c3:Int
 c4:Int
noncomputable abbrev Dw.E (d:Dw):List Addr:=[d.L,d.P,d.O]
structure n6 (d:Dw) (H:Hp) (ls:List aG) (ps:List PD) (os:List Str):Prop where
 top:bB d.E H d.S=some (.lst [.ref d.L,.ref d.P,.ref d.O,.int d.c3,.int d.c4])
 lanes:∃xs,H d.L=some (.lst xs)/\jM (uA (bB d.E H)) xs ls
 parts:∃xs,H d.P=some (.lst xs)/\jM (wV (bB d.E H)) xs ps
 opens:H d.O=some (.lst (os.map V.str))
 ne:d.L≠d.P/\d.L≠d.O/\d.P≠d.O
 lok:∀l∈ls,l.ok
 pok:∀p∈ps,m5 p
 ln:ls.map (·.name)=(List.range ls.length).map (cW d.c3)
 pn:ps.map (·.name)=(List.range ps.length).map (cW d.c4)
theorem n6.seqS {d:Dw} {H:Hp} {ls:List aG} {ps:List PD} {os:List Str} (D:n6 d H ls ps os):bI K H d.S [.ref d.L,.ref d.P,.ref d.O,.int d.c3,.int d.c4]:=bI.of (cj _ _ D.top)
theorem n6.has {d:Dw} {H:Hp} {ls:List aG} {ps:List PD} {os:List Str} (D:n6 d H ls ps os) {a:Addr} (h:a∈d.E):∃o,H a=some o:=by
 obtain⟨_,e1,_⟩:=D.lanes
 obtain⟨_,e2,_⟩:=D.parts
 rcases List.mem_cons.mp h with rfl | h
 ·exact⟨_,e1⟩
 ·rcases List.mem_cons.mp h with rfl | h
  ·exact⟨_,e2⟩
  ·rw [List.mem_singleton] at h
   subst h
   exact⟨_,D.opens⟩
theorem n6.out {d:Dw} {H:Hp} {ls:List aG} {ps:List PD} {os:List Str} (D:n6 d H ls ps os) {p:Addr} (h:H p=none):p∉d.E:=fun z=>by
 obtain⟨o,e⟩:=D.has z
 rw [h] at e
 cases e
theorem n6.keep {d:Dw} {H H':Hp} {ls:List aG} {ps:List PD} {os:List Str} (D:n6 d H ls ps os) (s:aM H H'):n6 d H' ls ps os:=by
 obtain⟨xs,e1,a1⟩:=D.lanes
 obtain⟨ys,e2,a2⟩:=D.parts
 have c:=Ke (E:=d.E) s (fun a h=>D.has h)
 exact⟨c _ _ D.top,⟨xs,s _ _ e1,a1.imp fun _ _ h=>h.same c⟩,⟨ys,s _ _ e2,a2.imp fun _ _ h=>h.same c⟩,s _ _ D.opens,D.ne,D.lok,D.pok,D.ln,D.pn⟩
theorem n6.cut {d:Dw} {H H':Hp} {ls:List aG} {ps:List PD} {os:List Str} (D:n6 d H ls ps os) (s:aM H H'):aM (bB d.E H) (bB d.E H'):=Ke s (fun _ h=>D.has h)
theorem Gm {α:Type} {f:α->Str} {w:Nat->Str} {l:List α} {x:α} (h:l.map f=(List.range l.length).map w) (hx:f x=w l.length):(l ++ [x]).map f=(List.range (l ++ [x]).length).map w:=by
 rw [List.map_append,lP,List.length_singleton,List.range_succ,List.map_append,h,List.map_singleton,List.map_singleton,hx]
theorem n6.lane {d:Dw} {H:Hp} {ls:List aG} {ps:List PD} {os:List Str} (D:n6 d H ls ps os) {v:V} {l:aG} (h:uA (bB d.E H) v l) (hl:l.ok) (hn:l.name=cW d.c3 ls.length) {xs:List V} (e:H d.L=some (.lst xs)):
  n6 d (upd H d.L (.lst (xs ++ [v]))) (ls ++ [l]) ps os:=by
 obtain⟨xs',e1,a1⟩:=D.lanes
 obtain⟨ys,e2,a2⟩:=D.parts
 rw [e] at e1
 cases e1
 have c:bB d.E (upd H d.L (.lst (xs ++ [v])))=bB d.E H:=eU (by simp)
 refine⟨by rw [c];exact D.top,⟨_,az,by rw [c];exact a1.app (.cons h .nil)⟩,⟨ys,by rw [aH (Ne.symm D.ne.1)];exact e2,by rw [c];exact a2⟩,by rw [aH (Ne.symm D.ne.2.1)];exact D.opens,D.ne,fun x hx=>?_,D.pok,Gm D.ln hn,D.pn⟩
 rcases List.mem_append.mp hx with hx | hx
 ·exact D.lok x hx
 ·rw [List.mem_singleton] at hx
  subst hx
  exact hl
theorem n6.part {d:Dw} {H:Hp} {ls:List aG} {ps:List PD} {os:List Str} (D:n6 d H ls ps os) {v:V} {p:PD} (h:wV (bB d.E H) v p) (hl:m5 p) (hn:p.name=cW d.c4 ps.length) {xs:List V} (e:H d.P=some (.lst xs)):
  n6 d (upd H d.P (.lst (xs ++ [v]))) ls (ps ++ [p]) os:=by
 obtain⟨xs',e1,a1⟩:=D.lanes
 obtain⟨ys,e2,a2⟩:=D.parts
 rw [e] at e2
 cases e2
 have c:bB d.E (upd H d.P (.lst (xs ++ [v])))=bB d.E H:=eU (by simp)
 refine⟨by rw [c];exact D.top,⟨_,by rw [aH D.ne.1];exact e1,by rw [c];exact a1⟩,⟨_,az,by rw [c];exact a2.app (.cons h .nil)⟩,by rw [aH (Ne.symm D.ne.2.2)];exact D.opens,D.ne,D.lok,fun x hx=>?_,D.ln,Gm D.pn hn⟩
 rcases List.mem_append.mp hx with hx | hx
 ·exact D.pok x hx
 ·rw [List.mem_singleton] at hx
  subst hx
  exact hl
theorem n6.open {d:Dw} {H:Hp} {ls:List aG} {ps:List PD} {os os':List Str} (D:n6 d H ls ps os):n6 d (upd H d.O (.lst (os'.map V.str))) ls ps os':=by
 obtain⟨xs,e1,a1⟩:=D.lanes
 obtain⟨ys,e2,a2⟩:=D.parts
 have c:bB d.E (upd H d.O (.lst (os'.map V.str)))=bB d.E H:=eU (by simp)
 exact⟨by rw [c];exact D.top,⟨xs,by rw [aH D.ne.2.1];exact e1,by rw [c];exact a1⟩,⟨ys,by rw [aH D.ne.2.2];exact e2,by rw [c];exact a2⟩,az,D.ne,D.lok,D.pok,D.ln,D.pn⟩
theorem Aq (a:Int) {n:Nat} (h:n<=26):((List.range n).map (cW a)).Nodup:=by
 induction n with
 | zero=>exact List.nodup_nil
 | succ n ih=>
  rw [List.range_succ,List.map_append,List.nodup_append]
  refine⟨ih (by omega),by simp,fun x hx y hy=>?_⟩
  obtain⟨j,hj,rfl⟩:=List.mem_map.mp hx
  rw [List.map_singleton,List.mem_singleton] at hy
  subst hy
  have hj':=List.mem_range.mp hj
  intro z
  have:=J8 a (by omega) (by omega) z
  omega
noncomputable abbrev uD (ls:List aG) (ps:List PD) (os back:List Str):Drawn.NS Str:=⟨ls.map (·.name),ps,os,back⟩
theorem n6.nod {d:Dw} {H:Hp} {ls:List aG} {ps:List PD} {os:List Str} (D:n6 d H ls ps os) (h:ls.length<=26):(ls.map (·.name)).Nodup:=by
 rw [D.ln]
 exact Aq _ h
theorem Wu {ns:Drawn.NS Str} (w:Drawn.WF ns) {os:List Str} (h:ns.opens.Perm os):Drawn.WF { ns with opens:=os }:=
 ⟨w.nod,w.outs,(h.symm.append_left _).trans w.ins,fun p hp=>by
  obtain⟨x,hx,o,ho,c⟩:=w.hang p hp
  exact⟨x,hx,o,h.mem_iff.mp ho,c⟩,w.touch⟩
theorem qX {d:Dw} {H:Hp} {ls newl:List aG} {ps:List PD} {p:PD} {os ops back:List Str} (w:Drawn.WF (uD ls ps ops back)) (ho:p.outs=newl.map (·.name)) (D:n6 d H (ls ++ newl) (ps ++ [p]) (os ++ newl.map (·.name))) (hi:ops.Perm (p.ins ++ os)) (hne:newl.length≠0) (hl:(ls ++ newl).length<=26):
  Drawn.WF (uD (ls ++ newl) (ps ++ [p]) (os ++ newl.map (·.name)) back):=by
 have nd:=D.nod hl
 rw [List.map_append] at nd
 have:=w.part (p:=p) hi (by rw [ho];exact nd) (by rw [ho];intro z;exact hne (by rw [<-lM (f:=fun l:aG=>l.name),z];rfl))
 rw [ho] at this
 unfold uD
 rw [List.map_append]
 exact this
structure Zh (d:Dw) (H H':Hp) (ls:List aG) (ps:List PD) (back:List Str) (ls':List aG) (ps':List PD) (os':List Str):Prop where
 cut:aM (bB d.E H) (bB d.E H')
 at':n6 d H' ls' ps' os'
 wf:Drawn.WF (uD ls' ps' os' back)
 o1:1<=os'.length
 o4:os'.length<=4
 l2:ls'.length<=ls.length+2
 p2:ps'.length<=ps.length+2
theorem Dp {c X Y B:Prop} [Decidable c] (k:B) (hx:c->B->X) (hy:B->Y):if c then X else Y:=by
 split
 ·rename_i h;exact hx h k
 ·exact hy k
theorem hide {t u:TS} {D:Ends} {σ:St} {H:Hp} (h:∀v,v=u->yP t v D σ H):yP t u D σ H:=h u rfl
theorem Qg {i:Nat} {x:V} {t u:TS} {D:Ends} {σ:St} {H:Hp} (h:∀E,E=D->∀v,v=u->yP t v E (σ.set i (some x)) H):yJ i x σ H fun σ2 H2=>yP t u D σ2 H2:=h D rfl u rfl
theorem Vu {i:Nat} {x:V} {t:TS} {D:Ends} {σ:St} {H:Hp} (h:∀E,E=D->t E (σ.set i (some x)) H):yJ i x σ H fun σ2 H2=>t D σ2 H2:=h D rfl
theorem Yy {t u:TS} {D:Ends} {σ:St} {H:Hp} (h:∀E,E=D->∀v,v=u->yP t v E σ H):yP t u D σ H:=h D rfl u rfl
theorem dG {t u v:TS} {D:Ends} {σ:St} {H:Hp} (hv:v=yP t u) (h:∀w,w=u->yP t w D σ H):v D σ H:=by
 subst hv
 exact h u rfl
theorem n6.two {d:Dw} {H:Hp} {ls:List aG} {ps:List PD} {os:List Str} (D:n6 d H ls ps os) {a1 a2:Addr} {x y:HO} (n1:H a1=none) (n2:upd H a1 x a2=none):
  n6 d (upd (upd H a1 x) a2 y) ls ps os/\bB d.E (upd (upd H a1 x) a2 y) a1=some x/\bB d.E (upd (upd H a1 x) a2 y) a2=some y/\aM (bB d.E H) (bB d.E (upd (upd H a1 x) a2 y)):=by
 have s1:=aB (o:=x) n1
 have s2:=aB (o:=y) n2
 have s:=s1.trans s2
 exact⟨D.keep s,cJ (s2 _ _ az) (D.out n1),cJ az (D.out (s1.free n2)),D.cut s⟩
structure Fy (lanes:List Str) (ps:List PD):Prop where
 nod:lanes.Nodup
 outs:(ps.flatMap (·.outs)).Perm lanes
 ins:(ps.flatMap (·.ins)).Perm lanes
 hang:∃y,∀q∈ps,∃x∈q.ins ++ q.outs,Drawn.jx ps x y
noncomputable def Qt (H:Hp) (a:Addr):Nat:=match H a with
 | some (.lst xs)=>xs.length
 | _=>0
theorem Jq {H:Hp} {a:Addr} {xs:List V} (h:H a=some (.lst xs)):Qt H a=xs.length:=by
 unfold Qt
 rw [h]
theorem LQ (m:Int) {n:Int} {k:Nat} (h0:0 <n) (hk:n=k):∃j:Nat,m % n=(j:Int)/\j <k:=by
 have h1:=Int.emod_nonneg m (Int.ne_of_gt h0)
 have h2:=Int.emod_lt_of_pos m h0
 exact⟨(m % n).toNat,(Int.toNat_of_nonneg h1).symm,by omega⟩
theorem Xu (m:Int):∃i:Nat,Es [V.str "add",V.str "less",V.str "add"] (m % 3)=some (.str (cL i))/\(i=6∨i=7):=by
 have key:∀j,j <3->Es [V.str "add",V.str "less",V.str "add"] ((j:Nat):Int)=some (.str (cL (([6,7,6]:List Nat).getD j 0)))/\(([6,7,6]:List Nat).getD j 0=6∨([6,7,6]:List Nat).getD j 0=7):=by decide +kernel
 obtain⟨j,e,hj⟩:=LQ m (n:=3) (k:=3) (by decide) rfl
 rw [e]
 exact⟨_,key j hj⟩
structure Qy (c3 c4:Int) (ls:List aG) (ps:List PD):Prop where
 lok:∀l∈ls,l.ok
 pok:∀p∈ps,m5 p
 ln:ls.map (·.name)=(List.range ls.length).map (cW c3)
 pn:((List.range ps.length).map (cW c4)).Perm (ps.map (·.name))
 whole:Fy (ls.map (·.name)) ps
 l1:1<=ls.length
 l17:ls.length<=17
 p1:1<=ps.length
 p16:ps.length<=16
structure Cp (H:Hp) (L P:Addr) (ls:List aG) (ps:List PD):Prop where
 lanes:∃xs,H L=some (.lst xs)/\jM (uA H) xs ls
 parts:∃xs,H P=some (.lst xs)/\jM (wV H) xs ps
theorem Cp.same {H H':Hp} {L P:Addr} {ls:List aG} {ps:List PD} (h:Cp H L P ls ps) (s:aM H H'):Cp H' L P ls ps:=by
 obtain⟨⟨xs,e1,a1⟩,⟨ys,e2,a2⟩⟩:=h
 exact⟨⟨xs,s _ _ e1,a1.imp fun _ _ h=>h.same s⟩,⟨ys,s _ _ e2,a2.imp fun _ _ h=>h.same s⟩⟩
theorem Pn {ps qs:List PD} (h:ps.Perm qs) {x y:Str} (c:Drawn.jx ps x y):Drawn.jx qs x y:=c.mono fun _ hp=>h.mem_iff.mp hp
theorem Fy.perm {ns:List Str} {ps qs:List PD} (w:Fy ns ps) (h:ps.Perm qs):Fy ns qs:=by
 obtain⟨y,hy⟩:=w.hang
 exact⟨w.nod,(h.symm.flatMap_right _).trans w.outs,(h.symm.flatMap_right _).trans w.ins,y,fun q hq=>by
  obtain⟨x,hx,c⟩:=hy q (h.mem_iff.mpr hq)
  exact⟨x,hx,Pn h c⟩⟩
theorem PX {α:Type} (l:List α) (n:Nat):l.Perm (l.drop n ++ l.take n):=by
 have h:l.Perm (l.take n ++ l.drop n):=by rw [List.take_append_drop]
 exact h.trans List.perm_append_comm
theorem N7 (xs:List V) (g:Nat):xK xs (some (g:Int)) none=xs.drop g:=by
 unfold xK
 rw [HT.yd,HT.vC,<-List.length_drop,List.take_length]
 rcases Nat.le_total g xs.length with h | h
 ·rw [Nat.min_eq_left h]
 ·rw [Nat.min_eq_right h,List.drop_length,List.drop_eq_nil_of_le h]
theorem Up (xs:List V) (g:Nat):xK xs none (some (g:Int))=xs.take g:=by
 unfold xK
 rw [HT.yd,HT.vC,List.drop_zero,Nat.sub_zero]
 rcases Nat.le_total g xs.length with h | h
 ·rw [Nat.min_eq_left h]
 ·rw [Nat.min_eq_right h,List.take_length,List.take_of_length_le h]
theorem n6.init {H:Hp} {S L P O:Addr} (c3 c4:Int) (nL:H L=none) (nP:upd H L (.lst []) P=none) (nO:upd (upd H L (.lst [])) P (.lst []) O=none) (nS:upd (upd (upd H L (.lst [])) P (.lst [])) O (.lst []) S=none):
  n6 ⟨S,L,P,O,c3,c4⟩ (upd (upd (upd (upd H L (.lst [])) P (.lst [])) O (.lst [])) S (.lst [.ref L,.ref P,.ref O,.int c3,.int c4])) [] [] []/\aM H (bB [L,P,O] (upd (upd (upd (upd H L (.lst [])) P (.lst [])) O (.lst [])) S (.lst [.ref L,.ref P,.ref O,.int c3,.int c4])))/\H P=none:=by
 have s1:=aB (o:=.lst []) nL
 have s2:=aB (o:=.lst []) nP
 have s3:=aB (o:=.lst []) nO
 have s4:=aB (o:=.lst [.ref L,.ref P,.ref O,.int c3,.int c4]) nS
 have e1:=s4 _ _ (s3 _ _ (s2 L (.lst []) az))
 have e2:=s4 _ _ (s3 P (.lst []) az)
 have e3:=s4 O (.lst []) az
 have n1:L≠P:=aF (az (H:=H) (o:=.lst [])) nP
 have n2:L≠O:=aF (s2 L (.lst []) az) nO
 have n3:P≠O:=aF (az (H:=upd H L (.lst [])) (o:=.lst [])) nO
 have m1:L≠S:=aF (s3 _ _ (s2 L (.lst []) az)) nS
 have m2:P≠S:=aF (s3 P (.lst []) az) nS
 have m3:O≠S:=aF (az (H:=upd (upd H L (.lst [])) P (.lst [])) (o:=.lst [])) nS
 refine⟨⟨cJ az ?_,⟨[],e1,.nil⟩,⟨[],e2,.nil⟩,e3,⟨n1,n2,n3⟩,(fun _ h=>by cases h),(fun _ h=>by cases h),rfl,rfl⟩,fun b o e=>cJ (s4 _ _ (s3 _ _ (s2 _ _ (s1 _ _ e)))) ?_,s1.free nP⟩
 ·show S∉[L,P,O]
  simp [m1.symm,m2.symm,m3.symm]
 ·have q1:=aF e nL
  have q2:=aF (s1 _ _ e) nP
  have q3:=aF (s2 _ _ (s1 _ _ e)) nO
  simp [q1,q2,q3]
noncomputable abbrev LET:Str:= "abcdefghijklmnopqrstuvwxyz"
noncomputable abbrev Zn:Str:= "0123456789"
theorem O8:LET.cps.toList=List.range' 97 26:=by decide +kernel
theorem O2:Zn.cps.toList=List.range' 48 10:=by decide +kernel
theorem Qu (c:Nat):(!(Builtin.Str.occurrences LET ⟨#[c]⟩ 0 LET.length 1).isEmpty)=low c:=by
 rw [StrLaws.found_one,O8]
 unfold low
 rw [Bool.eq_iff_iff]
 simp [List.mem_range'_1]
 omega
theorem WR (c:Nat):(!(Builtin.Str.occurrences Zn ⟨#[c]⟩ 0 Zn.length 1).isEmpty)=Nm c:=by
 rw [StrLaws.found_one,O2]
 unfold Nm
 rw [Bool.eq_iff_iff]
 simp [List.mem_range'_1]
 omega
structure Ui (ms:List Str) (want:List (Str×V)) (fs:List (Str×V)):Prop where
 has:∀p∈want,fs.lookup p.1=some p.2
 no:∀m∈ms,fs.lookup m=none
theorem jK {H:Hp} {d:Addr} {kvs:List (Key×V)} {v:HO} (e:H d=some (.dK kvs)) {b:Addr} {u:HO} (h:H b=some u) (hu:∀ks,u≠.dK ks):upd H d v b=some u:=by
 rw [aH]
 ·exact h
 ·rintro rfl
  rw [e] at h
  exact hu _ (Option.some.inj h).symm
theorem fW {H:Hp} {d a:Addr} {kvs:List (Key×V)} {v:HO} {xs:List V} (e:H d=some (.dK kvs)) (h:eQ K H a xs):eQ K (upd H d v) a xs:=by
 rcases h with (h | ⟨o,h⟩) | h
 ·exact .inl (.inl (jK e h (by intro _ z;cases z)))
 ·exact .inl (.inr ⟨o,jK e h (by intro _ z;cases z)⟩)
 ·exact .inr h
theorem fH.chill {H:Hp} {d p:Addr} {kvs:List (Key×V)} {v:HO} {i:Nat} {nm:V} {ns is os:List V} (e:H d=some (.dK kvs)) (h:fH K t H p i nm ns is os):fH K t (upd H d v) p i nm ns is os:=by
 obtain⟨dx,tn,ti,to,h1,h2,h3,h4⟩:=h
 exact⟨dx,tn,ti,to,jK e h1 (by intro _ z;cases z),fW e h2,fW e h3,fW e h4⟩
theorem Pa {H:Hp} {d D:Addr} {kvs:List (Key×V)} {o:Obj} {u:HO} (e:H d=some (.dK kvs)) (hD:(upd H d (.frz o (.dK kvs))) D=none):upd (upd (upd H d (.frz o (.dK kvs))) D u) d (.dK kvs)=upd H D u:=by
 have n:D≠d:=by rintro rfl;rw [az] at hD;cases hD
 funext b
 by_cases h:b=d
 ·subst h
  rw [az,aH (Ne.symm n)]
  exact e.symm
 ·rw [aH h]
  unfold upd
  rw [if_neg h]
theorem K9 {H:Hp} {d D:Addr} {v:HO} (hD:(upd H d v) D=none):H D=none:=by
 by_cases h:D=d
 ·subst h;rw [az] at hD;cases hD
 ·rw [aH h] at hD;exact hD
theorem Jh {H:Hp} {a:Addr} {o:HO} (e:H a=some o):upd H a o=H:=by
 funext b
 unfold upd
 split
 ·rename_i h;rw [h];exact e.symm
 ·rfl
theorem fL {κ:Type} [DecidableEq κ] {kvs:List (κ×V)} {k:κ} (h:k∉kvs.map (·.1)):cg kvs k=none:=by
 induction kvs with
 | nil=>rfl
 | cons p r ih=>
  simp only [List.map_cons,List.mem_cons,not_or] at h
  rw [gm (Ne.symm h.1)]
  exact ih h.2
theorem gZ {κ:Type} [DecidableEq κ] {kvs:List (κ×V)} {k:κ} {v:V} (nd:(kvs.map (·.1)).Nodup) (h:(k,v)∈kvs):cg kvs k=some v:=by
 induction kvs with
 | nil=>cases h
 | cons p r ih=>
  simp only [List.map_cons,List.nodup_cons] at nd
  rcases List.mem_cons.mp h with h | h
  ·subst h
   exact gU rfl
  ·have:¬p.1=k:=fun z=>nd.1 (List.mem_map.mpr ⟨_,h,z.symm⟩)
   rw [gm this]
   exact ih nd.2 h
noncomputable def cY (f:PD->List Str) (ps:List PD):List (Key×V):=ps.flatMap fun p=>(f p).map fun l=>((Sum.inr l:Key),V.str p.name)
theorem xF (f:PD->List Str) (ps:List PD):(cY f ps).map (·.1)=(ps.flatMap f).map (fun l=>(Sum.inr l:Key)):=by
 induction ps with
 | nil=>rfl
 | cons p r ih=>
  unfold cY at ih ⊢
  simp only [List.flatMap_cons,List.map_append,ih,List.map_map]
  rfl
theorem fJ {l:List Str} (h:l.Nodup):(l.map (fun x=>(Sum.inr x:Key))).Nodup:=by
 induction l with
 | nil=>exact List.nodup_nil
 | cons a r ih=>
  simp only [List.map_cons,List.nodup_cons,List.mem_map] at h ⊢
  refine⟨?_,ih h.2⟩
  rintro⟨b,hb,e⟩
  cases e
  exact h.1 hb
theorem jg {f:PD->List Str} {ps:List PD} (nd:(ps.flatMap f).Nodup) {p:PD} (hp:p∈ps) {l:Str} (hl:l∈f p):cg (cY f ps) (Sum.inr l)=some (.str p.name):=
 gZ (by rw [xF];exact fJ nd) (List.mem_flatMap.mpr ⟨p,hp,List.mem_map.mpr ⟨l,hl,rfl⟩⟩)
theorem Ca {f:PD->List Str} {ps:List PD} {l:Str} (h:l∉ps.flatMap f):cg (cY f ps) (Sum.inr l)=none:=fL (by
 rw [xF]
 intro z
 obtain⟨b,hb,e⟩:=List.mem_map.mp z
 cases e
 exact h hb)
theorem O9 (f:PD->List Str) (ps:List PD):(cY f ps).length=(ps.flatMap f).length:=by
 have:=congrArg List.length (xF f ps)
 simpa using this
theorem CK (f:PD->List Str) (ps:List PD) (p:PD):cY f (ps ++ [p])=cY f ps ++ (f p).map fun l=>((Sum.inr l:Key),V.str p.name):=by
 unfold cY
 rw [List.flatMap_append]
 simp
theorem Mv {α:Type} {f g:α->Bool}:∀{l:List α},(∀a∈l,g a=true->f a=true)->(∃a∈l,f a=true/\g a=false)->(l.filter g).length <(l.filter f).length
 | [],_,h=>by obtain⟨a,ha,_⟩:=h;cases ha
 | x:: r,h,h2=>by
  have le:∀r:List α,(∀a∈r,g a=true->f a=true)->(r.filter g).length<=(r.filter f).length:=fun r=>by
   induction r with
   | nil=>intro _;exact Nat.le_refl _
   | cons y t ih=>
    intro q
    have:=ih fun a ha=>q a (List.mem_cons_of_mem _ ha)
    have q0:=q y List.mem_cons_self
    rw [List.filter_cons,List.filter_cons]
    cases hg:g y
    ·simp only [Bool.false_eq_true,if_false]
     split
     ·rw [List.length_cons];omega
     ·exact this
    ·rw [q0 hg]
     simp only [if_true,List.length_cons]
     omega
  obtain⟨a,ha,hf,hg⟩:=h2
  have hr:=fun a ha=>h a (List.mem_cons_of_mem x ha)
  rw [List.filter_cons,List.filter_cons]
  rcases List.mem_cons.mp ha with rfl | ha
  ·rw [hf,hg]
   have:=le r hr
   simp
   omega
  ·have ih:=Mv hr ⟨a,ha,hf,hg⟩
   have q0:=h x List.mem_cons_self
   cases hx:g x
   ·simp only [Bool.false_eq_true,if_false]
    split
    ·rw [List.length_cons];omega
    ·exact ih
   ·rw [q0 hx]
    simp only [if_true,List.length_cons]
    omega
noncomputable def gO (jk:List (Key×V)) (x:Str):Bool:=(cg jk (Sum.inr x)).isSome
noncomputable def pM (ps:List PD) (jk:List (Key×V)):Nat:=(ps.filter fun p=>!gO jk p.name).length
theorem JL (jk:List (Key×V)) (x y:Str) (v:V):gO (putK jk (Sum.inr x) v) y=(decide (y=x) || gO jk y):=by
 unfold gO
 rw [Rr]
 by_cases h:y=x
 ·subst h;simp
 ·have:¬(Sum.inr y:Key)=Sum.inr x:=fun z=>h (Sum.inr.inj z)
  rw [if_neg this]
  simp [h]
theorem Kq {ps:List PD} {jk jk':List (Key×V)} (h:∀x,gO jk x=true->gO jk' x=true) {p:PD} (hp:p∈ps) (h1:gO jk p.name=false) (h2:gO jk' p.name=true):pM ps jk' <pM ps jk:=by
 refine Mv (fun a _ q=>?_) ⟨p,hp,by simp [h1],by simp [h2]⟩
 cases hj:gO jk a.name
 ·rfl
 ·rw [h _ hj] at q;cases q
theorem Ot {ps:List PD} (pm:(ps.flatMap (·.outs)).Perm (ps.flatMap (·.ins))) {l:Str} (h:l∈ps.flatMap (·.outs)):∃a∈ps,∃b∈ps,l∈a.outs/\l∈b.ins:=by
 obtain⟨a,ha,hl⟩:=List.mem_flatMap.mp h
 obtain⟨b,hb,hl2⟩:=List.mem_flatMap.mp (pm.mem_iff.mp h)
 exact⟨a,ha,b,hb,hl,hl2⟩
theorem VG {ps:List PD} (no:(ps.flatMap (·.outs)).Nodup) (ni:(ps.flatMap (·.ins)).Nodup) (pm:(ps.flatMap (·.outs)).Perm (ps.flatMap (·.ins))) {jk:List (Key×V)} (hang:∃y,∀q∈ps,∃x∈q.ins ++ q.outs,Drawn.jx ps x y)
  (cl:∀a∈ps,∀b∈ps,∀l,l∈a.outs->l∈b.ins->gO jk a.name=gO jk b.name) {p0:PD} (hp0:p0∈ps) (h0:gO jk p0.name=true):∀q∈ps,gO jk q.name=true:=by
 obtain⟨y,hy⟩:=hang
 refine Drawn.Mt (J:=fun p=>gO jk p.name=true) (fun l p q hp hq hlp hlq hJ=>?_) hy hp0 h0
 have same:∀{f:PD->List Str},(ps.flatMap f).Nodup->∀{a b:PD},a∈ps->b∈ps->l∈f a->l∈f b->a.name=b.name:=fun {f} nd {a b} ha hb h1 h2=>by
  obtain⟨i,hi,ei⟩:=List.mem_iff_getElem.mp ha
  obtain⟨j,hj,ej⟩:=List.mem_iff_getElem.mp hb
  have:=Drawn.OD f nd (i:=i) (j:=j) (p:=a) (q:=b) (l:=l) (by rw [List.getElem?_eq_getElem hi,ei]) (by rw [List.getElem?_eq_getElem hj,ej]) h1 h2
  subst this
  rw [<-ei,<-ej]
 have hl:l∈ps.flatMap (·.outs):=by
  rcases List.mem_append.mp hlp with h | h
  ·exact pm.mem_iff.mpr (List.mem_flatMap.mpr ⟨p,hp,h⟩)
  ·exact List.mem_flatMap.mpr ⟨p,hp,h⟩
 obtain⟨a,ha,b,hb,la,lb⟩:=Ot pm hl
 have e:=cl a ha b hb l la lb
 have np:p.name=a.name∨p.name=b.name:=(List.mem_append.mp hlp).elim (fun h=>.inr (same ni hp hb h lb)) fun h=>.inl (same no hp ha h la)
 have nq:q.name=a.name∨q.name=b.name:=(List.mem_append.mp hlq).elim (fun h=>.inr (same ni hq hb h lb)) fun h=>.inl (same no hq ha h la)
 show gO jk q.name=true
 change gO jk p.name=true at hJ
 rcases np with np | np <;> rcases nq with nq | nq <;> rw [np] at hJ <;> rw [nq]
 ·exact hJ
 ·rw [<-e];exact hJ
 ·rw [e];exact hJ
 ·exact hJ
theorem GJ {z:Str} (h:nameB z=true):z.length<=100:=by
 unfold nameB at h
 rw [<-oM]
 split at h
 ·simp_all
 ·rename_i e
  rw [e]
  simp only [Bool.and_eq_true,decide_eq_true_eq] at h
  rw [List.length_cons]
  omega
structure vh (ls:List aG) (ps:List PD):Prop where
 lok:∀l∈ls,1<=l.room/\l.room<=199/\(l.first.length:Int)<=l.room/\∀v∈l.first,0<=v/\v <1000000000
 pok:∀p∈ps,m5 p
 lnm:∀l∈ls,nameB l.name=true
 pnm:∀p∈ps,nameB p.name=true
 pnd:(ps.map (·.name)).Nodup
 whole:Fy (ls.map (·.name)) ps
 l1:1<=ls.length
 l24:ls.length<=24
 p1:1<=ps.length
 p16:ps.length<=16
theorem Ih {c:Int} {n:Nat} (hn:n<=26) {x:Str} (h:x∈(List.range n).map (cW c)):∃k,k <n/\x=cW c k:=by
 obtain⟨k,hk,rfl⟩:=List.mem_map.mp h
 exact⟨k,List.mem_range.mp hk,rfl⟩
theorem Qy.fit {c3 c4:Int} {ls:List aG} {ps:List PD} (h:Qy c3 c4 ls ps):vh ls ps:=by
 have a:=h.l17
 have b:=h.p16
 refine⟨fun l hl=>?_,h.pok,fun l hl=>?_,fun p hp=>?_,?_,h.whole,h.l1,by omega,h.p1,h.p16⟩
 ·obtain⟨x1,x2,x3,x4⟩:=h.lok l hl
  exact⟨x1,by omega,x3,x4⟩
 ·obtain⟨k,hk,e⟩:=Ih (c:=c3) (n:=ls.length) (by omega) (by rw [<-h.ln];exact List.mem_map.mpr ⟨l,hl,rfl⟩)
  rw [e]
  exact Ng _ (by omega)
 ·obtain⟨k,hk,e⟩:=Ih (c:=c4) (n:=ps.length) (by omega) (h.pn.mem_iff.mpr (List.mem_map.mpr ⟨p,hp,rfl⟩))
  rw [e]
  exact Ng _ (by omega)
 ·exact h.pn.nodup_iff.mp (Aq _ (by omega))
theorem Qy.lane20 {c3 c4:Int} {ls:List aG} {ps:List PD} (h:Qy c3 c4 ls ps):cW c3 20∉ls.map (·.name):=fun z=>by
 have a:=h.l17
 rw [h.ln] at z
 obtain⟨k,hk,e⟩:=Ih (by omega) z
 have:=J8 _ (by omega) (by omega) e
 omega
noncomputable def fc (ls:List aG):List (Key×V):=ls.map fun l=>((Sum.inr l.name:Key),V.int l.room)
noncomputable def bz (FL:List (aG×Addr)):List (Key×V):=FL.map fun q=>((Sum.inr q.1.name:Key),V.ref q.2)
noncomputable def eO (PL:List (PD×Addr)):List (Key×V):=PL.map fun q=>((Sum.inr q.1.name:Key),V.ref q.2)
theorem ux (ls:List aG):(fc ls).map (·.1)=(ls.map (·.name)).map (fun x=>(Sum.inr x:Key)):=by unfold fc;rw [List.map_map,List.map_map];rfl
theorem nH (FL:List (aG×Addr)):(bz FL).map (·.1)=((FL.map (·.1)).map (·.name)).map (fun x=>(Sum.inr x:Key)):=by unfold bz;rw [List.map_map,List.map_map,List.map_map];rfl
theorem Bh (PL:List (PD×Addr)):(eO PL).map (·.1)=((PL.map (·.1)).map (·.name)).map (fun x=>(Sum.inr x:Key)):=by unfold eO;rw [List.map_map,List.map_map,List.map_map];rfl
structure vQ (K:PySem.W.Frag) (t:jN) (H:Hp) (n:Addr) (ls:List aG) (ps:List PD) (dx:Addr) (fs:List (Str×V)) (R F Pd G Tk:Addr) (FL:List (aG×Addr)) (PL:List (PD×Addr)):Prop where
 obj:H n=some (.ins t.dR dx fs)
 fl:Ui ["lane_names", "part_names", "names_of_kind", "gives", "takes", "need_lane_name", "room_of", "first_of", "part_of", "__init__"] [("rooms",.ref R),("firsts",.ref F),("parts",.ref Pd),("givers",.ref G),("takers",.ref Tk)] fs
 rooms:H R=some (.dK (fc ls))
 firsts:H F=some (.dK (bz FL))
 parts:H Pd=some (.dK (eO PL))
 givers:H G=some (.dK (cY (·.outs) ps))
 takers:H Tk=some (.dK (cY (·.ins) ps))
 fls:FL.map (·.1)=ls
 pls:PL.map (·.1)=ps
 tups:∀q∈FL,eQ K H q.2 (q.1.first.map V.int)
 pats:∀q∈PL,fH K t H q.2 q.1.kind (.str q.1.name) (q.1.nums.map V.int) (q.1.ins.map V.str) (q.1.outs.map V.str)
 fit:vh ls ps
 neRF:R≠F
inductive iK (K:PySem.W.Frag) (t:jN) (H:Hp) (n:Addr) (ls:List aG) (ps:List PD):Prop where
 | mk:∀dx fs R F Pd G Tk FL PL,vQ K t H n ls ps dx fs R F Pd G Tk FL PL->iK K t H n ls ps
section
variable {H H':Hp} {n dx R F Pd G Tk:Addr} {ls:List aG} {ps:List PD} {fs:List (Str×V)} {FL:List (aG×Addr)} {PL:List (PD×Addr)}
theorem vQ.same (N:vQ K t H n ls ps dx fs R F Pd G Tk FL PL) (s:aM H H'):vQ K t H' n ls ps dx fs R F Pd G Tk FL PL:=
 ⟨s _ _ N.obj,N.fl,s _ _ N.rooms,s _ _ N.firsts,s _ _ N.parts,s _ _ N.givers,s _ _ N.takers,N.fls,N.pls,fun q hq=>s.seqT (N.tups q hq),fun q hq=>(N.pats q hq).same s,N.fit,N.neRF⟩
theorem iK.same (N:iK K t H n ls ps) (s:aM H H'):iK K t H' n ls ps:=by
 obtain⟨dx,fs,R,F,Pd,G,Tk,FL,PL,N⟩:=N
 exact⟨dx,fs,R,F,Pd,G,Tk,FL,PL,N.same s⟩
theorem vQ.s (N:vQ K t H n ls ps dx fs R F Pd G Tk FL PL):iK K t H n ls ps:=⟨dx,fs,R,F,Pd,G,Tk,FL,PL,N⟩
theorem vQ.room (N:vQ K t H n ls ps dx fs R F Pd G Tk FL PL) {l:aG} (hl:l∈ls):cg (fc ls) (Sum.inr l.name)=some (.int l.room):=
 gZ (by rw [ux];exact fJ N.fit.whole.nod) (List.mem_map.mpr ⟨l,hl,rfl⟩)
theorem vQ.firstV (N:vQ K t H n ls ps dx fs R F Pd G Tk FL PL) {q:aG×Addr} (hq:q∈FL):cg (bz FL) (Sum.inr q.1.name)=some (.ref q.2):=
 gZ (by rw [nH,N.fls];exact fJ N.fit.whole.nod) (List.mem_map.mpr ⟨q,hq,rfl⟩)
theorem vQ.partV (N:vQ K t H n ls ps dx fs R F Pd G Tk FL PL) {q:PD×Addr} (hq:q∈PL):cg (eO PL) (Sum.inr q.1.name)=some (.ref q.2):=
 gZ (by rw [Bh,N.pls];exact fJ N.fit.pnd) (List.mem_map.mpr ⟨q,hq,rfl⟩)
theorem vQ.ono (N:vQ K t H n ls ps dx fs R F Pd G Tk FL PL):(ps.flatMap (·.outs)).Nodup:=N.fit.whole.outs.nodup_iff.mpr N.fit.whole.nod
theorem vQ.ini (N:vQ K t H n ls ps dx fs R F Pd G Tk FL PL):(ps.flatMap (·.ins)).Nodup:=N.fit.whole.ins.nodup_iff.mpr N.fit.whole.nod
end
theorem Kf {α:Type} {f:α->Str} {xs:List α} {x:Str}:inV (.str x) (xs.map fun p=>V.str (f p))=decide (x∈xs.map f):=by
 rw [Bool.eq_iff_iff]
 unfold inV
 rw [List.any_eq_true,decide_eq_true_eq]
 constructor
 ·rintro⟨v,hv,e⟩
  obtain⟨p,hp,rfl⟩:=List.mem_map.mp hv
  exact List.mem_map.mpr ⟨p,hp,by simpa [Gs] using e⟩
 ·intro h
  obtain⟨p,hp,rfl⟩:=List.mem_map.mp h
  exact⟨.str (f p),List.mem_map.mpr ⟨p,hp,rfl⟩,by simp [Gs]⟩
noncomputable def dF (ps:List PD) (x:Str):List V:=(ps.filter fun p=>decide (cL p.kind=x)).map fun p=>V.str p.name
theorem Gp (ps:List PD) (x:Str) (p:PD):dF (ps ++ [p]) x=if cL p.kind=x then dF ps x ++ [V.str p.name] else dF ps x:=by
 unfold dF
 rw [List.filter_append,List.map_append]
 by_cases h:cL p.kind=x
 ·rw [if_pos h];simp [h]
 ·rw [if_neg h];simp [h]
theorem rD (ps:List PD) (x:Str):(dF ps x).length<=ps.length:=by
 unfold dF
 rw [lM]
 exact List.length_filter_le _ _
noncomputable def ZM (p:PD):Bool:=decide (cL p.kind= "choose") || decide (cL p.kind= "split")
noncomputable def oddN (ps:List PD):V:=match ps.find? ZM with
 | some p=>.str p.name
 | none=>.non
inductive Ku (K:PySem.W.Frag) (H:Hp) (v:V) (l:aG):Prop where
 | mk:∀q f,v=.ref q->H q=some (.tup [.str l.name,.int l.room,.ref f])->eQ K H f (l.first.map V.int)->Ku K H v l
inductive QM (K:PySem.W.Frag) (H:Hp) (v:V) (p:PD):Prop where
 | mk:∀q a1 a2 a3,v=.ref q->H q=some (.tup [.str (cL p.kind),.str p.name,.ref a1,.ref a2,.ref a3])->eQ K H a1 (p.nums.map V.int)->eQ K H a2 (p.ins.map V.str)->eQ K H a3 (p.outs.map V.str)->QM K H v p
theorem Ku.same {H H':Hp} {v:V} {l:aG} (h:Ku K H v l) (s:aM H H'):Ku K H' v l:=by
 obtain⟨q,f,e,h1,h2⟩:=h
 exact⟨q,f,e,s _ _ h1,s.seqT h2⟩
theorem QM.same {H H':Hp} {v:V} {p:PD} (h:QM K H v p) (s:aM H H'):QM K H' v p:=by
 obtain⟨q,a1,a2,a3,e,h1,h2,h3,h4⟩:=h
 exact⟨q,a1,a2,a3,e,s _ _ h1,s.seqT h2,s.seqT h3,s.seqT h4⟩
structure Ma (K:PySem.W.Frag) (H:Hp) (T a b:Addr) (ls:List aG) (ps:List PD):Prop where
 tup:H T=some (.tup [.ref a,.ref b])
 lanes:∃xs,H a=some (.lst xs)/\jM (Ku K H) xs ls
 parts:∃xs,H b=some (.lst xs)/\jM (QM K H) xs ps
theorem Ma.same {H H':Hp} {T a b:Addr} {ls:List aG} {ps:List PD} (h:Ma K H T a b ls ps) (s:aM H H'):Ma K H' T a b ls ps:=by
 obtain⟨h1,⟨xs,e1,a1⟩,⟨ys,e2,a2⟩⟩:=h
 exact⟨s _ _ h1,⟨xs,s _ _ e1,a1.imp fun _ _ h=>h.same s⟩,⟨ys,s _ _ e2,a2.imp fun _ _ h=>h.same s⟩⟩
structure Tr (H:Hp) (f:Addr) (L:List (Addr×HO)) (Hk:Hp):Prop where
 but:lQ f H Hk
 all:∀p∈L,Hk p.1=some p.2
 fre:∀p∈L,p.1=f∨H p.1=none
 nod:(L.map Prod.fst).Nodup
 obj:∃o,(f,o)∈L
theorem Tr.free {H Hk:Hp} {f x:Addr} {L:List (Addr×HO)} (T:Tr H f L Hk) (nx:Hk x=none):H x=none:=by
 cases e:H x with
 | none=>rfl
 | some o=>
  by_cases h:x=f
  ·obtain⟨u,hu⟩:=T.obj
   have:=T.all _ hu
   rw [h] at nx
   rw [nx] at this
   cases this
  ·rw [T.but x o h e] at nx
   cases nx
theorem Tr.new {H Hk:Hp} {f x:Addr} {L:List (Addr×HO)} {o:HO} (T:Tr H f L Hk) (nx:Hk x=none):Tr H f (L ++ [(x,o)]) (upd Hk x o):=by
 have hne:∀p∈L,p.1≠x:=fun p hp z=>by have:=T.all p hp;rw [z,nx] at this;cases this
 have hx:=T.free nx
 refine⟨fun b u n e=>by rw [aH (aF e hx)];exact T.but b u n e,fun p hp=>?_,fun p hp=>?_,?_,?_⟩
 ·rcases List.mem_append.mp hp with h | h
  ·rw [aH (hne p h)];exact T.all p h
  ·rw [List.mem_singleton] at h;subst h;exact az
 ·rcases List.mem_append.mp hp with h | h
  ·exact T.fre p h
  ·rw [List.mem_singleton] at h;subst h;exact .inr hx
 ·rw [List.map_append,List.nodup_append]
  refine⟨T.nod,by simp,fun a ha b hb=>?_⟩
  obtain⟨p,hp,rfl⟩:=List.mem_map.mp ha
  simp at hb
  subst hb
  exact hne p hp
 ·obtain⟨u,hu⟩:=T.obj
  exact⟨u,List.mem_append.mpr (.inl hu)⟩
theorem Tr.same {H Hk Hk':Hp} {f:Addr} {L:List (Addr×HO)} (T:Tr H f L Hk) (s:aM Hk Hk'):Tr H f L Hk':=
 ⟨fun b u n e=>s _ _ (T.but b u n e),fun p hp=>s _ _ (T.all p hp),T.fre,T.nod,T.obj⟩
theorem Tr.put {H Hk:Hp} {f x:Addr} {o o':HO} {L1 L2:List (Addr×HO)} (T:Tr H f (L1 ++ (x,o):: L2) Hk):Tr H f (L1 ++ (x,o'):: L2) (upd Hk x o'):=by
 have hx:x=f∨H x=none:=T.fre (x,o) (by simp)
 have nd:=T.nod
 rw [List.map_append,List.map_cons,List.nodup_append] at nd
 obtain⟨n1,n2,n3⟩:=nd
 rw [List.nodup_cons] at n2
 refine⟨fun b u n e=>?_,fun p hp=>?_,fun p hp=>?_,?_,?_⟩
 ·have:b≠x:=by
   rcases hx with rfl | hx
   ·exact n
   ·exact aF e hx
  rw [aH this];exact T.but b u n e
 ·rcases List.mem_append.mp hp with h | h
  ·have:p.1≠x:=n3 p.1 (List.mem_map.mpr ⟨p,h,rfl⟩) x (by simp)
   rw [aH this];exact T.all p (by simp [h])
  ·rcases List.mem_cons.mp h with rfl | h
   ·exact az
   ·have:p.1≠x:=fun z=>n2.1 (by rw [<-z];exact List.mem_map.mpr ⟨p,h,rfl⟩)
    rw [aH this];exact T.all p (by simp [h])
 ·rcases List.mem_append.mp hp with h | h
  ·exact T.fre p (by simp [h])
  ·rcases List.mem_cons.mp h with rfl | h
   ·exact hx
   ·exact T.fre p (by simp [h])
 ·have:=T.nod
  rw [List.map_append,List.map_cons] at this ⊢
  exact this
 ·obtain⟨u,hu⟩:=T.obj
  rcases List.mem_append.mp hu with h | h
  ·exact⟨u,by simp [h]⟩
  ·rcases List.mem_cons.mp h with h | h
   ·cases h;exact⟨o',by simp⟩
   ·exact⟨u,by simp [h]⟩
theorem Tr.start {H:Hp} {f:Addr} {o:HO} (e:H f=some o):Tr H f [(f,o)] H:=⟨lQ.refl _,fun p hp=>by rw [List.mem_singleton] at hp;subst hp;exact e,fun p hp=>by rw [List.mem_singleton] at hp;subst hp;exact .inl rfl,by simp,o,by simp⟩
inductive Vj (K:PySem.W.Frag) (H:Hp) (v:V) (l:aG):Prop where
 | mk:∀q f,v=.ref q->H q=some (.tup [.str l.name,.int l.room,.ref f])->yI K H f (l.first.map V.int)->Vj K H v l
inductive X3 (K:PySem.W.Frag) (H:Hp) (v:V) (p:PD):Prop where
 | mk:∀q a1 a2 a3,v=.ref q->H q=some (.tup [.str (cL p.kind),.str p.name,.ref a1,.ref a2,.ref a3])->yI K H a1 (p.nums.map V.int)->yI K H a2 (p.ins.map V.str)->yI K H a3 (p.outs.map V.str)->X3 K H v p
structure Hand (K:PySem.W.Frag) (H:Hp) (Ll Lp:Addr) (ls:List aG) (ps:List PD):Prop where
 ll:∃xs,bI K H Ll xs/\jM (Vj K H) xs ls
 lp:∃xs,bI K H Lp xs/\jM (X3 K H) xs ps
theorem mq {α:Type} {f:α->Str} {xs:List α} (nd:(xs.map f).Nodup) {j:Nat} {x:α} (h:xs[j]?=some x):f x∉(xs.take j).map f:=fun hm=>by
 have hj:=(List.getElem?_eq_some_iff.mp h).1
 have e:xs[j]=x:=(List.getElem?_eq_some_iff.mp h).2
 rw [List.map_take] at hm
 obtain⟨i,hi,ei⟩:=List.mem_iff_getElem.mp hm
 rw [List.length_take,lM] at hi
 rw [List.getElem_take] at ei
 have e2:(xs.map f)[j]'(by rw [lM];exact hj)=f x:=by rw [List.getElem_map,e]
 have:=(List.getElem_inj nd).mp (ei.trans e2.symm)
 omega
theorem Nq {f:PD->List Str} {ps:List PD} (nd:(ps.flatMap f).Nodup) {j:Nat} {p:PD} (h:ps[j]?=some p):(f p).Nodup/\∀z∈f p,z∉(ps.take j).flatMap f:=by
 have hj:=(List.getElem?_eq_some_iff.mp h).1
 have e:ps[j]=p:=(List.getElem?_eq_some_iff.mp h).2
 have e2:ps=ps.take j ++ p:: ps.drop (j+1):=by rw [<-e,<-List.drop_eq_getElem_cons hj,List.take_append_drop]
 rw [e2,List.flatMap_append,List.flatMap_cons,List.nodup_append] at nd
 obtain⟨n1,n2,n3⟩:=nd
 rw [List.nodup_append] at n2
 exact⟨n2.1,fun z hz hm=>n3 z hm z (List.mem_append.mpr (.inl hz)) rfl⟩
theorem Jx (xs:List V) (g:Nat):xK xs (some (g:Int)) none=xs.drop g:=by
 unfold xK
 rw [HT.yd,HT.vC,<-List.length_drop,List.take_length]
 rcases Nat.le_total g xs.length with h | h
 ·rw [Nat.min_eq_left h]
 ·rw [Nat.min_eq_right h,List.drop_eq_nil_of_le h,List.drop_eq_nil_of_le (Nat.le_refl _)]
structure pA (K:PySem.W.Frag) (t:jN) (H:Hp) (f n E G Kp D Rw:Addr):Prop where
 ex:∃dx fs,H f=some (.ins t.cB dx fs)/\Ui ["holds", "held_now", "gone_by", "row_left", "head", "heads", "lacking", "row_ended", "deed", "do"] [("net",.ref n),("ever",.ref E),("gone",.ref G),("kept",.ref Kp),("done",.ref D),("rows",.ref Rw)] fs
theorem pA.same {H H':Hp} {f n E G Kp D Rw:Addr} (h:pA K t H f n E G Kp D Rw) (s:aM H H'):pA K t H' f n E G Kp D Rw:=by
 obtain⟨dx,fs,h1,h2⟩:=h
 exact⟨dx,fs,s _ _ h1,h2⟩
noncomputable def fM (i:Nat) (xs:List Str) (hs:List V):V:=match (places i hs).find? (j6 hs) with
 | some q=>((xs[q]?).map V.str).getD .non
 | none=>.non
theorem uv {H:Hp}:∀{rs:List Addr} {vss:List (List V)} {j:Nat} {r:Addr},gB H rs vss->rs[j]?=some r->∃vs,vss[j]?=some vs/\H r=some (.tup vs)
 | _,_,_,_,.nil,e=>by simp at e
 | _,_,0,_,.cons h _,e=>by simp at e;subst e;exact⟨_,rfl,h⟩
 | _,_,j+1,_,.cons _ t,e=>by
  obtain⟨vs,h1,h2⟩:=uv (j:=j) t (by simpa using e)
  exact⟨vs,by simpa using h1,h2⟩
theorem places_len {i:Nat} {hs:List V} (h:rP i hs):(places i hs).length<=3:=by
 have h3:=vV i
 have h1:=h.1
 unfold places
 by_cases hi:i=9
 ·rw [if_pos hi]
  split <;> simp
 ·rw [if_neg hi,List.length_range]
  omega
theorem Tr.got {H Hk Hk':Hp} {f x:Addr} {L:List (Addr×HO)} {o:HO} (T:Tr H f L Hk) (s:aM Hk Hk') (nx:Hk x=none) (ex:Hk' x=some o):Tr H f (L ++ [(x,o)]) Hk':=by
 have T':=T.same s
 have hx:=T.free nx
 refine⟨T'.but,fun p hp=>?_,fun p hp=>?_,?_,?_⟩
 ·rcases List.mem_append.mp hp with h | h
  ·exact T'.all p h
  ·rw [List.mem_singleton] at h;subst h;exact ex
 ·rcases List.mem_append.mp hp with h | h
  ·exact T.fre p h
  ·rw [List.mem_singleton] at h;subst h;exact .inr hx
 ·rw [List.map_append,List.nodup_append]
  refine⟨T.nod,by simp,fun a ha b hb z=>?_⟩
  obtain⟨p,hp,rfl⟩:=List.mem_map.mp ha
  simp at hb
  have:=T.all p hp
  rw [z,hb,nx] at this
  cases this
 ·obtain⟨u,hu⟩:=T.obj
  exact⟨u,List.mem_append.mpr (.inl hu)⟩
theorem GC {α:Type} {a b c d e f g x:α} {M:List α} (h:x∈M):x∈a:: b:: c:: d:: e:: f:: g:: M:=by simp [h]
theorem Tr.perm {H Hk:Hp} {f:Addr} {L L':List (Addr×HO)} (T:Tr H f L Hk) (h:L.Perm L'):Tr H f L' Hk:=
 ⟨T.but,fun p hp=>T.all p (h.mem_iff.mpr hp),fun p hp=>T.fre p (h.mem_iff.mpr hp),(h.map _).nodup_iff.mp T.nod,by obtain⟨o,ho⟩:=T.obj;exact⟨o,h.mem_iff.mp ho⟩⟩
theorem Tr.sub {H Hk:Hp} {f:Addr} {L L':List (Addr×HO)} (T:Tr H f L Hk) (h:L'.Sublist L) (hf:∃o,(f,o)∈L'):Tr H f L' Hk:=
 ⟨T.but,fun p hp=>T.all p (h.subset hp),fun p hp=>T.fre p (h.subset hp),T.nod.sublist (h.map _),hf⟩
noncomputable def fX (EL:List (aG×Addr)):List (Addr×HO):=EL.map fun q=>(q.2,HO.lst (q.1.first.map V.int))
noncomputable def dC (g:Str->Nat) (ls:List aG):List (Key×V):=ls.map fun l=>((Sum.inr l.name:Key),V.int (g l.name:Nat))
noncomputable def bG (k:Str->Int) (ps:List PD):List (Key×V):=ps.map fun p=>((Sum.inr p.name:Key),V.int (k p.name))
theorem Ds (g:Str->Nat) (ls:List aG):(dC g ls).map (·.1)=(ls.map (·.name)).map (fun x=>(Sum.inr x:Key)):=by unfold dC;rw [List.map_map,List.map_map];rfl
theorem xg (k:Str->Int) (ps:List PD):(bG k ps).map (·.1)=(ps.map (·.name)).map (fun x=>(Sum.inr x:Key)):=by unfold bG;rw [List.map_map,List.map_map];rfl
noncomputable def fC (ps:List PD) (x:Str):Int:=((ps.find? fun p=>decide (p.name=x)).map fun p=>if p.kind=5 then p.nums.headD 0 else 0).getD 0
noncomputable def Hw (p:PD):Int:=if p.kind=5 then p.nums.headD 0 else 0
theorem find_name {α:Type} {f:α->Str}:∀{ls:List α} (_:(ls.map f).Nodup) {l:α} (_:l∈ls),ls.find? (fun x=>decide (f x=f l))=some l
 | a:: r,nd,l,hl=>by
  rw [List.map_cons,List.nodup_cons] at nd
  rcases List.mem_cons.mp hl with rfl | h
  ·rw [List.find?_cons_of_pos (by simp)]
  ·have:¬f a=f l:=fun z=>nd.1 (by rw [z];exact List.mem_map.mpr ⟨l,h,rfl⟩)
   rw [List.find?_cons_of_neg (by simp [this])]
   exact find_name nd.2 h
theorem vh.inL {ls:List aG} {ps:List PD} (F:vh ls ps) {p:PD} (hp:p∈ps) {x:Str} (hx:x∈p.ins ++ p.outs):∃l∈ls,l.name=x:=by
 rcases List.mem_append.mp hx with h | h
 ·exact List.mem_map.mp (F.whole.ins.mem_iff.mp (List.mem_flatMap.mpr ⟨p,hp,h⟩))
 ·exact List.mem_map.mp (F.whole.outs.mem_iff.mp (List.mem_flatMap.mpr ⟨p,hp,h⟩))
theorem jn {α β:Type} {f:α->β}:∀{l:List α},(l.map f).Nodup->∀{a b:α},a∈l->b∈l->f a=f b->a=b
 | x:: r,nd,a,b,ha,hb,e=>by
  rw [List.map_cons,List.nodup_cons] at nd
  rcases List.mem_cons.mp ha with h1 | h1
  ·rcases List.mem_cons.mp hb with h2 | h2
   ·rw [h1,h2]
   ·exact absurd (List.mem_map.mpr ⟨b,h2,by rw [<-e,h1]⟩) nd.1
  ·rcases List.mem_cons.mp hb with h2 | h2
   ·exact absurd (List.mem_map.mpr ⟨a,h1,by rw [e,h2]⟩) nd.1
   ·exact jn nd.2 h1 h2 e
noncomputable def Ww:V->Int
 | .int n=>n
 | _=>0
structure FS where
 ev:Str->List Int
 g:Str->Nat
 k:Str->Int
 d:Str->Nat
 r:Str->List Int
structure pN where
 (f n E G Kp D Rw:Addr)
 (ea ra:Str->Addr)
noncomputable def qJ (ps:List PD):List PD:=ps.filter fun p=>decide (p.kind=0)
noncomputable def Kw (ea:Str->Addr) (ls:List aG):List (Key×V):=ls.map fun l=>((Sum.inr l.name:Key),V.ref (ea l.name))
noncomputable def Ml (ra:Str->Addr) (ps:List PD):List (Key×V):=(qJ ps).map fun p=>((Sum.inr p.name:Key),V.ref (ra p.name))
noncomputable def pN.cells (A:pN) (ls:List aG) (ps:List PD):List Addr:=A.E:: A.G:: A.Kp:: A.D:: A.Rw:: (ls.map (fun l=>A.ea l.name) ++ (qJ ps).map (fun p=>A.ra p.name))
structure eN (K:PySem.W.Frag) (t:jN) (H:Hp) (A:pN) (ls:List aG) (ps:List PD) (S:FS):Prop where
 at':pA K t H A.f A.n A.E A.G A.Kp A.D A.Rw
 ever:H A.E=some (.dK (Kw A.ea ls))
 lists:∀l∈ls,H (A.ea l.name)=some (.lst ((S.ev l.name).map V.int))
 gone:H A.G=some (.dK (dC S.g ls))
 kept:H A.Kp=some (.dK (bG S.k ps))
 done:H A.D=some (.dK (bG (fun x=>(S.d x:Int)) ps))
 rows:H A.Rw=some (.dK (Ml A.ra ps))
 rlst:∀p∈ps,p.kind=0->H (A.ra p.name)=some (.lst ((S.r p.name).map V.int))
 nod:(A.cells ls ps).Nodup
theorem eN.same {H H':Hp} {A:pN} {ls:List aG} {ps:List PD} {S:FS} (h:eN K t H A ls ps S) (s:aM H H'):eN K t H' A ls ps S:=
 ⟨h.at'.same s,s _ _ h.ever,fun l hl=>s _ _ (h.lists l hl),s _ _ h.gone,s _ _ h.kept,s _ _ h.done,s _ _ h.rows,fun p hp h0=>s _ _ (h.rlst p hp h0),h.nod⟩
structure KN (b:Nat) (ls:List aG) (ps:List PD) (S:FS):Prop where
 vb:∀l∈ls,∀v∈S.ev l.name,0<=v/\v <1000000000
 rb:∀p∈ps,p.kind=0->∀v∈S.r p.name,0<=v/\v <1000000000
 dl:∀p∈ps,p.kind=0->S.d p.name<=(S.r p.name).length
 len:∀l∈ls,(S.ev l.name).length<=b
 rl:∀p∈ps,p.kind=0->(S.r p.name).length<=300
theorem QL (ea:Str->Addr) (ls:List aG):(Kw ea ls).map (·.1)=(ls.map (·.name)).map (fun x=>(Sum.inr x:Key)):=by unfold Kw;rw [List.map_map,List.map_map];rfl
theorem jA {ea:Str->Addr} {ls:List aG} (nd:(ls.map (·.name)).Nodup) {l:aG} (hl:l∈ls):cg (Kw ea ls) (Sum.inr l.name)=some (.ref (ea l.name)):=
 gZ (by rw [QL];exact fJ nd) (List.mem_map.mpr ⟨l,hl,rfl⟩)
theorem oN {g:Str->Nat} {ls:List aG} (nd:(ls.map (·.name)).Nodup) {l:aG} (hl:l∈ls):cg (dC g ls) (Sum.inr l.name)=some (.int (g l.name:Nat)):=
 gZ (by rw [Ds];exact fJ nd) (List.mem_map.mpr ⟨l,hl,rfl⟩)
theorem lg {k:Str->Int} {ps:List PD} (nd:(ps.map (·.name)).Nodup) {p:PD} (hp:p∈ps):cg (bG k ps) (Sum.inr p.name)=some (.int (k p.name)):=
 gZ (by rw [xg];exact fJ nd) (List.mem_map.mpr ⟨p,hp,rfl⟩)
theorem FZ (ra:Str->Addr) (ps:List PD):(Ml ra ps).map (·.1)=((qJ ps).map (·.name)).map (fun x=>(Sum.inr x:Key)):=by unfold Ml;rw [List.map_map,List.map_map];rfl
theorem TX {ps:List PD} (nd:(ps.map (·.name)).Nodup):((qJ ps).map (·.name)).Nodup:=nd.sublist (List.filter_sublist.map _)
theorem Dg {ra:Str->Addr} {ps:List PD} (nd:(ps.map (·.name)).Nodup) {p:PD} (hp:p∈ps) (h0:p.kind=0):cg (Ml ra ps) (Sum.inr p.name)=some (.ref (ra p.name)):=
 gZ (by rw [FZ];exact fJ (TX nd)) (List.mem_map.mpr ⟨p,List.mem_filter.mpr ⟨hp,by simp [h0]⟩,rfl⟩)
theorem Ni {ra:Str->Addr} {ps:List PD} (nd:(ps.map (·.name)).Nodup) {p:PD} (hp:p∈ps) (h0:p.kind≠0):cg (Ml ra ps) (Sum.inr p.name)=none:=by
 refine fL ?_
 rw [FZ]
 intro z
 obtain⟨b,hb,e⟩:=List.mem_map.mp z
 cases e
 obtain⟨p',hp',en⟩:=List.mem_map.mp hb
 have hf:=List.mem_filter.mp hp'
 have a1:=find_name nd hf.1
 have a2:=find_name nd hp
 rw [en] at a1
 rw [a1] at a2
 cases a2
 exact h0 (by simpa using hf.2)
noncomputable def jc (S:FS) (x:Str):V:=(((S.ev x)[S.g x]?).map V.int).getD .non
noncomputable def aQ (S:FS) (p:PD):List V:=p.ins.map (jc S)
structure gK where
 tk:List Str
 gv:List (Str×Int)
 kv:Int
noncomputable def strAt (xs:List Str) (q:Nat):Str:=(xs[q]?).getD Str.empty
noncomputable def pO (S:FS) (p:PD):List Int:=if p.kind=0 then((S.r p.name)[S.d p.name]?).toList else(places p.kind (aQ S p)).map fun q=>Ww (((aQ S p)[q]?).getD .non)
noncomputable def vO (S:FS) (p:PD):Bool:=decide (p.kind=0) && decide (S.d p.name=(S.r p.name).length)
noncomputable def dY (S:FS) (p:PD):Option gK:=if fM p.kind p.ins (aQ S p)≠.non then none else if vO S p=true then none else
 some ⟨(places p.kind (aQ S p)).map (strAt p.ins),(cz p.kind p.nums (pO S p) (S.k p.name)).map fun pv=>(strAt p.outs pv.1.toNat,pv.2),d9 p.kind (pO S p) (S.k p.name)⟩
inductive m9 (M:List Addr) (H:Hp) (U:Addr) (dd:gK):Prop where
 | mk:∀La Lg rs,H U=some (.tup [.ref La,.ref Lg,.int dd.kv])->H La=some (.lst (dd.tk.map V.str))->H Lg=some (.lst (rs.map V.ref))->(gB H rs (dd.gv.map fun q=>[.str q.1,.int q.2]))->La∉M->Lg∉M->m9 M H U dd
theorem m9.same {M:List Addr} {H H':Hp} {U:Addr} {dd:gK} (h:m9 M H U dd) (s:aM H H'):m9 M H' U dd:=by
 obtain⟨La,Lg,rs,a,b,c,d,e,f⟩:=h
 exact⟨La,Lg,rs,s _ _ a,s _ _ b,s _ _ c,gB.same s d,e,f⟩
theorem ph (S:FS) (p:PD) (h:m5 p):rP p.kind (aQ S p):=by
 refine⟨by unfold aQ;rw [lM];exact h.2.2.1,fun v hv=>?_⟩
 obtain⟨x,_,rfl⟩:=List.mem_map.mp hv
 unfold jc
 cases (S.ev x)[S.g x]? with
 | none=>exact .inl rfl
 | some n=>exact .inr ⟨n,rfl⟩
theorem eN.cell {H:Hp} {A:pN} {ls:List aG} {ps:List PD} {S:FS} (h:eN K t H A ls ps S) {a:Addr} (ha:H a=none):a∉A.cells ls ps:=by
 intro z
 have no:∀{b:Addr} {u:HO},H b=some u->a=b->False:=fun e q=>by rw [<-q,ha] at e;cases e
 unfold pN.cells at z
 simp only [List.mem_cons,List.mem_append,List.mem_map] at z
 rcases z with z | z | z | z | z | ⟨l,hl,z⟩ | ⟨p,hp,z⟩
 ·exact no h.ever z
 ·exact no h.gone z
 ·exact no h.kept z
 ·exact no h.done z
 ·exact no h.rows z
 ·exact no (h.lists l hl) z.symm
 ·have hf:=List.mem_filter.mp hp
  exact no (h.rlst p hf.1 (by simpa using hf.2)) z.symm
noncomputable def pP (t:jN) (H:Hp) (r n f:Addr) (k:Nat):Prop:=∃dx fs,(H r=some (.ins t.pJ dx fs)/\fs.length<=k+3)/\Ui ["step", "need_doors", "next_deed", "full_lane", "can_work", "works", "lane_now", "turn", "had", "taken"] [("net",.ref n),("flow",.ref f),("turns",.int (k:Nat))] fs
theorem pP.same {H H':Hp} {r n f:Addr} {k:Nat} (h:pP t H r n f k) (s:aM H H'):pP t H' r n f k:=by
 obtain⟨dx,fs,h1,h2⟩:=h
 exact⟨dx,fs,⟨s _ _ h1.1,h1.2⟩,h2⟩
structure Gd (n:Nat) (d:PyData):Prop where
 eq:PyData.eqv d d=true
 lay:PyData.canLay0 d=true
 dep:PyData.depth d<=n
theorem Gd.all {n:Nat}:∀{ds:List PyData},(∀d∈ds,Gd n d)->PyData.eqvAll ds ds=true/\PyData.canLayAll0 ds=true/\PyData.depthAll ds<=n
 | [],_=>⟨by simp [PyData.eqvAll],by simp [PyData.canLayAll0],by simp [PyData.depthAll]⟩
 | d:: r,h=>by
  obtain⟨h1,h2,h3⟩:=Gd.all (ds:=r) fun x hx=>h x (List.mem_cons_of_mem _ hx)
  have g:=h d List.mem_cons_self
  have g3:=g.dep
  refine⟨by simp [PyData.eqvAll,g.eq,h1],by simp [PyData.canLayAll0,g.lay,h2],?_⟩
  simp only [PyData.depthAll]
  omega
theorem Gd.list {n:Nat} {ds:List PyData} (h:∀d∈ds,Gd n d):Gd (n+1) (.list ds):=by
 obtain⟨h1,h2,h3⟩:=Gd.all h
 exact⟨by simp [PyData.eqv,h1],by simp [PyData.canLay0,h2],by simp only [PyData.depth];omega⟩
theorem Gd.tuple {n:Nat} {ds:List PyData} (h:∀d∈ds,Gd n d):Gd (n+1) (.tuple ds):=by
 obtain⟨h1,h2,h3⟩:=Gd.all h
 exact⟨by simp [PyData.eqv,h1],by simp [PyData.canLay0,h2],by simp only [PyData.depth];omega⟩
theorem Gd.int (n:Nat) (i:Int):Gd n (.int i):=⟨by simp [PyData.eqv],by simp [PyData.canLay0],by simp [PyData.depth]⟩
theorem Gd.str (n:Nat) {x:Str} (h:PyData.strOk x=true):Gd n (.str x):=⟨by simp [PyData.eqv],by simp [PyData.canLay0,h],by simp [PyData.depth]⟩
theorem Gd.ints (n:Nat) (ws:List Int):∀d∈ws.map PyData.int,Gd n d:=fun d hd=>by
 obtain⟨i,_,rfl⟩:=List.mem_map.mp hd
 exact .int n i
theorem Gd.shaped {n:Nat} {d:PyData} (h:Gd n d) (hn:n<=64):SeqAt.shaped d=true:=by
 have:=h.dep
 unfold SeqAt.shaped
 rw [h.lay,decide_eq_true (show d.depth<=64 by omega)]
 rfl
theorem Np {H:Hp}:∀ws:List Int,Rv K H (ws.map V.int) (ws.map PyData.int)
 | []=>.nil
 | i:: r=>.cons (.int i) (Np r)
theorem lE {H:Hp} {p:Addr} {ws:List Int} (h:bI K H p (ws.map V.int)):Dt K H (.ref p) (.list (ws.map PyData.int)):=.list h (Np ws)
theorem RZ (xs:List V) (a b:Nat):xK xs (some (a:Int)) (some (b:Int))=(xs.drop (min a xs.length)).take (min b xs.length - min a xs.length):=by
 unfold xK
 rw [HT.vC,HT.vC]
inductive Aa (K:PySem.W.Frag) (vs:List V) (H:Hp) (Q:VK) (E:XK):Prop where
 | mk:∀x Tx b,vs=[x]->Y5 K H x Tx->Tx∈qt->decide (Tx= "int")=b->Q (.bl b) H->Aa K vs H Q E
theorem Ax (T:Txt w K mg t):FO P w K mg base 1 t.Dq ["thing"] (Aa K):=by
 have sc:=T.sr.sc ["thing"]
 refine T.sr.F.ok sc ln (fun _ _ _ _ H vs Q E hr h=>?_)
 obtain⟨x,Tx,b,rfl,ty,hm,rfl,k⟩:=h
 refine⟨_,(aA (aN (zz (bf xU (by rfl) T.oA lD (aa (pv 0) (aa (BL (by rfl) T.U7 Qf) ak aj) aj)) (zL (Wi (bf xU (by rfl) T.oA lD (aa (pv 0) (aa (BL (by rfl) T.VF Tw) ak aj) aj))))))),?_⟩
 have hm':Tx= "int" ∨Tx= "bool" ∨(J3 Tx "int" =false/\Tx≠ "int"):=by
  simp only [qt,List.mem_cons,List.not_mem_nil,or_false] at hm
  rcases hm with rfl | rfl | rfl | rfl | rfl | rfl | rfl
  ·exact .inr (.inr (by decide))
  ·exact .inr (.inl rfl)
  ·exact .inl rfl
  ·exact .inr (.inr (by decide))
  ·exact .inr (.inr (by decide))
  ·exact .inr (.inr (by decide))
  ·exact .inr (.inr (by decide))
 rcases hm' with rfl | rfl | ⟨h1,h2⟩
 ·exact⟨_,rfl,x, "int", "int",true,rfl,ty,by decide,by decide,true,rfl,gj ⟨_,rfl,x, "int", "bool",false,rfl,ty,by decide,by decide,_,rfl,k⟩⟩
 ·exact⟨_,rfl,x, "bool", "int",true,rfl,ty,by decide,by decide,true,rfl,gj ⟨_,rfl,x, "bool", "bool",true,rfl,ty,by decide,by decide,_,rfl,k⟩⟩
 ·rw [decide_eq_false h2] at k
  exact⟨_,rfl,x,Tx, "int",false,rfl,ty,by decide,h1,false,rfl,dz k⟩
inductive z8 (K:PySem.W.Frag) (vs:List V) (H:Hp) (Q:VK) (E:XK):Prop where
 | mk:∀x,vs=[x]->(((∃i:Int,x=.int i/\Q (.bl (decide (0<=i) && decide (i <1000000000))) H)∨∃Tx,Y5 K H x Tx/\Tx∈qt/\Tx≠ "int" /\Q (.bl false) H))->z8 K vs H Q E
theorem uR (T:Txt w K mg t):FO P w K mg base 2 t.Eo ["thing"] (z8 K):=by
 have sc:=T.oX.sc ["thing"]
 refine T.oX.F.ok sc ln (fun _ _ _ _ H vs Q E hr h=>?_)
 obtain⟨x,rfl,h⟩:=h
 refine⟨_,(aA (aN (zz (dZ (Ax T) T.sr hr (aa (pv 0) ak aj)) (zL (Rx wL tK aq (pv 0) (jw (by rfl) T.J9)))))),?_⟩
 rcases h with ⟨i,rfl,k⟩ | ⟨Tx,ty,hm,hne,k⟩
 ·refine⟨_,rfl,.int i, "int",true,rfl,rfl,by decide,by decide,true,rfl,gj ⟨_,rfl,_,_,rfl,rfl,_,rfl,jy (fun h=>?_) (fun h=>?_)⟩⟩
  ·have h':0<=i:=of_decide_eq_true h
   rw [decide_eq_true h',Bool.true_and] at k
   exact⟨_,_,rfl,rfl,k⟩
  ·have h':¬0<=i:=fun z=>h (decide_eq_true z)
   rw [decide_eq_false h',Bool.false_and] at k
   exact k
 ·exact⟨_,rfl,x,Tx,false,rfl,ty,hm,decide_eq_false hne,false,rfl,dz k⟩
inductive rB (K:PySem.W.Frag) (t:jN) (vs:List V) (H:Hp) (Q:VK) (E:XK):Prop where
 | mk:∀(i:Nat) (p dx a1 a2 a3:Addr) (nm:V) (ns is os:List V),vs=[.ref p,nm,.ref a1,.ref a2,.ref a3]->H p=some (.ins (cls t i) dx [])->yI K H a1 ns->yI K H a2 is->yI K H a3 os->(∀H',lQ p H H'->fH K t H' p i nm ns is os->Q .non H')->rB K t vs H Q E
noncomputable abbrev m8:List Str:=["self", "name", "numbers", "ins", "outs"]
theorem cu (T:Txt w K mg t):FO P w K mg base 1 t.b7 m8 (rB K t):=by
 have sc:fG m8 m8 (bc (inClass (top 27) 0)):=GX
 refine T.bj.F.ok sc ln (fun _ _ _ _ H vs Q E hr h=>?_)
 obtain⟨i,p,dx,a1,a2,a3,nm,ns,is,os,rfl,hp,q1,q2,q3,k⟩:=h
 refine⟨_,(au (ik (pv 0) (pv 1) rfl)
  (au (ik (pv 0) (dg vM (by rfl) T.Bw xQ (aa (pv 2) ak aj)) rfl)
  (au (ik (pv 0) (dg vM (by rfl) T.Bw xQ (aa (pv 3) ak aj)) rfl)
  (aA (ik (pv 0) (dg vM (by rfl) T.Bw xQ (aa (pv 4) ak aj)) rfl))))),?_⟩
 refine⟨_,rfl,_,rfl,p,cls t i,dx,[],rfl,hp,ir T i,BW T i,by show 0 <1000;decide,?_⟩
 have b1:lQ p H (upd H p (.ins (cls t i) dx (aJ "name" nm []))):=lQ.write
 have e1:(upd H p (.ins (cls t i) dx (aJ "name" nm []))) p=some (.ins (cls t i) dx (aJ "name" nm [])):=az
 generalize upd H p (.ins (cls t i) dx (aJ "name" nm []))=H1 at b1 e1 ⊢
 have r2:=b1.seqA hp q2
 have r3:=b1.seqA hp q3
 refine⟨_,rfl,a1,ns,rfl,b1.seqA hp q1,fun H2 u2 s2 t2=>⟨_,rfl,p,cls t i,dx,_,rfl,s2 _ _ e1,ir T i,sJ T i,Nat.lt_of_le_of_lt (ie (Nat.zero_le 0)) (by decide),?_⟩⟩
 have e2:=s2 _ _ e1
 have b2:lQ p H2 (upd H2 p (.ins (cls t i) dx (aJ "numbers" (.ref u2) (aJ "name" nm [])))):=lQ.write
 have e3:(upd H2 p (.ins (cls t i) dx (aJ "numbers" (.ref u2) (aJ "name" nm [])))) p=some (.ins (cls t i) dx (aJ "numbers" (.ref u2) (aJ "name" nm []))):=az
 generalize upd H2 p (.ins (cls t i) dx (aJ "numbers" (.ref u2) (aJ "name" nm [])))=H3 at b2 e3 ⊢
 have r2':=b2.seqA e2 (s2.seqA r2)
 have r3':=b2.seqA e2 (s2.seqA r3)
 have t2':=b2.seqT e2 t2
 refine⟨_,rfl,a2,is,rfl,r2',fun H4 u4 s4 t4=>⟨_,rfl,p,cls t i,dx,_,rfl,s4 _ _ e3,ir T i,xn T i,Nat.lt_of_le_of_lt (ie (ie (Nat.zero_le 0))) (by decide),?_⟩⟩
 have e4:=s4 _ _ e3
 have b4:lQ p H4 (upd H4 p (.ins (cls t i) dx (aJ "ins" (.ref u4) (aJ "numbers" (.ref u2) (aJ "name" nm []))))):=lQ.write
 have e5:(upd H4 p (.ins (cls t i) dx (aJ "ins" (.ref u4) (aJ "numbers" (.ref u2) (aJ "name" nm []))))) p=some (.ins (cls t i) dx (aJ "ins" (.ref u4) (aJ "numbers" (.ref u2) (aJ "name" nm [])))):=az
 generalize upd H4 p (.ins (cls t i) dx (aJ "ins" (.ref u4) (aJ "numbers" (.ref u2) (aJ "name" nm []))))=H5 at b4 e5 ⊢
 have r3'':=b4.seqA e4 (s4.seqA r3')
 have t2'':=b4.seqT e4 (s4.seqT t2')
 have t4':=b4.seqT e4 t4
 refine⟨_,rfl,a3,os,rfl,r3'',fun H6 u6 s6 t6=>⟨_,rfl,p,cls t i,dx,_,rfl,s6 _ _ e5,ir T i,Ib T i,Nat.lt_of_le_of_lt (ie (ie (ie (Nat.zero_le 0)))) (by decide),?_⟩⟩
 have e6:=s6 _ _ e5
 refine k _ (b1.trans ((lQ.of_same s2).trans (b2.trans ((lQ.of_same s4).trans (b4.trans ((lQ.of_same s6).trans lQ.write)))))) ⟨dx,u2,u4,u6,az,?_,?_,?_⟩
 ·exact lQ.write.seqT e6 (s6.seqT t2'')
 ·exact lQ.write.seqT e6 (s6.seqT t4')
 ·exact lQ.write.seqT e6 t6
theorem Ho (T:Txt w K mg t):FO P w K mg base 1 t.uw ["self"] (je 0):=by
 have sc:=T.qb.sc ["self"]
 refine T.qb.F.ok sc ln (fun _ _ _ _ H vs Q E hr h=>?_)
 obtain⟨x,rfl,k⟩:=h
 refine⟨_,(aA (aN bK)),?_⟩
 exact k
theorem Ht (T:Txt w K mg t):FO P w K mg base 1 t.uJ ["self"] (je 1):=by
 have sc:=T.pW.sc ["self"]
 refine T.pW.F.ok sc ln (fun _ _ _ _ H vs Q E hr h=>?_)
 obtain⟨x,rfl,k⟩:=h
 refine⟨_,(aA (aN bK)),?_⟩
 exact k
theorem Hq (T:Txt w K mg t):FO P w K mg base 1 t.uf ["self"] (je 2):=by
 have sc:=T.p8.sc ["self"]
 refine T.p8.F.ok sc ln (fun _ _ _ _ H vs Q E hr h=>?_)
 obtain⟨x,rfl,k⟩:=h
 refine⟨_,(aA (aN bK)),?_⟩
 exact k
theorem Hy (T:Txt w K mg t):FO P w K mg base 1 t.uc ["self"] (je 3):=by
 have sc:=T.pR.sc ["self"]
 refine T.pR.F.ok sc ln (fun _ _ _ _ H vs Q E hr h=>?_)
 obtain⟨x,rfl,k⟩:=h
 refine⟨_,(aA (aN bK)),?_⟩
 exact k
theorem HR (T:Txt w K mg t):FO P w K mg base 1 t.uX ["self"] (je 4):=by
 have sc:=T.qw.sc ["self"]
 refine T.qw.F.ok sc ln (fun _ _ _ _ H vs Q E hr h=>?_)
 obtain⟨x,rfl,k⟩:=h
 refine⟨_,(aA (aN bK)),?_⟩
 exact k
theorem Im (T:Txt w K mg t):FO P w K mg base 1 t.uZ ["self"] (je 5):=by
 have sc:=T.qi.sc ["self"]
 refine T.qi.F.ok sc ln (fun _ _ _ _ H vs Q E hr h=>?_)
 obtain⟨x,rfl,k⟩:=h
 refine⟨_,(aA (aN bK)),?_⟩
 exact k
theorem Jo (T:Txt w K mg t):FO P w K mg base 1 t.xH ["self"] (je 6):=by
 have sc:=T.sO.sc ["self"]
 refine T.sO.F.ok sc ln (fun _ _ _ _ H vs Q E hr h=>?_)
 obtain⟨x,rfl,k⟩:=h
 refine⟨_,(aA (aN bK)),?_⟩
 exact k
theorem G8 (T:Txt w K mg t):FO P w K mg base 1 t.uH ["self"] (je 7):=by
 have sc:=T.qu.sc ["self"]
 refine T.qu.F.ok sc ln (fun _ _ _ _ H vs Q E hr h=>?_)
 obtain⟨x,rfl,k⟩:=h
 refine⟨_,(aA (aN bK)),?_⟩
 exact k
theorem EY (T:Txt w K mg t):FO P w K mg base 1 t.rZ ["self"] (je 8):=by
 have sc:=T.oG.sc ["self"]
 refine T.oG.F.ok sc ln (fun _ _ _ _ H vs Q E hr h=>?_)
 obtain⟨x,rfl,k⟩:=h
 refine⟨_,(aA (aN bK)),?_⟩
 exact k
theorem Cv (T:Txt w K mg t):FO P w K mg base 1 t.qO ["self"] (je 9):=by
 have sc:=T.lK.sc ["self"]
 refine T.lK.F.ok sc ln (fun _ _ _ _ H vs Q E hr h=>?_)
 obtain⟨x,rfl,k⟩:=h
 refine⟨_,(aA (aN bK)),?_⟩
 exact k
theorem Fj (T:Txt w K mg t):FO P w K mg base 1 t.sI ["self"] (je 10):=by
 have sc:=T.oJ.sc ["self"]
 refine T.oJ.F.ok sc ln (fun _ _ _ _ H vs Q E hr h=>?_)
 obtain⟨x,rfl,k⟩:=h
 refine⟨_,(aA (aN bK)),?_⟩
 exact k
inductive Ef (vs:List V) (H:Hp) (Q:VK) (E:XK):Prop where
 | mk:∀z:Str,vs=[.str z]->Q (.bl (rowOf ROWS z).isSome) H->Ef vs H Q E
theorem DG (T:Txt w K mg t):FO P w K mg base 1 t.Fw ["word"] (Ef):=by
 have sc:=T.vA.sc ["word"]
 refine T.vA.F.ok sc ln (fun _ _ _ _ H vs Q E hr h=>?_)
 obtain⟨z,rfl,k⟩:=h
 refine⟨_,(aA (aN (HJ (VH (pv 0) (Hm (v:=.ref _) (by rfl) T.GR rfl)) (by with_unfolding_all rfl)))),?_⟩
 exact⟨_,rfl,t.zb,ROWS,z,rfl,T.JP,rfl,k⟩
inductive Ai (K:PySem.W.Frag) (vs:List V) (H:Hp) (Q:VK) (E:XK):Prop where
 | mk:∀(i:Nat) (nm:V) (a1 a2 a3:Addr) (ns is os:List V),vs=[.str (cL i),nm,.ref a1,.ref a2,.ref a3]->yI K H a1 ns->yI K H a2 is->yI K H a3 os->ns.length=cN i->is.length=cI i->os.length=cO i->((∀v∈ns,Val v))->(∀H',aM H H'->Q .non H')->Ai K vs H Q E
noncomputable abbrev Ck:List Str:=["kind", "name", "numbers", "ins", "outs", "counts"]
theorem JQ (T:Txt w K mg t):FO P w K mg base 3 t.CG ["kind", "name", "numbers", "ins", "outs"] (Ai K):=by
 have sc:=T.xx.sc Ck
 refine T.xx.F.ok sc ln (fun _ _ _ _ H vs Q E hr h=>?_)
 obtain⟨i,nm,a1,a2,a3,ns,is,os,rfl,h1,h2,h3,l1,l2,l3,hv,k⟩:=h
 refine⟨_,(au (bR (kJ (jo (dZ (DG T) T.vA hr (aa (pv 0) ak aj))))
   (aA dO)
   aZ)
  (au (sN sc 5 (S6 (Hm (v:=.ref _) (by rfl) T.GR rfl) (pv 0) (fun _ _=>rfl)))
  (au (bR (PW.pt (rF (aW JZ (bf bN (by rfl) T.dX cH (aa (pv 2) ak aj)) (aR cC (pv 5) aq (fun _ _=>rfl)) (bC _)) (kj (kJ (jo (bf (xT rfl) (by rfl) T.NQ Ia (aa (iT [] Ck (bc (top 40)) rfl (VD (b8 (pv 2)) (Jb (pv 2))) (fun _ _ _ _ _=>jr) (fun _ _ _ _ _=>(dZ (uR T) T.oX hr (aa (pv 0) ak aj)))) ak fU)))))))
   (aA dO)
   aZ)
  (aA (bR (PW.pt (rF (aW JZ (bf bN (by rfl) T.dX cH (aa (pv 3) ak aj)) (aR cC (pv 5) aq (fun _ _=>rfl)) (bC _)) (kj (aW JZ (bf bN (by rfl) T.dX cH (aa (pv 4) ak aj)) (aR cC (pv 5) aq (fun _ _=>rfl)) (bC _)))))
   (aA dO)
   aZ))))),?_⟩
 have hl:sizeLine=16777216:=sizeLine_eq
 have hN:=Vb i
 have hI:=vV i
 have hO:=Rq i
 refine⟨_,rfl,cL i,rfl,true,by rw [row_of];rfl,dz ?_⟩
 refine⟨_,rfl,t.zb,ROWS,cL i,_,rfl,T.JP,rfl,row_of i,fun ad had=>?_⟩
 refine⟨_,rfl,.ref a1,ns.length,rfl,h1.len,_,rfl,ad,_,0,_,rfl,rfl,had,aK (j:=0) rfl,rfl,_,rfl,?_⟩
 rw [show(!decide (V.int ((ns.length:Nat):Int)=V.int ((cN i:Nat):Int)))=false by rw [l1];simp]
 refine dz ?_
 refine RC (a:=a1) (xs:=ns) ?_ h1 (fun j ys=>ys=(List.replicate j true).map V.bl) (by omega) rfl (fun j ys e=>by rw [e];simp) (fun j x ys hx e=>?_) (fun ys e D hD=>?_)
 ·exact fun R r=>⟨_,rfl,r⟩
 ·subst e
  obtain⟨n,rfl,n0,n1⟩:=hv x (List.mem_of_getElem? hx)
  refine yes ⟨_,rfl,.int n,rfl,.inl ⟨n,rfl,rfl,?_⟩⟩
  rw [decide_eq_true n0,decide_eq_true n1,List.replicate_succ']
  simp
 ·subst e
  refine⟨D,_,rfl,bI.of az,_,rfl,?_⟩
  rw [show((List.replicate ns.length true).all id)=true by simp]
  refine dz ?_
  have s1:aM H (upd H D (.lst ((List.replicate ns.length true).map V.bl))):=aB hD
  refine⟨_,rfl,.ref a2,is.length,rfl,(s1.seqA h2).len,_,rfl,ad,_,1,_,rfl,rfl,s1.seqT had,aK (j:=1) rfl,rfl,_,rfl,?_⟩
  rw [show(!decide (V.int ((is.length:Nat):Int)=V.int ((cI i:Nat):Int)))=false by rw [l2];simp]
  refine dz ?_
  refine⟨_,rfl,.ref a3,os.length,rfl,(s1.seqA h3).len,_,rfl,ad,_,2,_,rfl,rfl,s1.seqT had,aK (j:=2) rfl,rfl,_,rfl,?_⟩
  rw [show(!decide (V.int ((os.length:Nat):Int)=V.int ((cO i:Nat):Int)))=false by rw [l3];simp]
  exact dz (k _ s1)
inductive Dv (K:PySem.W.Frag) (t:jN) (vs:List V) (H:Hp) (Q:VK) (E:XK):Prop where
 | mk:∀(i:Nat) (nm:V) (a1 a2 a3:Addr) (ns is os:List V),vs=[.str (cL i),nm,.ref a1,.ref a2,.ref a3]->i<=10->yI K H a1 ns->yI K H a2 is->yI K H a3 os->(∀H' p,aM H H'->H p=none->fH K t H' p i nm ns is os->Q (.ref p) H')->Dv K t vs H Q E
noncomputable abbrev zY:List Str:=["kind", "name", "numbers", "ins", "outs"]
theorem LC (T:Txt w K mg t):FO P w K mg base 3 t.Gg zY (Dv K t):=by
 have sc:fG zY zY (bc (top 41)):=GX
 refine T.Gk.F.ok sc ln (fun _ _ _ _ H vs Q E hr h=>?_)
 obtain⟨i,nm,a1,a2,a3,ns,is,os,rfl,hi,h1,h2,h3,k⟩:=h
 refine⟨_,(au (bR (aW dU (pv 0) bK (bC _))
   (aA (aN (iw (T.iH.M T.bj) (cu T) (hr.mono (by decide)) (by rfl) T.iH.m T.bj.b .nil iy (aa (pv 1) (aa (pv 2) (aa (pv 3) (aa (pv 4) ak aj) aj) aj) aj))))
   aZ)
  (au (bR (aW dU (pv 0) bK (bC _))
   (aA (aN (iw (T.iD.M T.bj) (cu T) (hr.mono (by decide)) (by rfl) T.iD.m T.bj.b .nil iy (aa (pv 1) (aa (pv 2) (aa (pv 3) (aa (pv 4) ak aj) aj) aj) aj))))
   aZ)
  (au (bR (aW dU (pv 0) bK (bC _))
   (aA (aN (iw (T.iV.M T.bj) (cu T) (hr.mono (by decide)) (by rfl) T.iV.m T.bj.b .nil iy (aa (pv 1) (aa (pv 2) (aa (pv 3) (aa (pv 4) ak aj) aj) aj) aj))))
   aZ)
  (au (bR (aW dU (pv 0) bK (bC _))
   (aA (aN (iw (T.iG.M T.bj) (cu T) (hr.mono (by decide)) (by rfl) T.iG.m T.bj.b .nil iy (aa (pv 1) (aa (pv 2) (aa (pv 3) (aa (pv 4) ak aj) aj) aj) aj))))
   aZ)
  (au (bR (aW dU (pv 0) bK (bC _))
   (aA (aN (iw (T.iY.M T.bj) (cu T) (hr.mono (by decide)) (by rfl) T.iY.m T.bj.b .nil iy (aa (pv 1) (aa (pv 2) (aa (pv 3) (aa (pv 4) ak aj) aj) aj) aj))))
   aZ)
  (au (bR (aW dU (pv 0) bK (bC _))
   (aA (aN (iw (T.iI.M T.bj) (cu T) (hr.mono (by decide)) (by rfl) T.iI.m T.bj.b .nil iy (aa (pv 1) (aa (pv 2) (aa (pv 3) (aa (pv 4) ak aj) aj) aj) aj))))
   aZ)
  (au (bR (aW dU (pv 0) bK (bC _))
   (aA (aN (iw (T.mC.M T.bj) (cu T) (hr.mono (by decide)) (by rfl) T.mC.m T.bj.b .nil iy (aa (pv 1) (aa (pv 2) (aa (pv 3) (aa (pv 4) ak aj) aj) aj) aj))))
   aZ)
  (au (bR (aW dU (pv 0) bK (bC _))
   (aA (aN (iw (T.iW.M T.bj) (cu T) (hr.mono (by decide)) (by rfl) T.iW.m T.bj.b .nil iy (aa (pv 1) (aa (pv 2) (aa (pv 3) (aa (pv 4) ak aj) aj) aj) aj))))
   aZ)
  (au (bR (aW dU (pv 0) bK (bC _))
   (aA (aN (iw (T.fK.M T.bj) (cu T) (hr.mono (by decide)) (by rfl) T.fK.m T.bj.b .nil iy (aa (pv 1) (aa (pv 2) (aa (pv 3) (aa (pv 4) ak aj) aj) aj) aj))))
   aZ)
  (au (bR (aW dU (pv 0) bK (bC _))
   (aA (aN (iw (T.d8.M T.bj) (cu T) (hr.mono (by decide)) (by rfl) T.d8.m T.bj.b .nil iy (aa (pv 1) (aa (pv 2) (aa (pv 3) (aa (pv 4) ak aj) aj) aj) aj))))
   aZ)
  (aA (aN (iw (T.fO.M T.bj) (cu T) (hr.mono (by decide)) (by rfl) T.fO.m T.bj.b .nil iy (aa (pv 1) (aa (pv 2) (aa (pv 3) (aa (pv 4) ak aj) aj) aj) aj)))))))))))))),?_⟩
 match i,hi with
 | 0,_=>
  refine⟨_,rfl,rfl,_,rfl,kW rfl ?_⟩
  refine⟨_,rfl,_,rfl,_,rfl,_,rfl,fun x dx nx ndx nex=>?_⟩
  have s0:aM H (upd (upd H dx (.own x)) x (.ins t.Lj dx [])):=fun b o e=>by rw [aH (aF e nx),aH (aF e ndx)];exact e
  exact⟨0,x,dx,a1,a2,a3,nm,ns,is,os,rfl,az,s0.seqA h1,s0.seqA h2,s0.seqA h3,fun H' b P=>⟨rfl,k H' x (fun c o e=>b c o (aF e nx) (s0 c o e)) nx P⟩⟩
 | 1,_=>
  refine⟨_,rfl,rfl,_,rfl,bY (by decide +kernel) ?_⟩
  refine⟨_,rfl,rfl,_,rfl,kW rfl ?_⟩
  refine⟨_,rfl,_,rfl,_,rfl,_,rfl,fun x dx nx ndx nex=>?_⟩
  have s0:aM H (upd (upd H dx (.own x)) x (.ins t.Le dx [])):=fun b o e=>by rw [aH (aF e nx),aH (aF e ndx)];exact e
  exact⟨1,x,dx,a1,a2,a3,nm,ns,is,os,rfl,az,s0.seqA h1,s0.seqA h2,s0.seqA h3,fun H' b P=>⟨rfl,k H' x (fun c o e=>b c o (aF e nx) (s0 c o e)) nx P⟩⟩
 | 2,_=>
  refine⟨_,rfl,rfl,_,rfl,bY (by decide +kernel) ?_⟩
  refine⟨_,rfl,rfl,_,rfl,bY (by decide +kernel) ?_⟩
  refine⟨_,rfl,rfl,_,rfl,kW rfl ?_⟩
  refine⟨_,rfl,_,rfl,_,rfl,_,rfl,fun x dx nx ndx nex=>?_⟩
  have s0:aM H (upd (upd H dx (.own x)) x (.ins t.K4 dx [])):=fun b o e=>by rw [aH (aF e nx),aH (aF e ndx)];exact e
  exact⟨2,x,dx,a1,a2,a3,nm,ns,is,os,rfl,az,s0.seqA h1,s0.seqA h2,s0.seqA h3,fun H' b P=>⟨rfl,k H' x (fun c o e=>b c o (aF e nx) (s0 c o e)) nx P⟩⟩
 | 3,_=>
  refine⟨_,rfl,rfl,_,rfl,bY (by decide +kernel) ?_⟩
  refine⟨_,rfl,rfl,_,rfl,bY (by decide +kernel) ?_⟩
  refine⟨_,rfl,rfl,_,rfl,bY (by decide +kernel) ?_⟩
  refine⟨_,rfl,rfl,_,rfl,kW rfl ?_⟩
  refine⟨_,rfl,_,rfl,_,rfl,_,rfl,fun x dx nx ndx nex=>?_⟩
  have s0:aM H (upd (upd H dx (.own x)) x (.ins t.Ls dx [])):=fun b o e=>by rw [aH (aF e nx),aH (aF e ndx)];exact e
  exact⟨3,x,dx,a1,a2,a3,nm,ns,is,os,rfl,az,s0.seqA h1,s0.seqA h2,s0.seqA h3,fun H' b P=>⟨rfl,k H' x (fun c o e=>b c o (aF e nx) (s0 c o e)) nx P⟩⟩
 | 4,_=>
  refine⟨_,rfl,rfl,_,rfl,bY (by decide +kernel) ?_⟩
  refine⟨_,rfl,rfl,_,rfl,bY (by decide +kernel) ?_⟩
  refine⟨_,rfl,rfl,_,rfl,bY (by decide +kernel) ?_⟩
  refine⟨_,rfl,rfl,_,rfl,bY (by decide +kernel) ?_⟩
  refine⟨_,rfl,rfl,_,rfl,kW rfl ?_⟩
  refine⟨_,rfl,_,rfl,_,rfl,_,rfl,fun x dx nx ndx nex=>?_⟩
  have s0:aM H (upd (upd H dx (.own x)) x (.ins t.KC dx [])):=fun b o e=>by rw [aH (aF e nx),aH (aF e ndx)];exact e
  exact⟨4,x,dx,a1,a2,a3,nm,ns,is,os,rfl,az,s0.seqA h1,s0.seqA h2,s0.seqA h3,fun H' b P=>⟨rfl,k H' x (fun c o e=>b c o (aF e nx) (s0 c o e)) nx P⟩⟩
 | 5,_=>
  refine⟨_,rfl,rfl,_,rfl,bY (by decide +kernel) ?_⟩
  refine⟨_,rfl,rfl,_,rfl,bY (by decide +kernel) ?_⟩
  refine⟨_,rfl,rfl,_,rfl,bY (by decide +kernel) ?_⟩
  refine⟨_,rfl,rfl,_,rfl,bY (by decide +kernel) ?_⟩
  refine⟨_,rfl,rfl,_,rfl,bY (by decide +kernel) ?_⟩
  refine⟨_,rfl,rfl,_,rfl,kW rfl ?_⟩
  refine⟨_,rfl,_,rfl,_,rfl,_,rfl,fun x dx nx ndx nex=>?_⟩
  have s0:aM H (upd (upd H dx (.own x)) x (.ins t.Kz dx [])):=fun b o e=>by rw [aH (aF e nx),aH (aF e ndx)];exact e
  exact⟨5,x,dx,a1,a2,a3,nm,ns,is,os,rfl,az,s0.seqA h1,s0.seqA h2,s0.seqA h3,fun H' b P=>⟨rfl,k H' x (fun c o e=>b c o (aF e nx) (s0 c o e)) nx P⟩⟩
 | 6,_=>
  refine⟨_,rfl,rfl,_,rfl,bY (by decide +kernel) ?_⟩
  refine⟨_,rfl,rfl,_,rfl,bY (by decide +kernel) ?_⟩
  refine⟨_,rfl,rfl,_,rfl,bY (by decide +kernel) ?_⟩
  refine⟨_,rfl,rfl,_,rfl,bY (by decide +kernel) ?_⟩
  refine⟨_,rfl,rfl,_,rfl,bY (by decide +kernel) ?_⟩
  refine⟨_,rfl,rfl,_,rfl,bY (by decide +kernel) ?_⟩
  refine⟨_,rfl,rfl,_,rfl,kW rfl ?_⟩
  refine⟨_,rfl,_,rfl,_,rfl,_,rfl,fun x dx nx ndx nex=>?_⟩
  have s0:aM H (upd (upd H dx (.own x)) x (.ins t.Qm dx [])):=fun b o e=>by rw [aH (aF e nx),aH (aF e ndx)];exact e
  exact⟨6,x,dx,a1,a2,a3,nm,ns,is,os,rfl,az,s0.seqA h1,s0.seqA h2,s0.seqA h3,fun H' b P=>⟨rfl,k H' x (fun c o e=>b c o (aF e nx) (s0 c o e)) nx P⟩⟩
 | 7,_=>
  refine⟨_,rfl,rfl,_,rfl,bY (by decide +kernel) ?_⟩
  refine⟨_,rfl,rfl,_,rfl,bY (by decide +kernel) ?_⟩
  refine⟨_,rfl,rfl,_,rfl,bY (by decide +kernel) ?_⟩
  refine⟨_,rfl,rfl,_,rfl,bY (by decide +kernel) ?_⟩
  refine⟨_,rfl,rfl,_,rfl,bY (by decide +kernel) ?_⟩
  refine⟨_,rfl,rfl,_,rfl,bY (by decide +kernel) ?_⟩
  refine⟨_,rfl,rfl,_,rfl,bY (by decide +kernel) ?_⟩
  refine⟨_,rfl,rfl,_,rfl,kW rfl ?_⟩
  refine⟨_,rfl,_,rfl,_,rfl,_,rfl,fun x dx nx ndx nex=>?_⟩
  have s0:aM H (upd (upd H dx (.own x)) x (.ins t.Mq dx [])):=fun b o e=>by rw [aH (aF e nx),aH (aF e ndx)];exact e
  exact⟨7,x,dx,a1,a2,a3,nm,ns,is,os,rfl,az,s0.seqA h1,s0.seqA h2,s0.seqA h3,fun H' b P=>⟨rfl,k H' x (fun c o e=>b c o (aF e nx) (s0 c o e)) nx P⟩⟩
 | 8,_=>
  refine⟨_,rfl,rfl,_,rfl,bY (by decide +kernel) ?_⟩
  refine⟨_,rfl,rfl,_,rfl,bY (by decide +kernel) ?_⟩
  refine⟨_,rfl,rfl,_,rfl,bY (by decide +kernel) ?_⟩
  refine⟨_,rfl,rfl,_,rfl,bY (by decide +kernel) ?_⟩
  refine⟨_,rfl,rfl,_,rfl,bY (by decide +kernel) ?_⟩
  refine⟨_,rfl,rfl,_,rfl,bY (by decide +kernel) ?_⟩
  refine⟨_,rfl,rfl,_,rfl,bY (by decide +kernel) ?_⟩
  refine⟨_,rfl,rfl,_,rfl,bY (by decide +kernel) ?_⟩
  refine⟨_,rfl,rfl,_,rfl,kW rfl ?_⟩
  refine⟨_,rfl,_,rfl,_,rfl,_,rfl,fun x dx nx ndx nex=>?_⟩
  have s0:aM H (upd (upd H dx (.own x)) x (.ins t.Hz dx [])):=fun b o e=>by rw [aH (aF e nx),aH (aF e ndx)];exact e
  exact⟨8,x,dx,a1,a2,a3,nm,ns,is,os,rfl,az,s0.seqA h1,s0.seqA h2,s0.seqA h3,fun H' b P=>⟨rfl,k H' x (fun c o e=>b c o (aF e nx) (s0 c o e)) nx P⟩⟩
 | 9,_=>
  refine⟨_,rfl,rfl,_,rfl,bY (by decide +kernel) ?_⟩
  refine⟨_,rfl,rfl,_,rfl,bY (by decide +kernel) ?_⟩
  refine⟨_,rfl,rfl,_,rfl,bY (by decide +kernel) ?_⟩
  refine⟨_,rfl,rfl,_,rfl,bY (by decide +kernel) ?_⟩
  refine⟨_,rfl,rfl,_,rfl,bY (by decide +kernel) ?_⟩
  refine⟨_,rfl,rfl,_,rfl,bY (by decide +kernel) ?_⟩
  refine⟨_,rfl,rfl,_,rfl,bY (by decide +kernel) ?_⟩
  refine⟨_,rfl,rfl,_,rfl,bY (by decide +kernel) ?_⟩
  refine⟨_,rfl,rfl,_,rfl,bY (by decide +kernel) ?_⟩
  refine⟨_,rfl,rfl,_,rfl,kW rfl ?_⟩
  refine⟨_,rfl,_,rfl,_,rfl,_,rfl,fun x dx nx ndx nex=>?_⟩
  have s0:aM H (upd (upd H dx (.own x)) x (.ins t.CN dx [])):=fun b o e=>by rw [aH (aF e nx),aH (aF e ndx)];exact e
  exact⟨9,x,dx,a1,a2,a3,nm,ns,is,os,rfl,az,s0.seqA h1,s0.seqA h2,s0.seqA h3,fun H' b P=>⟨rfl,k H' x (fun c o e=>b c o (aF e nx) (s0 c o e)) nx P⟩⟩
 | 10,_=>
  refine⟨_,rfl,rfl,_,rfl,bY (by decide +kernel) ?_⟩
  refine⟨_,rfl,rfl,_,rfl,bY (by decide +kernel) ?_⟩
  refine⟨_,rfl,rfl,_,rfl,bY (by decide +kernel) ?_⟩
  refine⟨_,rfl,rfl,_,rfl,bY (by decide +kernel) ?_⟩
  refine⟨_,rfl,rfl,_,rfl,bY (by decide +kernel) ?_⟩
  refine⟨_,rfl,rfl,_,rfl,bY (by decide +kernel) ?_⟩
  refine⟨_,rfl,rfl,_,rfl,bY (by decide +kernel) ?_⟩
  refine⟨_,rfl,rfl,_,rfl,bY (by decide +kernel) ?_⟩
  refine⟨_,rfl,rfl,_,rfl,bY (by decide +kernel) ?_⟩
  refine⟨_,rfl,rfl,_,rfl,bY (by decide +kernel) ?_⟩
  refine⟨_,rfl,_,rfl,_,rfl,_,rfl,fun x dx nx ndx nex=>?_⟩
  have s0:aM H (upd (upd H dx (.own x)) x (.ins t.HQ dx [])):=fun b o e=>by rw [aH (aF e nx),aH (aF e ndx)];exact e
  exact⟨10,x,dx,a1,a2,a3,nm,ns,is,os,rfl,az,s0.seqA h1,s0.seqA h2,s0.seqA h3,fun H' b P=>⟨rfl,k H' x (fun c o e=>b c o (aF e nx) (s0 c o e)) nx P⟩⟩
 | (n+11),h=>exact absurd h (by omega)
inductive zg (K:PySem.W.Frag) (t:jN) (vs:List V) (H:Hp) (Q:VK) (E:XK):Prop where
 | mk:∀(i:Nat) (nm:V) (a1 a2 a3:Addr) (ns is os:List V),vs=[.str (cL i),nm,.ref a1,.ref a2,.ref a3]->i<=10->yI K H a1 ns->yI K H a2 is->yI K H a3 os->ns.length=cN i->is.length=cI i->os.length=cO i->((∀v∈ns,Val v))->(∀H' p,aM H H'->H p=none->fH K t H' p i nm ns is os->Q (.ref p) H')->zg K t vs H Q E
noncomputable abbrev uQ:List Str:=["kind", "name", "numbers", "ins", "outs"]
theorem Hr (T:Txt w K mg t):FO P w K mg base 4 t.Ac uQ (zg K t):=by
 have sc:fG uQ uQ (bc (top 42)):=GX
 refine T.Ab.F.ok sc ln (fun _ _ _ _ H vs Q E hr h=>?_)
 obtain⟨i,nm,a1,a2,a3,ns,is,os,rfl,hi,h1,h2,h3,l1,l2,l3,hv,k⟩:=h
 refine⟨_,(au (bL (dZ (JQ T) T.xx hr (aa (pv 0) (aa (pv 1) (aa (pv 2) (aa (pv 3) (aa (pv 4) ak aj) aj) aj) aj) aj)))
  (aA (aN (dZ (LC T) T.Gk hr (aa (pv 0) (aa (pv 1) (aa (pv 2) (aa (pv 3) (aa (pv 4) ak aj) aj) aj) aj) aj))))),?_⟩
 refine⟨_,rfl,_,rfl,_,rfl,_,rfl,_,rfl,i,nm,a1,a2,a3,ns,is,os,rfl,h1,h2,h3,l1,l2,l3,hv,fun H1 s1=>?_⟩
 exact⟨_,rfl,_,rfl,_,rfl,_,rfl,_,rfl,i,nm,a1,a2,a3,ns,is,os,rfl,hi,s1.seqA h1,s1.seqA h2,s1.seqA h3,fun H2 p s2 np P=>k H2 p (s1.trans s2) (s1.free np) P⟩
inductive M7 (vs:List V) (H:Hp) (Q:VK) (E:XK):Prop where
 | mk:∀a:Int,vs=[.int a]->Q (.int (a % 1000000000)) H->M7 vs H Q E
theorem Jd (T:Txt w K mg t):FO P w K mg base 1 t.Qe ["number"] (M7):=by
 have sc:=T.CZ.sc ["number"]
 refine T.CZ.F.ok sc ln (fun _ _ _ _ H vs Q E hr h=>?_)
 obtain⟨a,rfl,k⟩:=h
 refine⟨_,(aA (aN (aX bW (pv 0) (jw (by rfl) T.J9)))),?_⟩
 exact⟨_,rfl,_,_,rfl,rfl,by show(0:Int) <1000000000;decide,k⟩
inductive uF (K:PySem.W.Frag) (t:jN) (vs:List V) (H:Hp) (Q:VK) (E:XK):Prop where
 | mk:∀i,i≠9->oR K t i vs H Q E->uF K t vs H Q E
theorem dw (T:Txt w K mg t):FO P w K mg base 1 t.cP ["self", "heads"] (uF K t):=by
 have sc:=T.bF.sc ["self", "heads"]
 refine T.bF.F.ok sc ln (fun _ _ _ _ H vs Q E hr h=>?_)
 obtain⟨i,hi,p,a,nm,ns,is,os,hs,rfl,hP,hI,hS,hH,k⟩:=h
 refine⟨_,(aA (aN (dg (wX rfl) (by rfl) T.pB j0 (aa (dg Bg (by rfl) T.lF Kl (aa (bf bN (by rfl) T.dX cH (aa (bh (pv 0) rfl) ak bJ)) ak aY)) ak aY)))),?_⟩
 obtain⟨dx,tn,ti,to,hp,h2,h3,h4⟩:=id hP.ex
 have h3':=vV i
 refine⟨_,rfl,p,cls t i,dx,_,.ref ti,rfl,hp,ir T i,xn T i,rG _ _ _ _,.ref ti,is.length,rfl,.inr ⟨is,h3,rfl⟩,_,rfl,fun r hr=>⟨r,is.length,rfl,az,by omega,fun l hl=>?_⟩⟩
 have e:(places i hs).map nV=Sh is.length:=by
  unfold places Sh
  rw [if_neg hi,hH.1,hI]
  rfl
 refine k _ l ((aB hr).trans (aB hl)) ((aB hr).free hl) ?_
 rw [e]
 exact az
theorem zA (T:Txt w K mg t):FO P w K mg base 1 t.mZ ["self", "heads"] (oR K t 9):=by
 have sc:=T.jD.sc ["self", "heads"]
 refine T.jD.F.ok sc ln (fun _ _ _ _ H vs Q E hr h=>?_)
 obtain⟨p,a,nm,ns,is,os,hs,rfl,hP,hI,hS,hH,k⟩:=h
 refine⟨_,(au (bR (il (uM (aR aO (pv 1) aq (fun _ _=>rfl))))
   (aA (aN (bw (aa aq ak ao))))
   aZ)
  (aA (aN (bw (aa aq (aa (aX dh aq (aX bW (aR aO (pv 1) aq (fun _ _=>rfl)) aq)) ak bO) ao))))),?_⟩
 have hl:sizeLine=16777216:=sizeLine_eq
 have hlen:hs.length=3:=hH.1
 match hs,hlen,hH with
 | h0:: r,hlen,hH=>
  have ea:Es (h0:: r) 0=some h0:=aK (xs:=h0:: r) (j:=0) rfl
  rcases hH.2 h0 List.mem_cons_self with e | ⟨n,e⟩
  ·subst e
   refine⟨_,rfl,a,_,0,_,rfl,rfl,hS,ea,_,rfl,kW rfl ?_⟩
   exact⟨jl,fun L hL=>k _ L (aB hL) hL az⟩
  ·subst e
   refine⟨_,rfl,a,_,0,_,rfl,rfl,hS,ea,_,rfl,bY (by intro z;cases z) ?_⟩
   refine⟨_,rfl,a,_,0,_,rfl,rfl,hS,ea,_,_,rfl,rfl,by show(0:Int) <2;decide,_,_,rfl,rfl,jl,fun L hL=>k _ L (aB hL) hL ?_⟩
   have h0:=Int.emod_nonneg n (show(2:Int)≠0 by decide)
   have e1:(1:Int)+n % 2=((1+(n % 2).toNat:Nat):Int):=by omega
   rw [az]
   show some (HO.lst [.int 0,.int (1+n % 2)])=some (HO.lst [.int ((0:Nat):Int),.int ((1+(n % 2).toNat:Nat):Int)])
   rw [e1]
   rfl
theorem Fv (T:Txt w K mg t) (i:Nat):MethAt P w K mg base CP 1 (cls t i) "taking" (oR K t i):=match i with
 | 0=>⟨_,_,_,T.iH.c,(T.bF.me T.iH.me.2.2.1),T.bF.b,(dw T).imp fun _ _ _ _ h=>⟨_,by omega,h⟩⟩
 | 1=>⟨_,_,_,T.iD.c,(T.bF.me T.iD.me.2.2.1),T.bF.b,(dw T).imp fun _ _ _ _ h=>⟨_,by omega,h⟩⟩
 | 2=>⟨_,_,_,T.iV.c,(T.bF.me T.iV.me.2.2.1),T.bF.b,(dw T).imp fun _ _ _ _ h=>⟨_,by omega,h⟩⟩
 | 3=>⟨_,_,_,T.iG.c,(T.bF.me T.iG.me.2.2.1),T.bF.b,(dw T).imp fun _ _ _ _ h=>⟨_,by omega,h⟩⟩
 | 4=>⟨_,_,_,T.iY.c,(T.bF.me T.iY.me.2.2.1),T.bF.b,(dw T).imp fun _ _ _ _ h=>⟨_,by omega,h⟩⟩
 | 5=>⟨_,_,_,T.iI.c,(T.bF.me T.iI.me.2.2.1),T.bF.b,(dw T).imp fun _ _ _ _ h=>⟨_,by omega,h⟩⟩
 | 6=>⟨_,_,_,T.mC.c,(T.bF.me T.mC.me.2.2.1),T.bF.b,(dw T).imp fun _ _ _ _ h=>⟨_,by omega,h⟩⟩
 | 7=>⟨_,_,_,T.iW.c,(T.bF.me T.iW.me.2.2.1),T.bF.b,(dw T).imp fun _ _ _ _ h=>⟨_,by omega,h⟩⟩
 | 8=>⟨_,_,_,T.fK.c,(T.bF.me T.fK.me.2.2.1),T.bF.b,(dw T).imp fun _ _ _ _ h=>⟨_,by omega,h⟩⟩
 | 9=>⟨_,_,_,T.d8.c,(T.jD.me T.d8.me.2.2.1),T.jD.b,zA T⟩
 | n+10=>⟨_,_,_,T.fO.c,(T.bF.me T.fO.me.2.2.1),T.bF.b,(dw T).imp fun _ _ _ _ h=>⟨_,by omega,h⟩⟩
inductive vY (K:PySem.W.Frag) (t:jN) (vs:List V) (H:Hp) (Q:VK) (E:XK):Prop where
 | mk:∀i,yD K t i vs H Q E->vY K t vs H Q E
theorem du (T:Txt w K mg t):FO P w K mg base 2 t.cT ["self", "heads"] (vY K t):=by
 have sc:=T.bH.sc ["self", "heads", "place"]
 refine T.bH.F.ok sc ln (fun _ _ _ _ H vs Q E hr h=>?_)
 obtain⟨i,p,a,nm,ns,is,os,hs,rfl,hP,hI,hS,hH,k⟩:=h
 refine⟨_,(au (dD PassesOwn.never rfl (b8 (zc (CX:=CP) (k:=1) (E:=E0) (pv 0) (hr.mono (by decide)) iy (aa (pv 1) ak aj))) (gN sc 2)
   (aA (bR (il (uM (aR aO (pv 1) (pv 2) (fun _ _=>rfl))))
    (aA (aN (pv 2)))
    aZ)))
  (aA (aN qx))),?_⟩
 obtain⟨dx,tn,ti,to,hp,h2,h3,h4⟩:=id hP.ex
 refine⟨_,rfl,p,cls t i,dx,_,oR K t i,rfl,hp,vH _ _ _ _ (by decide +kernel) (by decide +kernel) (by decide +kernel) (by decide +kernel),Fv T i,_,rfl,p,a,nm,ns,is,os,hs,rfl,hP,hI,hS,hH,fun H1 L s1 nL eL=>⟨L,rfl,⟨_,bI.of eL⟩,?_⟩⟩
 refine cU (K:=K) (a:=L) (xs:=(places i hs).map nV) (fun j σ H2=>H2=H1/\∃v,σ=[some (.ref p),some (.ref a),v]/\∀q∈(places i hs).take j,j6 hs q=false)
  ⟨rfl,none,rfl,by simp⟩ (fun j σ H2 _ ⟨e,_⟩=>by rw [e];exact bI.of eL) ?_ ?_
 ·rintro j x σ H2 hx ⟨rfl,v,rfl,hno⟩
  rw [List.getElem?_map] at hx
  obtain⟨q,hq,rfl⟩:=Option.map_eq_some_iff.mp hx
  have hlt:=f9 hH q (List.mem_of_getElem? hq)
  obtain⟨hv,ev⟩:∃hv,hs[q]?=some hv:=⟨hs[q],List.getElem?_eq_getElem hlt⟩
  refine⟨_,rfl,_,rfl,a,hs,_,hv,rfl,rfl,s1.seq hS,aK ev,_,rfl,jy (fun hn=>?_) (fun hn=>?_)⟩
  ·have hn':hv=.non:=of_decide_eq_true hn
   refine⟨_,rfl,?_⟩
   have:=k H2 s1
   unfold Nh at this
   rw [Nf hq hno (by unfold j6;rw [ev,hn'];simp)] at this
   exact this
  ·have hn':¬hv=.non:=fun z=>hn (decide_eq_true z)
   refine⟨rfl,_,rfl,fun y hy=>?_⟩
   rw [List.take_add_one,hq] at hy
   rcases List.mem_append.mp hy with hy | hy
   ·exact hno y hy
   ·have e:y=q:=by simpa using hy
    subst e
    unfold j6
    rw [ev]
    simpa using hn'
 ·rintro σ H2 ⟨rfl,v,rfl,hno⟩
  have:=k H2 s1
  unfold Nh at this
  rw [lM,List.take_of_length_le (Nat.le_refl _)] at hno
  rw [S8 hno] at this
  exact this
inductive wB (K:PySem.W.Frag) (t:jN) (vs:List V) (H:Hp) (Q:VK) (E:XK):Prop where
 | mk:∀i,i≠5->uh K t i vs H Q E->wB K t vs H Q E
theorem dM (T:Txt w K mg t):FO P w K mg base 1 t.dB ["self"] (wB K t):=by
 have sc:=T.bM.sc ["self"]
 refine T.bM.F.ok sc ln (fun _ _ _ _ H vs Q E hr h=>?_)
 obtain⟨i,hi,p,nm,ns,is,os,rfl,hP,hn,k⟩:=h
 refine⟨_,(aA (aN aq)),?_⟩
 unfold G7 at k
 rw [if_neg hi] at k
 exact k
theorem Fl (T:Txt w K mg t):FO P w K mg base 1 t.sY ["self"] (uh K t 5):=by
 have sc:=T.nW.sc ["self"]
 refine T.nW.F.ok sc ln (fun _ _ _ _ H vs Q E hr h=>?_)
 obtain⟨p,nm,ns,is,os,rfl,hP,hn,k⟩:=h
 refine⟨_,(aA (aN (aR Lq (bh (pv 0) rfl) aq (fun _ _=>rfl)))),?_⟩
 obtain⟨dx,tn,ti,to,hp,h2,h3,h4⟩:=id hP.ex
 match ns,hn with
 | v:: r,hn=>
  exact⟨_,rfl,p,cls t 5,dx,_,.ref tn,rfl,hp,ir T 5,sJ T 5,rR _ _ _ _,.inr (.inl ⟨tn,_,0,v,rfl,rfl,h2,aK (xs:=v:: r) (j:=0) rfl,k⟩)⟩
theorem Em (T:Txt w K mg t):FO P w K mg base 1 t.qM ["self", "values", "kept"] (eG K t 2):=by
 have sc:=T.lL.sc ["self", "values", "kept"]
 refine T.lL.F.ok sc ln (fun _ _ _ _ H vs Q E hr h=>?_)
 obtain⟨p,a,nm,ns,is,os,ws,kp,rfl,hP,ln,hS,lw,hB,k⟩:=h
 refine⟨_,(aA (aN (bU (aa (bw (aa (bU (aa aq (aa (aR aO (pv 1) aq (fun _ _=>rfl)) ak aD) ao)) ak bQ)) (aa (pv 2) ak aj) aV)))),?_⟩
 obtain⟨dx,tn,ti,to,hp,h2,h3,h4⟩:=id hP.ex
 match ws,lw with
 | [v],_=>
  have fin:∀H' L rs,aM H H'->H L=none->H' L=some (.lst (rs.map V.ref))->gB H' rs (BK (cz 2 ns [v] kp))->∀U,H' U=none->Q (.ref U) (upd H' U (.tup [.ref L,.int (d9 2 [v] kp)])):=Du k
  exact⟨_,rfl,a,_,0,_,rfl,rfl,hS,rfl,bT,fun t0 n0=>⟨one_le,fun L nL=>⟨_,rfl,bT,fun U nU=>rC (Q:=fun x H'=>∀U,H' U=none->Q (.ref U) (upd H' U (.tup [x,.int (d9 2 [v] kp)]))) rfl rfl fin n0 nL U nU⟩⟩⟩
theorem Cd (T:Txt w K mg t):FO P w K mg base 1 t.qK ["self", "values", "kept"] (eG K t 3):=by
 have sc:=T.lJ.sc ["self", "values", "kept"]
 refine T.lJ.F.ok sc ln (fun _ _ _ _ H vs Q E hr h=>?_)
 obtain⟨p,a,nm,ns,is,os,ws,kp,rfl,hP,ln,hS,lw,hB,k⟩:=h
 refine⟨_,(aA (aN (bU (aa (bw (aa (bU (aa aq (aa (aR aO (pv 1) aq (fun _ _=>rfl)) ak aD) ao)) (aa (bU (aa aq (aa (aR aO (pv 1) aq (fun _ _=>rfl)) ak aD) ao)) ak bQ) bQ)) (aa (pv 2) ak aj) aV)))),?_⟩
 obtain⟨dx,tn,ti,to,hp,h2,h3,h4⟩:=id hP.ex
 match ws,lw with
 | [v],_=>
  have fin:∀H' L rs,aM H H'->H L=none->H' L=some (.lst (rs.map V.ref))->gB H' rs (BK (cz 3 ns [v] kp))->∀U,H' U=none->Q (.ref U) (upd H' U (.tup [.ref L,.int (d9 3 [v] kp)])):=Du k
  exact⟨_,rfl,a,_,0,_,rfl,rfl,hS,rfl,bT,fun t0 n0=>⟨_,rfl,a,_,0,_,rfl,rfl,((aB n0).seq hS),rfl,bT,fun t1 n1=>⟨bT,fun L nL=>⟨_,rfl,bT,fun U nU=>RV (Q:=fun x H'=>∀U,H' U=none->Q (.ref U) (upd H' U (.tup [x,.int (d9 3 [v] kp)]))) rfl rfl rfl rfl fin n0 n1 nL U nU⟩⟩⟩⟩
theorem BX (T:Txt w K mg t):FO P w K mg base 2 t.qR ["self", "values", "kept"] (eG K t 4):=by
 have sc:=T.lG.sc ["self", "values", "kept"]
 refine T.lG.F.ok sc ln (fun _ _ _ _ H vs Q E hr h=>?_)
 obtain⟨p,a,nm,ns,is,os,ws,kp,rfl,hP,ln,hS,lw,hB,k⟩:=h
 refine⟨_,(aA (aN (bU (aa (bw (aa (bU (aa aq (aa (dZ (Jd T) T.CZ hr (aa (aX dh (aX jO (aR Lq (bh (pv 0) rfl) aq (fun _ _=>rfl)) (aR aO (pv 1) aq (fun _ _=>rfl))) (aR Lq (bh (pv 0) rfl) aq (fun _ _=>rfl))) ak bO)) ak aY) ao)) ak bQ)) (aa (pv 2) ak aj) aV)))),?_⟩
 obtain⟨dx,tn,ti,to,hp,h2,h3,h4⟩:=id hP.ex
 match ws,lw,ns,ln with
 | [v],_,[m,m1],_=>
  have fin:∀H' L rs,aM H H'->H L=none->H' L=some (.lst (rs.map V.ref))->gB H' rs (BK (cz 4 [m,m1] [v] kp))->∀U,H' U=none->Q (.ref U) (upd H' U (.tup [.ref L,.int (d9 4 [v] kp)])):=Du k
  exact⟨_,rfl,p,cls t 4,dx,_,.ref tn,rfl,hp,ir T 4,sJ T 4,rR _ _ _ _,.inr (.inl ⟨tn,_,0,_,rfl,rfl,h2,rfl,_,rfl,a,_,0,_,rfl,rfl,hS,rfl,_,_,rfl,rfl,Yr hB (by simp),_,rfl,p,cls t 4,dx,_,.ref tn,rfl,hp,ir T 4,sJ T 4,rR _ _ _ _,.inr (.inl ⟨tn,_,1,_,rfl,rfl,h2,rfl,_,_,rfl,rfl,_,rfl,bT,fun t0 n0=>⟨one_le,fun L nL=>⟨_,rfl,bT,fun U nU=>rC (Q:=fun x H'=>∀U,H' U=none->Q (.ref U) (upd H' U (.tup [x,.int (d9 4 [v] kp)]))) rfl rfl fin n0 nL U nU⟩⟩⟩)⟩)⟩
theorem Dm (T:Txt w K mg t):FO P w K mg base 2 t.qL ["self", "values", "kept"] (eG K t 5):=by
 have sc:=T.lH.sc ["self", "values", "kept", "together"]
 refine T.lH.F.ok sc ln (fun _ _ _ _ H vs Q E hr h=>?_)
 obtain⟨p,a,nm,ns,is,os,ws,kp,rfl,hP,ln,hS,lw,hB,k⟩:=h
 refine⟨_,(au (sN sc 3 (dZ (Jd T) T.CZ hr (aa (aX dh (pv 2) (aR aO (pv 1) aq (fun _ _=>rfl))) ak bO)))
  (aA (aN (bU (aa (bw (aa (bU (aa aq (aa (pv 3) ak aj) ao)) ak bQ)) (aa (pv 3) ak aj) aV))))),?_⟩
 obtain⟨dx,tn,ti,to,hp,h2,h3,h4⟩:=id hP.ex
 match ws,lw with
 | [v],_=>
  have fin:∀H' L rs,aM H H'->H L=none->H' L=some (.lst (rs.map V.ref))->gB H' rs (BK (cz 5 ns [v] kp))->∀U,H' U=none->Q (.ref U) (upd H' U (.tup [.ref L,.int (d9 5 [v] kp)])):=Du k
  exact⟨_,rfl,_,rfl,a,_,0,_,rfl,rfl,hS,rfl,_,_,rfl,rfl,_,rfl,_,rfl,bT,fun t0 n0=>⟨one_le,fun L nL=>⟨_,rfl,bT,fun U nU=>rC (Q:=fun x H'=>∀U,H' U=none->Q (.ref U) (upd H' U (.tup [x,.int (d9 5 [v] kp)]))) rfl rfl fin n0 nL U nU⟩⟩⟩
theorem Fo (T:Txt w K mg t):FO P w K mg base 2 t.sW ["self", "values", "kept"] (eG K t 6):=by
 have sc:=T.nZ.sc ["self", "values", "kept"]
 refine T.nZ.F.ok sc ln (fun _ _ _ _ H vs Q E hr h=>?_)
 obtain⟨p,a,nm,ns,is,os,ws,kp,rfl,hP,ln,hS,lw,hB,k⟩:=h
 refine⟨_,(aA (aN (bU (aa (bw (aa (bU (aa aq (aa (dZ (Jd T) T.CZ hr (aa (aX dh (aR aO (pv 1) aq (fun _ _=>rfl)) (aR aO (pv 1) aq (fun _ _=>rfl))) ak bO)) ak aY) ao)) ak bQ)) (aa (pv 2) ak aj) aV)))),?_⟩
 obtain⟨dx,tn,ti,to,hp,h2,h3,h4⟩:=id hP.ex
 match ws,lw with
 | [v,v1],_=>
  have fin:∀H' L rs,aM H H'->H L=none->H' L=some (.lst (rs.map V.ref))->gB H' rs (BK (cz 6 ns [v,v1] kp))->∀U,H' U=none->Q (.ref U) (upd H' U (.tup [.ref L,.int (d9 6 [v,v1] kp)])):=Du k
  exact⟨_,rfl,a,_,0,_,rfl,rfl,hS,rfl,_,rfl,a,_,1,_,rfl,rfl,hS,rfl,_,_,rfl,rfl,_,rfl,bT,fun t0 n0=>⟨one_le,fun L nL=>⟨_,rfl,bT,fun U nU=>rC (Q:=fun x H'=>∀U,H' U=none->Q (.ref U) (upd H' U (.tup [x,.int (d9 6 [v,v1] kp)]))) rfl rfl fin n0 nL U nU⟩⟩⟩
theorem BZ (T:Txt w K mg t):FO P w K mg base 1 t.qC ["self", "values", "kept"] (eG K t 7):=by
 have sc:=T.lC.sc ["self", "values", "kept"]
 refine T.lC.F.ok sc ln (fun _ _ _ _ H vs Q E hr h=>?_)
 obtain⟨p,a,nm,ns,is,os,ws,kp,rfl,hP,ln,hS,lw,hB,k⟩:=h
 refine⟨_,(aA (aN (bU (aa (bw (aa (bU (aa aq (aa (ue (aW tK (aR aO (pv 1) aq (fun _ _=>rfl)) (aR aO (pv 1) aq (fun _ _=>rfl)) (bC _)) aq aq) ak KZ) ao)) ak bQ)) (aa (pv 2) ak aj) aV)))),?_⟩
 obtain⟨dx,tn,ti,to,hp,h2,h3,h4⟩:=id hP.ex
 match ws,lw with
 | [v,v1],_=>
  have fin:∀H' L rs,aM H H'->H L=none->H' L=some (.lst (rs.map V.ref))->gB H' rs (BK (cz 7 ns [v,v1] kp))->∀U,H' U=none->Q (.ref U) (upd H' U (.tup [.ref L,.int (d9 7 [v,v1] kp)])):=Du k
  refine⟨_,rfl,a,_,0,_,rfl,rfl,hS,rfl,_,rfl,a,_,1,_,rfl,rfl,hS,rfl,_,_,rfl,rfl,_,rfl,jy (fun h=>?_) (fun h=>?_)⟩
  ·have h':v <v1:=of_decide_eq_true h
   exact⟨bT,fun t0 n0=>⟨one_le,fun L nL=>⟨_,rfl,bT,fun U nU=>rC (Q:=fun x H'=>∀U,H' U=none->Q (.ref U) (upd H' U (.tup [x,.int (d9 7 [v,v1] kp)]))) rfl (by show(1:Int)=if v <v1 then 1 else 0;rw [if_pos h']) fin n0 nL U nU⟩⟩⟩
  ·have h':¬v <v1:=fun z=>h (decide_eq_true z)
   exact⟨bT,fun t0 n0=>⟨one_le,fun L nL=>⟨_,rfl,bT,fun U nU=>rC (Q:=fun x H'=>∀U,H' U=none->Q (.ref U) (upd H' U (.tup [x,.int (d9 7 [v,v1] kp)]))) rfl (by show(0:Int)=if v <v1 then 1 else 0;rw [if_neg h']) fin n0 nL U nU⟩⟩⟩
theorem Br (T:Txt w K mg t):FO P w K mg base 1 t.o9 ["self", "values", "kept"] (eG K t 8):=by
 have sc:=T.jQ.sc ["self", "values", "kept"]
 refine T.jQ.F.ok sc ln (fun _ _ _ _ H vs Q E hr h=>?_)
 obtain⟨p,a,nm,ns,is,os,ws,kp,rfl,hP,ln,hS,lw,hB,k⟩:=h
 refine⟨_,(aA (aN (bU (aa (bw (aa (bU (aa aq (aa (bf (O5 rfl) (by rfl) T.UG Q5 (aa (pv 1) ak aj)) ak aY) ao)) (aa (bU (aa aq (aa (bf (Ow rfl) (by rfl) T.JX Ej (aa (pv 1) ak aj)) ak aY) ao)) ak bQ) bQ)) (aa (pv 2) ak aj) aV)))),?_⟩
 obtain⟨dx,tn,ti,to,hp,h2,h3,h4⟩:=id hP.ex
 match ws,lw with
 | [v,v1],_=>
  have fin:∀H' L rs,aM H H'->H L=none->H' L=some (.lst (rs.map V.ref))->gB H' rs (BK (cz 8 ns [v,v1] kp))->∀U,H' U=none->Q (.ref U) (upd H' U (.tup [.ref L,.int (d9 8 [v,v1] kp)])):=Du k
  exact⟨_,rfl,a,v,v1,rfl,hS,bT,fun t0 n0=>⟨_,rfl,a,v,v1,rfl,(aB n0).seq hS,bT,fun t1 n1=>⟨bT,fun L nL=>⟨_,rfl,bT,fun U nU=>RV (Q:=fun x H'=>∀U,H' U=none->Q (.ref U) (upd H' U (.tup [x,.int (d9 8 [v,v1] kp)]))) rfl rfl rfl rfl fin n0 n1 nL U nU⟩⟩⟩⟩
theorem zT (T:Txt w K mg t):FO P w K mg base 1 t.mV ["self", "values", "kept"] (eG K t 9):=by
 have sc:=T.jF.sc ["self", "values", "kept"]
 refine T.jF.F.ok sc ln (fun _ _ _ _ H vs Q E hr h=>?_)
 obtain⟨p,a,nm,ns,is,os,ws,kp,rfl,hP,ln,hS,lw,hB,k⟩:=h
 refine⟨_,(aA (aN (bU (aa (bw (aa (bU (aa aq (aa (aR aO (pv 1) aq (fun _ _=>rfl)) ak aD) ao)) ak bQ)) (aa (pv 2) ak aj) aV)))),?_⟩
 obtain⟨dx,tn,ti,to,hp,h2,h3,h4⟩:=id hP.ex
 match ws,lw with
 | [v,v1],_=>
  have fin:∀H' L rs,aM H H'->H L=none->H' L=some (.lst (rs.map V.ref))->gB H' rs (BK (cz 9 ns [v,v1] kp))->∀U,H' U=none->Q (.ref U) (upd H' U (.tup [.ref L,.int (d9 9 [v,v1] kp)])):=Du k
  exact⟨_,rfl,a,_,1,_,rfl,rfl,hS,rfl,bT,fun t0 n0=>⟨one_le,fun L nL=>⟨_,rfl,bT,fun U nU=>rC (Q:=fun x H'=>∀U,H' U=none->Q (.ref U) (upd H' U (.tup [x,.int (d9 9 [v,v1] kp)]))) rfl rfl fin n0 nL U nU⟩⟩⟩
theorem Bp (T:Txt w K mg t):FO P w K mg base 1 t.pH ["self", "values", "kept"] (eG K t 10):=by
 have sc:=T.jW.sc ["self", "values", "kept"]
 refine T.jW.F.ok sc ln (fun _ _ _ _ H vs Q E hr h=>?_)
 obtain⟨p,a,nm,ns,is,os,ws,kp,rfl,hP,ln,hS,lw,hB,k⟩:=h
 refine⟨_,(aA (aN (bU (aa (bw (aa (bU (aa (aX bW (aR aO (pv 1) aq (fun _ _=>rfl)) aq) (aa (aR aO (pv 1) aq (fun _ _=>rfl)) ak aD) bO)) ak bQ)) (aa (pv 2) ak aj) aV)))),?_⟩
 obtain⟨dx,tn,ti,to,hp,h2,h3,h4⟩:=id hP.ex
 match ws,lw with
 | [v,v1],_=>
  have fin:∀H' L rs,aM H H'->H L=none->H' L=some (.lst (rs.map V.ref))->gB H' rs (BK (cz 10 ns [v,v1] kp))->∀U,H' U=none->Q (.ref U) (upd H' U (.tup [.ref L,.int (d9 10 [v,v1] kp)])):=Du k
  exact⟨_,rfl,a,_,0,_,rfl,rfl,hS,rfl,_,_,rfl,rfl,by show(0:Int) <2;decide,_,rfl,a,_,1,_,rfl,rfl,hS,rfl,bT,fun t0 n0=>⟨one_le,fun L nL=>⟨_,rfl,bT,fun U nU=>rC (Q:=fun x H'=>∀U,H' U=none->Q (.ref U) (upd H' U (.tup [x,.int (d9 10 [v,v1] kp)]))) rfl rfl fin n0 nL U nU⟩⟩⟩
theorem Cm (T:Txt w K mg t):FO P w K mg base 1 t.qT ["self", "values", "kept"] (eG K t 0):=by
 have sc:=T.lV.sc ["self", "values", "kept"]
 refine T.lV.F.ok sc ln (fun _ _ _ _ H vs Q E hr h=>?_)
 obtain⟨p,a,nm,ns,is,os,ws,kp,rfl,hP,ln,hS,lw,hB,k⟩:=h
 refine⟨_,(aA (aN (bU (aa (bw (aa (bU (aa aq (aa (aR aO (pv 1) aq (fun _ _=>rfl)) ak aD) ao)) ak bQ)) (aa (pv 2) ak aj) aV)))),?_⟩
 obtain⟨dx,tn,ti,to,hp,h2,h3,h4⟩:=id hP.ex
 match ws,lw with
 | [v],_=>
  have fin:∀H' L rs,aM H H'->H L=none->H' L=some (.lst (rs.map V.ref))->gB H' rs (BK (cz 0 ns [v] kp))->∀U,H' U=none->Q (.ref U) (upd H' U (.tup [.ref L,.int (d9 0 [v] kp)])):=Du k
  exact⟨_,rfl,a,_,0,_,rfl,rfl,hS,rfl,bT,fun t0 n0=>⟨one_le,fun L nL=>⟨_,rfl,bT,fun U nU=>rC (Q:=fun x H'=>∀U,H' U=none->Q (.ref U) (upd H' U (.tup [x,.int (d9 0 [v] kp)]))) rfl rfl fin n0 nL U nU⟩⟩⟩
theorem Dj (T:Txt w K mg t):FO P w K mg base 1 t.qQ ["self", "values", "kept"] (eG K t 1):=by
 have sc:=T.lO.sc ["self", "values", "kept"]
 refine T.lO.F.ok sc ln (fun _ _ _ _ H vs Q E hr h=>?_)
 obtain⟨p,a,nm,ns,is,os,ws,kp,rfl,hP,ln,hS,lw,hB,k⟩:=h
 refine⟨_,(aA (aN (bU (aa (bw ak) (aa (pv 2) ak aj) aV)))),?_⟩
 obtain⟨dx,tn,ti,to,hp,h2,h3,h4⟩:=id hP.ex
 match ws,lw with
 | [v],_=>
  have fin:∀H' L rs,aM H H'->H L=none->H' L=some (.lst (rs.map V.ref))->gB H' rs (BK (cz 1 ns [v] kp))->∀U,H' U=none->Q (.ref U) (upd H' U (.tup [.ref L,.int (d9 1 [v] kp)])):=Du k
  exact⟨by show 0<=sizeLine;decide,fun L nL=>⟨_,rfl,bT,fun U nU=>fin _ L [] (aB nL) nL az .nil U nU⟩⟩
inductive zZ (vs:List V) (H:Hp) (Q:VK) (E:XK):Prop where
 | mk:∀a b:Int,vs=[.int a,.int b]->Q (.int (cD a b)) H->zZ vs H Q E
theorem bx (T:Txt w K mg t):FO P w K mg base 1 t.Cz ["_law_cell_here", "_law_k"] (zZ):=by
 have sc:=T.bA.sc ["_law_cell_here", "_law_k", "_law_number"]
 refine T.bA.F.ok sc ln (fun _ _ _ _ H vs Q E hr h=>?_)
 obtain⟨a,b,rfl,k⟩:=h
 refine⟨_,(au (sN sc 2 (aX bW (aX dh (aX dh (aX jO (aX bW (pv 0) aq) aq) (aX jO aq (pv 1))) aq) aq))
  (au (sN sc 2 (aX bW (aX jO (pv 2) (pv 2)) aq))
  (aA (aN (aX bW (aX jO (aX dh (pv 2) (aX jO aq (pv 1))) (pv 2)) aq))))),?_⟩
 refine⟨_,rfl,_,_,rfl,rfl,by show(0:Int) <2147483647;decide,_,_,rfl,rfl,Hf,_,rfl,_,_,rfl,rfl,jG,_,_,rfl,rfl,_,_,rfl,rfl,_,_,rfl,rfl,by show(0:Int) <2147483647;decide,?_⟩
 unfold cD at k
 have y0:0<=(a % 2147483647 * 48271+7919 * b+11) % 2147483647:=Int.emod_nonneg _ (by decide)
 have y1:(a % 2147483647 * 48271+7919 * b+11) % 2147483647 <2147483647:=Int.emod_lt_of_pos _ (by decide)
 refine⟨_,rfl,_,rfl,_,_,rfl,rfl,.of_right (intBits_le_64 (Int.lt_of_lt_of_le (show -(2 ^ 64) <(0:Int) by decide) y0) (Int.lt_trans y1 (by decide))),_,_,rfl,rfl,by show(0:Int) <2147483629;decide,?_⟩
 have z0:0<=((a % 2147483647 * 48271+7919 * b+11) % 2147483647) * ((a % 2147483647 * 48271+7919 * b+11) % 2147483647) % 2147483629:=Int.emod_nonneg _ (by decide)
 have z1:((a % 2147483647 * 48271+7919 * b+11) % 2147483647) * ((a % 2147483647 * 48271+7919 * b+11) % 2147483647) % 2147483629 <2147483629:=Int.emod_lt_of_pos _ (by decide)
 exact⟨_,rfl,_,rfl,_,_,rfl,rfl,jG,_,_,rfl,rfl,_,rfl,_,_,rfl,rfl,.of_right (intBits_le_64 (Int.lt_of_lt_of_le (show -(2 ^ 64) <(0:Int) by decide) z0) (Int.lt_trans z1 (by decide))),_,_,rfl,rfl,by show(0:Int) <2147483587;decide,k⟩
inductive yH (K:PySem.W.Frag) (vs:List V) (H:Hp) (Q:VK) (E:XK):Prop where
 | mk:∀(a:Addr) (ns:List Int) (j:Nat),vs=[.ref a,.int (j:Nat)]->bI K H a (ns.map V.int)->Q (.int (j8 ns j)) H->yH K vs H Q E
theorem gP (T:Txt w K mg t):FO P w K mg base 1 t.Bd ["_law_script", "_law_k"] (yH K):=by
 have sc:=T.fP.sc ["_law_script", "_law_k"]
 refine T.fP.F.ok sc ln (fun _ _ _ _ H vs Q E hr h=>?_)
 obtain⟨a,ns,j,rfl,hS,k⟩:=h
 refine⟨_,(au (bR (aW tK (pv 1) (bf bN (by rfl) T.dX cH (aa (pv 0) ak aj)) (bC _))
   (aA (aN (aR aO (pv 0) (pv 1) (fun _ _=>rfl))))
   aZ)
  (aA (aN (aX dh (aX jO aq (pv 1)) aq)))),?_⟩
 unfold j8 at k
 refine⟨_,rfl,_,rfl,.ref a,ns.length,rfl,.inl ⟨_,hS,by simp⟩,_,_,rfl,rfl,_,rfl,jy (fun h=>?_) (fun h=>?_)⟩
 ·have h':j <ns.length:=by have:=of_decide_eq_true h;omega
  rw [List.getElem?_eq_getElem h'] at k
  exact⟨_,rfl,_,rfl,a,_,j,_,rfl,rfl,hS,aK (by rw [List.getElem?_map,List.getElem?_eq_getElem h'];rfl),k⟩
 ·have h':¬j <ns.length:=fun z=>h (decide_eq_true (by omega))
  rw [List.getElem?_eq_none (by omega)] at k
  exact⟨_,rfl,_,_,rfl,rfl,jG,_,_,rfl,rfl,k⟩
inductive wY (vs:List V) (H:Hp) (Q:VK) (E:XK):Prop where
 | mk:∀a b:Int,vs=[.int a,.int b]->Q (.int (qI a b)) H->wY vs H Q E
theorem jz (T:Txt w K mg t):FO P w K mg base 2 t.xW ["_law_cell_here", "_law_k"] (wY):=by
 have sc:=T.gJ.sc ["_law_cell_here", "_law_k", "_law_number", "_law_way"]
 refine T.gJ.F.ok sc ln (fun _ _ _ _ H vs Q E hr h=>?_)
 obtain⟨a,b,rfl,k⟩:=h
 refine⟨_,(au (sN sc 2 (dZ (bx T) T.bA hr (aa (pv 0) (aa (pv 1) ak aj) aj)))
  (au (sN sc 3 (aX bW (aX J2 (pv 2) aq) aq))
  (au (bR (aW dU (pv 3) aq (bC _))
   (aA (aN (aX bW (pv 2) aq)))
   aZ)
  (au (bR (aW dU (pv 3) aq (bC _))
   (aA (aN (aX bW (pv 2) (aX xq aq aq))))
   aZ)
  (aA (aN (aX Ij (aX Ij (aX xq aq aq) aq) (aX bW (pv 2) aq)))))))),?_⟩
 refine⟨_,rfl,_,rfl,a,b,rfl,?_⟩
 unfold qI at k
 have n0:=Bf a b
 generalize cD a b=n at n0 k ⊢
 refine⟨_,rfl,_,_,rfl,rfl,U8 (by decide) (by decide),_,_,rfl,rfl,by show(0:Int) <3;decide,?_⟩
 refine⟨_,rfl,rfl,_,rfl,jy (fun h=>?_) (fun h=>?_)⟩
 ·have h':n / 7 % 3=0:=by simpa using of_decide_eq_true h
  rw [if_pos h'] at k
  exact⟨_,rfl,_,_,rfl,rfl,by show(0:Int) <5;decide,k⟩
 have h':¬n / 7 % 3=0:=fun z=>h (decide_eq_true (by show V.int (n / 7 % 3)=V.int 0;rw [z]))
 rw [if_neg h'] at k
 refine⟨_,rfl,rfl,_,rfl,jy (fun h2=>?_) (fun h2=>?_)⟩
 ·have h2':n / 7 % 3=1:=by simpa using of_decide_eq_true h2
  rw [if_pos h2'] at k
  exact⟨_,rfl,_,_,rfl,rfl,⟨by decide,by decide,by decide⟩,_,_,rfl,rfl,by show(0:Int) <10 ^ 9;decide,k⟩
 have h2':¬n / 7 % 3=1:=fun z=>h2 (decide_eq_true (by show V.int (n / 7 % 3)=V.int 1;rw [z]))
 rw [if_neg h2'] at k
 exact⟨_,_,rfl,rfl,⟨by decide,by decide,by decide⟩,_,_,rfl,rfl,_,rfl,_,_,rfl,rfl,by show(0:Int) <3;decide,_,_,rfl,rfl,k⟩
theorem Nr {x y:Str} (h:x.cps.toList=y.cps.toList):x=y:=PyProof.Rows.ext_toList h
theorem Ou {n:Int} (h0:0<=n) (h1:n <2000):n.natAbs.log2 <1920:=by
 by_cases z:n.natAbs=0
 ·rw [z]
  decide
 ·have:n.natAbs.log2 <11:=(Nat.log2_lt z).mpr (by omega)
  omega
theorem join_ones (cs:List Nat):(Txt.join Str.empty (cs.map fun c=>(⟨#[c]⟩:Str))).cps.toList=cs:=by
 unfold Txt.join
 rw [StrLaws.glued_eq_join,Cg]
 induction cs with
 | nil=>rfl
 | cons c r ih=>simpa using ih
theorem We {x:Str} {n:Nat} (h:n<=x.length):(Txt.slice x none (some (n:Int))).cps.toList=x.cps.toList.take n:=by
 have e:=beq_iff_eq.mp (PyProof.Rows.slice_closes_toL (x:=x) (j:=(n:Int)) (by omega) (by omega))
 rw [e]
 simp
theorem Qs {x:Str} {n:Nat} (h:n<=x.length):(Txt.slice x (some (n:Int)) none).cps.toList=x.cps.toList.drop n:=by
 have e:=PyProof.Rows.slice_from_eq (x:=x) (i:=(n:Int)) (b:=(x.length:Int)) (by omega) (by omega) rfl
 rw [e]
 show List.take ((x.length:Int) - n).toNat (List.drop ((n:Int)).toNat x.cps.toList)=_
 rw [Int.toNat_natCast,List.take_of_length_le (by rw [List.length_drop,oM];omega)]
inductive yq (vs:List V) (H:Hp) (Q:VK) (E:XK):Prop where
 | mk:∀(a:Int) (b:Nat),vs=[.int a,.int (b:Nat)]->b<=25->(∀H':Hp,aM H H'->Q (.str (cW a b)) H')->yq vs H Q E
noncomputable abbrev Ao:List Str:=["_law_cell_here", "_law_k", "_law_letters", "_law_many", "_law_base", "_law_at"]
theorem nQ (T:Txt w K mg t):FO P w K mg base 2 t.Bb ["_law_cell_here", "_law_k"] (yq):=by
 have sc:=T.jJ.sc Ao
 refine T.jJ.F.ok sc ln (fun _ _ _ _ H vs Q E hr h=>?_)
 obtain⟨a,b,rfl,b1,k⟩:=h
 refine⟨_,(au (sN sc 2 bK)
  (au (bR (aW dU (aX bW (dZ (bx T) T.bA hr (aa (pv 0) (aa aq ak ao) aj)) aq) aq (bC _))
   (aA (aN (aX xM (aR DW (pv 2) (aX bW (dZ (bx T) T.bA hr (aa (pv 0) (aa aq ak ao) aj)) aq) (fun _ _=>rfl)) (dg IW (by rfl) T.Vz RP (aa (aX dh (aX bW (dZ (bx T) T.bA hr (aa (pv 0) (aa aq ak ao) aj)) aq) (aX jO aq (pv 1))) ak bO)))))
   aZ)
  (au (sN sc 3 (aX bW (dZ (bx T) T.bA hr (aa (pv 0) (aa aq ak ao) aj)) aq))
  (au (sN sc 4 (Ek PySem.F.plainAttrs_str PySem.F.slot_str_join PySem.F.type_str_join Su bK (aa (iT [0,2] Ao (bc (top 66)) rfl (jH rfl T.lF (aa (pv 3) ak aj)) (fun _ _ _ _ _=>jr) (fun _ _ _ _ _=>(aR DW (pv 2) (aX bW (dZ (bx T) T.bA hr (aa (pv 1) (aa (aX dh aq (pv 0)) ak bO) aj)) aq) (fun _ _=>rfl)))) ak fU)))
  (au (sN sc 5 (aX bW (dZ (bx T) T.bA hr (aa (pv 0) (aa aq ak ao) aj)) (aX dh (pv 3) aq)))
  (aA (aN (aX xM (aX xM (iU QZ (pv 4) lN (jE (pv 5))) (aR DW (pv 2) (aX bW (aX dh (dZ (bx T) T.bA hr (aa (pv 0) (aa aq ak ao) aj)) (pv 1)) aq) (fun _ _=>rfl))) (iU QZ (pv 4) (jE (pv 5)) lN))))))))),?_⟩
 have hl:sizeLine=16777216:=sizeLine_eq
 have hF:(cW a b).cps.toList=Az a b:=Dy a b
 unfold Az at hF
 refine⟨_,rfl,_,_,rfl,⟨_,_,rfl,rfl,by show(0:Int) <3;decide,rfl,_,rfl,jy (fun hw=>?_) (fun hw=>?_)⟩⟩
 ·have hw':cD a 52 % 3=0:=by simpa using of_decide_eq_true hw
  rw [if_pos hw'] at hF
  refine⟨_,rfl,_,rfl,_,_,rfl,?_⟩
  refine⟨_,_,rfl,rfl,by show(0:Int) <26;decide,LT,_,_,rfl,rfl,by rw [Li];omega,Rf _,?_⟩
  refine⟨_,rfl,_,_,rfl,⟨_,_,rfl,rfl,by show(0:Int) <1000;decide,_,rfl,_,_,rfl,rfl,jG,_,_,rfl,rfl,?_⟩⟩
  have q0:=Int.emod_nonneg (cD a 54) (show(1000:Int)≠0 by decide)
  have q1:=Int.emod_lt_of_pos (cD a 54) (show(0:Int) <1000 by decide)
  obtain⟨m,hm⟩:∃m:Nat,cD a 54 % 1000+37 * (b:Int)=(m:Int):=⟨(cD a 54 % 1000+37 * (b:Int)).toNat,by omega⟩
  obtain⟨_,g2,_⟩:=vJ (n:=m) (by omega)
  have g3:(toString (m:Int):Str).length<=4:=by rw [<-oM];exact g2
  have e:(⟨#[JG (cD a 53)]⟩:Str) ++ (toString (m:Int):Str)=cW a b:=Nr (by
   rw [hF,Str.cps_append,hm,Int.toNat_natCast]
   simp only [Array.toList_append]
   rfl)
  have k':=k H (aM.refl _)
  rw [<-e] at k'
  dsimp only
  rw [hm]
  exact⟨_,rfl,Ou (by omega) (by omega),_,_,rfl,rfl,by show 1+_<=sizeLine;omega,k'⟩
 have hw':¬cD a 52 % 3=0:=fun z=>hw (decide_eq_true (by show V.int (cD a 52 % 3)=V.int 0;rw [z]))
 rw [if_neg hw'] at hF
 refine⟨_,rfl,_,_,rfl,⟨_,_,rfl,rfl,by show(0:Int) <7;decide,?_⟩⟩
 have z0:=Int.emod_nonneg (cD a 50) (show(7:Int)≠0 by decide)
 have z1:=Int.emod_lt_of_pos (cD a 50) (show(0:Int) <7 by decide)
 refine⟨rfl,_,rfl,cD a 50 % 7,rfl,by omega,by omega,?_⟩
 refine kZ (fun i ys H'=>H'=H/\ys=((List.range i).map fun j=>JG (cD a (60+(j:Nat)))).map fun c=>V.str ⟨#[c]⟩) (by omega) ⟨rfl,rfl⟩ (fun i ys H' ⟨_,e⟩=>by rw [e,lM,lM,List.length_range];omega) ?_ ?_
 ·rintro i ys H' hi ⟨rfl,rfl⟩
  refine yes ?_
  refine⟨_,rfl,_,rfl,_,rfl,_,_,rfl,rfl,_,_,rfl,?_⟩
  refine⟨_,_,rfl,rfl,by show(0:Int) <26;decide,LT,_,_,rfl,rfl,by rw [Li];omega,Rf _,rfl,?_⟩
  rw [List.range_succ,List.map_append,List.map_append]
  simp
 rintro ys H' ⟨rfl,rfl⟩ D hD
 have eb:((List.range (cD a 50 % 7).toNat).map fun j=>JG (cD a (60+(j:Nat))))=gH a:=rfl
 rw [eb]
 have s1:aM H' (upd H' D (.lst ((gH a).map fun c=>V.str ⟨#[c]⟩))):=aB hD
 have bl:=(DN a).1
 have es:((gH a).map fun c=>V.str ⟨#[c]⟩)=((gH a).map fun c=>(⟨#[c]⟩:Str)).map V.str:=by rw [List.map_map];rfl
 refine⟨Str.empty,D,(gH a).map fun c=>(⟨#[c]⟩:Str),rfl,rfl,bI.of (by rw [<-es];exact az),?_,?_⟩
 ·have:=Q9 (n:=1) ((gH a).map fun c=>(⟨#[c]⟩:Str)) fun w h=>by
   obtain⟨c,_,rfl⟩:=List.mem_map.mp h
   exact Nat.le_refl 1
  have he:Str.empty.length=0:=rfl
  rw [he]
  rw [lM] at this
  omega
 have ej:=join_ones (gH a)
 generalize upd H' D (.lst ((gH a).map fun c=>V.str ⟨#[c]⟩))=H1 at s1 ⊢
 generalize Txt.join Str.empty ((gH a).map fun c=>(⟨#[c]⟩:Str))=x0 at ej ⊢
 have hx0:x0.length=(gH a).length:=by rw [<-oM,ej]
 refine⟨_,rfl,_,_,rfl,⟨_,rfl,_,_,rfl,rfl,_,_,rfl,rfl,by show(0:Int) <cD a 50 % 7+1;omega,?_⟩⟩
 have hsp:=MJ a
 obtain⟨n,hn,hn2⟩:∃n:Nat,cD a 51 % (cD a 50 % 7+1)=(n:Int)/\n=qg a:=⟨qg a,(Int.toNat_of_nonneg (Int.emod_nonneg _ (by omega))).symm,rfl⟩
 rw [<-hn2] at hsp hF
 dsimp only
 rw [hn]
 have s0:=Txt.slice_le x0 none (some (n:Int))
 have s2:=Txt.slice_le x0 (some (n:Int)) none
 refine⟨_,rfl,_,rfl,_,rfl,x0,rfl,by omega,_,rfl,_,rfl,_,_,rfl,⟨_,rfl,_,_,rfl,rfl,?_⟩⟩
 have h1:(⟨#[JG (cD a 55+(b:Int))]⟩:Str).length=1:=rfl
 refine⟨_,_,rfl,rfl,by show(0:Int) <26;decide,LT,_,_,rfl,rfl,by rw [Li];omega,Rf _,_,_,rfl,rfl,by rw [h1];omega,?_⟩
 refine⟨_,rfl,_,rfl,_,rfl,x0,rfl,by omega,_,_,rfl,rfl,by rw [Str.length_append,h1];omega,?_⟩
 have e:Txt.slice x0 none (some (n:Int)) ++ (⟨#[JG (cD a 55+(b:Int))]⟩:Str) ++ Txt.slice x0 (some (n:Int)) none=cW a b:=Nr (by
  rw [hF,Str.cps_append,Str.cps_append]
  simp only [Array.toList_append]
  rw [We (by omega),Qs (by omega),ej]
  simp)
 rw [e]
 exact k H1 s1
theorem YL (m:Int):∃c:Nat,Es [V.int 0,.int 0,.int 0,.int 1,.int 2] (m % 5)=some (.int (c:Nat))/\c<=2:=by
 have key:∀j,j <5->Es [V.int 0,.int 0,.int 0,.int 1,.int 2] ((j:Nat):Int)=some (.int (([0,0,0,1,2]:List Nat).getD j 0:Nat))/\([0,0,0,1,2]:List Nat).getD j 0<=2:=by decide +kernel
 obtain⟨j,e,hj⟩:=LQ m (n:=5) (k:=5) (by decide) rfl
 rw [e]
 exact⟨_,key j hj⟩
theorem Yn (m:Int):∃c:Nat,Es [V.int 0,.int 0,.int 1,.int 1,.int 2,.int 7] (m % 6)=some (.int (c:Nat))/\c<=7:=by
 have key:∀j,j <6->Es [V.int 0,.int 0,.int 1,.int 1,.int 2,.int 7] ((j:Nat):Int)=some (.int (([0,0,1,1,2,7]:List Nat).getD j 0:Nat))/\([0,0,1,1,2,7]:List Nat).getD j 0<=7:=by decide +kernel
 obtain⟨j,e,hj⟩:=LQ m (n:=6) (k:=6) (by decide) rfl
 rw [e]
 exact⟨_,key j hj⟩
inductive xZ (vs:List V) (H:Hp) (Q:VK) (E:XK):Prop where
 | mk:∀(d:Dw) (ls:List aG) (ps:List PD) (os:List Str) (c:Int) (b:Bool),vs=[.ref d.S,.int c,.bl b]->n6 d H ls ps os->ls.length<=24->(∀(l:aG) (H':Hp),l.name=cW d.c3 ls.length->aM (bB d.E H) (bB d.E H')->n6 d H' (ls ++ [l]) ps os->Q (.str l.name) H')->xZ vs H Q E
noncomputable abbrev Af:List Str:=["_law_state", "_law_cell_here", "_law_back", "_law_many", "_law_first", "_law_room", "_law_name"]
theorem jV (T:Txt w K mg t):FO P w K mg base 3 t.Ad ["_law_state", "_law_cell_here", "_law_back"] (xZ):=by
 have sc:=T.iQ.sc Af
 refine T.iQ.F.ok sc ln (fun _ _ _ _ H vs Q E hr h=>?_)
 obtain⟨d,ls,ps,os,c,b,rfl,D,hn,k⟩:=h
 refine⟨_,(au (sN sc 3 (aR aO (bw (aa aq (aa aq (aa aq (aa aq (aa aq ak ao) ao) ao) ao) ao)) (aX bW (dZ (bx T) T.bA hr (aa (pv 1) (aa aq ak ao) aj)) aq) (fun _ _=>rfl)))
  (au (fu (bR (jo (pv 2))
   (aA (sN sc 3 (aX bW (dZ (bx T) T.bA hr (aa (pv 1) (aa aq ak ao) aj)) aq)))
   aZ))
  (au (mH (i:=4) [1] Af (bc (top 67)) rfl sc.nd rfl (jH rfl T.lF (aa (pv 3) ak aj)) (fun _ _ _ _ _=>jr) (fun _ _ _ _ _=>(dZ (jz T) T.gJ hr (aa (pv 1) (aa (aX dh aq (pv 0)) ak bO) aj))))
  (au (sN sc 5 (aX dh (bf (vp rfl) (by rfl) T.JX Ej (aa aq (aa (pv 3) ak aj) ao)) (aR aO (bw (aa aq (aa aq (aa aq (aa aq (aa aq (aa aq ak ao) ao) ao) ao) ao) ao)) (aX bW (dZ (bx T) T.bA hr (aa (pv 1) (aa aq ak ao) aj)) aq) (fun _ _=>rfl))))
  (au (sN sc 6 (dZ (nQ T) T.jJ hr (aa (aR aO (pv 0) aq (fun _ _=>rfl)) (aa (bf bN (by rfl) T.dX cH (aa (aR aO (pv 0) aq (fun _ _=>rfl)) ak aD)) ak aY) aD)))
  (au (bL (Hx (aR aO (pv 0) aq (fun _ _=>rfl)) (aa (bU (aa (pv 6) (aa (pv 5) (aa (pv 4) ak aj) aj) aj)) ak bQ)))
  (aA (aN (pv 6))))))))),?_⟩
 have hl:sizeLine=16777216:=sizeLine_eq
 refine⟨jl,fun l0 n0=>?_⟩
 have s0:=aB (o:=.lst [.int 0,.int 0,.int 0,.int 1,.int 2]) n0
 obtain⟨c0,e0,h0⟩:=YL (cD c 1)
 refine⟨_,rfl,_,_,rfl,_,_,rfl,rfl,by show(0:Int) <5;decide,l0,_,_,_,rfl,rfl,bI.of az,e0,?_⟩
 generalize upd H l0 (.lst [.int 0,.int 0,.int 0,.int 1,.int 2])=H0 at s0 ⊢
 refine⟨fun σ H1=>∃m:Nat,m<=3/\H1=H0/\σ=[some (.ref d.S),some (.int c),some (.bl b),some (.int (m:Nat)),none,none,none],?_,?_⟩
 ·cases b
  ·exact⟨_,rfl,false,rfl,dz ⟨c0,by omega,rfl,rfl⟩⟩
  ·refine⟨_,rfl,true,rfl,gj ⟨_,rfl,_,_,rfl,_,_,rfl,rfl,by show(0:Int) <4;decide,?_⟩⟩
   have h1:=Int.emod_nonneg (cD c 1) (show(4:Int)≠0 by decide)
   have h2:=Int.emod_lt_of_pos (cD c 1) (show(0:Int) <4 by decide)
   refine⟨(cD c 1 % 4).toNat,by omega,rfl,?_⟩
   rw [Int.toNat_of_nonneg h1]
   rfl
 rintro σ H1 ⟨m,hm,rfl,rfl⟩
 refine⟨_,rfl,(m:Int),rfl,by omega,by omega,?_⟩
 rw [Int.toNat_natCast]
 refine kZ (fun i ys H'=>H'=H1/\∃ws:List Int,ys=ws.map V.int/\ws.length=i/\∀v∈ws,0<=v/\v <1000000000) (by omega) ⟨rfl,[],rfl,rfl,by simp⟩ (fun i ys H' ⟨_,ws,e,e2,_⟩=>by rw [e,lM];omega) ?_ ?_
 ·rintro i ys H' hi ⟨rfl,ws,rfl,hw,hB⟩
  refine yes ⟨_,rfl,_,rfl,_,_,rfl,rfl,c,10+(0+(i:Int)),rfl,rfl,ws ++ [qI c (10+(0+(i:Int)))],by simp,by simp [hw],fun v hv=>?_⟩
  rcases List.mem_append.mp hv with hv | hv
  ·exact hB v hv
  ·rw [List.mem_singleton] at hv
   subst hv
   exact rJ _ _
 rintro ys H' ⟨rfl,ws,rfl,hw,hB⟩ F nF
 have t1:=aB (o:=.lst (ws.map V.int)) nF
 have sF:=s0.trans t1
 have eF:upd H' F (.lst (ws.map V.int)) F=some (.lst (ws.map V.int)):=az
 have oF:F∉d.E:=D.out (s0.free nF)
 generalize upd H' F (.lst (ws.map V.int))=H2 at t1 sF eF ⊢
 refine⟨_,rfl,_,_,rfl,jl,fun l1 n1=>?_⟩
 have t2:=aB (o:=.lst [.int 0,.int 0,.int 1,.int 1,.int 2,.int 7]) n1
 obtain⟨c1,e1,h1⟩:=Yn (cD c 2)
 refine⟨_,rfl,_,_,rfl,_,_,rfl,rfl,by show(0:Int) <6;decide,l1,_,_,_,rfl,rfl,bI.of az,e1,_,_,rfl,rfl,?_⟩
 have s2:=sF.trans t2
 have eF2:=t2 _ _ eF
 generalize upd H2 l1 (.lst [.int 0,.int 0,.int 1,.int 1,.int 2,.int 7])=H3 at t2 s2 eF2 ⊢
 have D3:=D.keep s2
 obtain⟨xs,eL,aL⟩:=D3.lanes
 have xl:=aL.length
 refine⟨_,rfl,d.S,_,3,_,rfl,rfl,D3.seqS,aK (j:=3) rfl,?_⟩
 refine⟨_,rfl,d.S,_,0,_,rfl,rfl,D3.seqS,aK (j:=0) rfl,.ref d.L,ls.length,rfl,.inl ⟨_,bI.of eL,xl.symm⟩,?_⟩
 refine⟨d.c3,ls.length,rfl,by omega,fun H4 s4=>?_⟩
 have D4:=D3.keep s4
 have eL4:=s4 _ _ eL
 have eF4:=s4 _ _ eF2
 have s04:=s2.trans s4
 refine⟨_,rfl,d.S,_,0,_,rfl,rfl,D4.seqS,aK (j:=0) rfl,?_⟩
 refine⟨.inl ⟨rfl,_,bI.of eL4⟩,_,rfl,_,rfl,_,rfl,jl,fun q nq=>?_⟩
 have t5:=aB (o:=.tup [.str (cW d.c3 ls.length),.int ((if (m:Int) >1 then(m:Int) else 1)+(c1:Int)),.ref F]) nq
 have s5:=s04.trans t5
 have D5:=D4.keep t5
 have oq:q∉d.E:=D4.out nq
 have eq:upd H4 q (.tup [.str (cW d.c3 ls.length),.int ((if (m:Int) >1 then(m:Int) else 1)+(c1:Int)),.ref F]) q=some (.tup [.str (cW d.c3 ls.length),.int ((if (m:Int) >1 then(m:Int) else 1)+(c1:Int)),.ref F]):=az
 have eL5:=t5 _ _ eL4
 have eF5:=t5 _ _ eF4
 refine⟨d.L,xs,_,rfl,rfl,eL5,by omega,_,rfl,?_⟩
 refine k ⟨cW d.c3 ls.length,(if (m:Int) >1 then(m:Int) else 1)+(c1:Int),ws⟩ _ rfl ?_ (D5.lane ⟨q,F,rfl,cJ eq oq,cJ eF5 oF⟩ ⟨by dsimp only;split <;> omega,by dsimp only;split <;> omega,by dsimp only;split <;> omega,hB⟩ rfl eL5)
 rw [eU (by simp)]
 exact D.cut s5
theorem pop_at:∀{os:List Str} {j:Nat} (h:j <os.length),os.Perm (os[j]:: os.eraseIdx j)
 | [],_,h=>absurd h (by simp)
 | a:: l,0,_=>.refl _
 | a:: l,j+1,h=>by
  have h':j <l.length:=by simpa using h
  show(a:: l).Perm (l[j]:: a:: l.eraseIdx j)
  exact((pop_at (os:=l) (j:=j) (by simpa using h)).cons a).trans (.swap _ _ _)
theorem FT {α β:Type} {f:α->β}:∀(l:List α) (j:Nat),(l.map f).eraseIdx j=(l.eraseIdx j).map f
 | [],_=>rfl
 | a:: l,0=>rfl
 | a:: l,j+1=>by
  show f a:: (l.map f).eraseIdx j=f a:: (l.eraseIdx j).map f
  rw [FT l j]
theorem Mi {j n:Nat} (h:j <n):seqIndex? (j:Int) n=some j:=by
 unfold seqIndex?
 have z:¬(j:Int) <0:=by omega
 simp [h,z]
inductive yE (vs:List V) (H:Hp) (Q:VK) (E:XK):Prop where
 | mk:∀(d:Dw) (ls:List aG) (ps:List PD) (os:List Str) (n:Int),vs=[.ref d.S,.int n]->n6 d H ls ps os->os≠[]->os.length<=100->(∀(x:Str) (os':List Str) (H':Hp),os.Perm (x:: os')->aM (bB d.E H) (bB d.E H')->n6 d H' ls ps os'->Q (.str x) H')->yE vs H Q E
theorem sU (T:Txt w K mg t):FO P w K mg base 1 t.Aw ["_law_state", "_law_number"] (yE):=by
 have sc:=T.mJ.sc ["_law_state", "_law_number"]
 refine T.mJ.F.ok sc ln (fun _ _ _ _ H vs Q E hr h=>?_)
 obtain⟨d,ls,ps,os,n,rfl,D,hne,hs,k⟩:=h
 refine⟨_,(aA (aN (Ek PySem.F.plainAttrs_list PySem.F.slot_list_pop PySem.F.type_list_pop Cy (aR aO (pv 0) aq (fun _ _=>rfl)) (aa (aX bW (pv 1) (bf bN (by rfl) T.dX cH (aa (aR aO (pv 0) aq (fun _ _=>rfl)) ak aD))) ak bO)))),?_⟩
 have hpos:0 <os.length:=List.length_pos_iff.mpr hne
 refine⟨_,rfl,d.S,_,2,_,rfl,rfl,D.seqS,aK (j:=2) rfl,.inl ⟨rfl,_,bI.of D.opens⟩,?_⟩
 refine⟨_,rfl,_,rfl,d.S,_,2,_,rfl,rfl,D.seqS,aK (j:=2) rfl,.ref d.O,os.length,rfl,.inl ⟨_,bI.of D.opens,by simp⟩,n,(os.length:Int),rfl,rfl,by omega,?_⟩
 have h0:=Int.emod_nonneg n (show(os.length:Int)≠0 by omega)
 have h1:=Int.emod_lt_of_pos n (show(0:Int) <(os.length:Int) by omega)
 obtain⟨j,hj⟩:∃j:Nat,n % (os.length:Int)=(j:Int):=⟨(n % (os.length:Int)).toNat,by omega⟩
 have hj':j <os.length:=by omega
 refine⟨d.O,_,(j:Int),j,.str os[j],rfl,by show [V.int (n % (os.length:Int))]=_;rw [hj],D.opens,by omega,by omega,by rw [lM];exact Mi hj',by rw [List.getElem?_map,List.getElem?_eq_getElem hj'];rfl,?_⟩
 rw [FT]
 exact k os[j] (os.eraseIdx j) _ (pop_at hj') (by rw [eU (by simp)];exact aM.refl _) D.open
inductive za (vs:List V) (H:Hp) (Q:VK) (E:XK):Prop where
 | mk:∀(d:Dw) (ls:List aG) (ps:List PD) (os:List Str) (c:Int) (i:Nat) (a1 a2:Addr) (nums:List Int) (ins:List Str) (many:Nat),vs=[.ref d.S,.int c,.str (cL i),.ref a1,.ref a2,.int (many:Nat)]->n6 d H ls ps os->bB d.E H a1=some (.lst (nums.map V.int))->bB d.E H a2=some (.lst (ins.map V.str))->i <11->nums.length=cN i->((∀v∈nums,0<=v/\v <1000000000))->ins.length=cI i->many=cO i->ls.length<=22->ps.length<=25->os.length<=100->(∀(newl:List aG) (H':Hp),newl.length=many->aM (bB d.E H) (bB d.E H')->n6 d H' (ls ++ newl) (ps ++ [⟨i,cW d.c4 ps.length,nums,ins,newl.map (·.name)⟩]) (os ++ newl.map (·.name))->Q .non H')->za vs H Q E
noncomputable abbrev Ar:List Str:=["_law_state", "_law_cell_here", "_law_kind", "_law_numbers", "_law_ins", "_law_many", "_law_outs"]
theorem cQ (T:Txt w K mg t):FO P w K mg base 4 t.Av ["_law_state", "_law_cell_here", "_law_kind", "_law_numbers", "_law_ins", "_law_many"] (za):=by
 have sc:=T.cM.sc Ar
 refine T.cM.F.ok sc ln (fun _ _ _ _ H vs Q E hr h=>?_)
 obtain⟨d,ls,ps,os,c,i,a1,a2,nums,ins,many,rfl,D,e1,e2,hi,hN,hB,hI,hO,hls,hps,hos,k⟩:=h
 refine⟨_,(au (mH (i:=6) [0,1] Ar (bc (top 68)) rfl sc.nd rfl (jH rfl T.lF (aa (pv 5) ak aj)) (fun _ _ _ _ _=>jr) (fun _ _ _ _ _=>(dZ (jV T) T.iQ hr (aa (pv 1) (aa (dZ (bx T) T.bA hr (aa (pv 2) (aa (aX dh aq (pv 0)) ak bO) aj)) (aa iu ak ao) aY) aj))))
  (au (bL (Hx (aR aO (pv 0) aq (fun _ _=>rfl)) (aa (bU (aa (pv 2) (aa (dZ (nQ T) T.jJ hr (aa (aR aO (pv 0) aq (fun _ _=>rfl)) (aa (bf bN (by rfl) T.dX cH (aa (aR aO (pv 0) aq (fun _ _=>rfl)) ak aD)) ak aY) aD)) (aa (pv 3) (aa (pv 4) (aa (pv 6) ak aj) aj) aj) aY) aj)) ak bQ)))
  (aA (bL (Ek PySem.F.plainAttrs_list PySem.F.slot_list_extend PySem.F.type_list_extend Gf (aR aO (pv 0) aq (fun _ _=>rfl)) (aa (pv 6) ak aj)))))),?_⟩
 have hl:sizeLine=16777216:=sizeLine_eq
 have hm2:many<=2:=by rw [hO];exact Rq i
 refine⟨_,rfl,(many:Int),rfl,by omega,by omega,?_⟩
 rw [Int.toNat_natCast]
 refine kZ (fun i ys H'=>∃newl:List aG,newl.length=i/\ys=newl.map (fun l=>V.str l.name)/\aM (bB d.E H) (bB d.E H')/\n6 d H' (ls ++ newl) ps os) (by omega) ⟨[],rfl,rfl,aM.refl _,by rw [List.append_nil];exact D⟩ (fun i ys H' ⟨newl,e,e2,_⟩=>by rw [e2,lM];omega) ?_ ?_
 ·rintro j ys H' hj ⟨newl,hn,rfl,s,D'⟩
  refine yes ⟨_,rfl,_,rfl,_,rfl,_,_,rfl,rfl,c,20+(0+(j:Int)),rfl,?_⟩
  refine⟨d,ls ++ newl,ps,os,_,false,rfl,D',by rw [lP];omega,fun l H1 _ s1 D1=>?_⟩
  exact⟨newl ++ [l],by simp [hn],by simp,s.trans s1,by rw [<-List.append_assoc];exact D1⟩
 rintro ys H1 ⟨newl,hn,rfl,s1,D1⟩ F nF
 have t1:=aB (o:=.lst (newl.map fun l=>V.str l.name)) nF
 have eF:upd H1 F (.lst (newl.map fun l=>V.str l.name)) F=some (.lst ((newl.map (·.name)).map V.str)):=by rw [List.map_map];exact az
 have oF:=D1.out nF
 have D2:=D1.keep t1
 have s2:=s1.trans (D1.cut t1)
 generalize upd H1 F (.lst (newl.map fun l=>V.str l.name))=H2 at t1 eF D2 s2 ⊢
 obtain⟨xs,eP,aP⟩:=D2.parts
 have xl:=aP.length
 refine⟨_,rfl,d.S,_,1,_,rfl,rfl,D2.seqS,aK (j:=1) rfl,.inl ⟨rfl,_,bI.of eP⟩,?_⟩
 refine⟨_,rfl,_,rfl,d.S,_,4,_,rfl,rfl,D2.seqS,aK (j:=4) rfl,?_⟩
 refine⟨_,rfl,d.S,_,1,_,rfl,rfl,D2.seqS,aK (j:=1) rfl,.ref d.P,ps.length,rfl,.inl ⟨_,bI.of eP,xl.symm⟩,?_⟩
 refine⟨d.c4,ps.length,rfl,by omega,fun H3 s3=>?_⟩
 have D3:=D2.keep s3
 have t3:=s2.trans (D2.cut s3)
 have eP3:=s3 _ _ eP
 have eF3:=s3 _ _ eF
 refine⟨_,rfl,_,rfl,_,rfl,jl,fun q nq=>?_⟩
 have s4:=aB (o:=.tup [.str (cL i),.str (cW d.c4 ps.length),.ref a1,.ref a2,.ref F]) nq
 have D4:=D3.keep s4
 have t4:=t3.trans (D3.cut s4)
 have eP4:=s4 _ _ eP3
 have eF4:=s4 _ _ eF3
 have oq:=D3.out nq
 have eq:upd H3 q (.tup [.str (cL i),.str (cW d.c4 ps.length),.ref a1,.ref a2,.ref F]) q=some (.tup [.str (cL i),.str (cW d.c4 ps.length),.ref a1,.ref a2,.ref F]):=az
 refine⟨d.P,xs,_,rfl,rfl,eP4,by omega,?_⟩
 generalize upd H3 q (.tup [.str (cL i),.str (cW d.c4 ps.length),.ref a1,.ref a2,.ref F])=H4 at s4 D4 t4 eP4 eF4 eq ⊢
 have D5:=D4.part (p:=⟨i,cW d.c4 ps.length,nums,ins,newl.map (·.name)⟩) ⟨q,a1,a2,F,rfl,cJ eq oq,t4 _ _ e1,t4 _ _ e2,cJ eF4 oF⟩ ⟨hi,hN,hI,by show(newl.map _).length=_;rw [lM,hn];exact hO,hB⟩ rfl eP4
 have hcu:bB d.E (upd H4 d.P (.lst (xs ++ [.ref q])))=bB d.E H4:=eU (by simp)
 have eF5:upd H4 d.P (.lst (xs ++ [.ref q])) F=some (.lst ((newl.map (·.name)).map V.str)):=by rw [aH (fun z=>oF (by rw [z];simp))];exact eF4
 generalize upd H4 d.P (.lst (xs ++ [.ref q]))=H5 at D5 hcu eF5 ⊢
 refine⟨_,rfl,d.S,_,2,_,rfl,rfl,D5.seqS,aK (j:=2) rfl,.inl ⟨rfl,_,bI.of D5.opens⟩,?_⟩
 refine⟨_,rfl,d.O,F,_,_,rfl,rfl,D5.opens,eF5,by rw [lM,lM,lM];omega,?_⟩
 rw [<-List.map_append]
 exact k newl _ hn (by rw [eU (by simp),hcu];exact t4) D5.open
theorem Vq (m:Int):∃i:Nat,Es [V.str "add",V.str "less"] (m % 2)=some (.str (cL i))/\(i=6∨i=7):=by
 have h0:=Int.emod_nonneg m (show(2:Int)≠0 by decide)
 have h1:=Int.emod_lt_of_pos m (show(0:Int) <2 by decide)
 have:m % 2=0∨m % 2=1:=by omega
 rcases this with e | e <;> rw [e]
 ·exact⟨6,rfl,.inl rfl⟩
 ·exact⟨7,rfl,.inr rfl⟩
theorem Ks {one other:Str} {os os1:List Str} (h:os.Perm (other:: os1)):(one:: os).Perm ([one,other] ++ os1):=h.cons one
theorem Xf {one other third:Str} {os os1 os2:List Str} (h:os.Perm (other:: os1)) (h2:os1.Perm (third:: os2)):(one:: os).Perm ([one,other,third] ++ os2):=(h.trans (h2.cons other)).cons one
inductive Am (vs:List V) (H:Hp) (Q:VK) (E:XK):Prop where
 | mk:∀(d:Dw) (ls:List aG) (ps:List PD) (os:List Str) (c:Int) (one:Str) (back:List Str) (odd:Bool),vs=[.ref d.S,.int c,.str one,.bl odd]->n6 d H ls ps os->Drawn.WF (uD ls ps (one:: os) back)->os≠[]->os.length<=3->ls.length<=20->ps.length<=22->(∀ls' ps' os' H',Zh d H H' ls ps back ls' ps' os'->Q .non H')->Am vs H Q E
theorem Kv (T:Txt w K mg t):FO P w K mg base 5 t.DR ["_law_state", "_law_cell_here", "_law_one", "_law_odd"] (Am):=by
 have sc:=T.xJ.sc ["_law_state", "_law_cell_here", "_law_one", "_law_odd", "_law_other", "_law_way", "_law_third"]
 refine T.xJ.F.ok sc ln (fun _ _ _ _ H vs Q E hr h=>?_)
 obtain⟨d,ls,ps,os,c,one,back,odd,rfl,D,w,hne,ho,hls,hps,k⟩:=h
 refine⟨_,(au (sN sc 4 (dZ (sU T) T.mJ hr (aa (pv 0) (aa (dZ (bx T) T.bA hr (aa (pv 1) (aa aq ak ao) aj)) ak aY) aj)))
  (au (sN sc 5 (aX bW (dZ (bx T) T.bA hr (aa (pv 1) (aa aq ak ao) aj)) aq))
  (aA (fu (bR (PW.pt (xr (jo (pv 3)) (xr (aW tK (pv 5) aq (bC _)) (vL (aW Gr (bf bN (by rfl) T.dX cH (aa (aR aO (pv 0) aq (fun _ _=>rfl)) ak aD)) aq (bC _))))))
   (au (sN sc 6 (dZ (sU T) T.mJ hr (aa (pv 0) (aa (dZ (bx T) T.bA hr (aa (pv 1) (aa aq ak ao) aj)) ak aY) aj)))
   (aA (bL (dZ (cQ T) T.cM hr (aa (pv 0) (aa (pv 1) (aa bK (aa (bw ak) (aa (bw (aa (pv 2) (aa (pv 4) (aa (pv 6) ak aj) aj) aj)) (aa aq ak ao) aV) aV) ao) aj) aj)))))
   (aA (fu (bR (PW.pt (xr (jo (pv 3)) (vL (aW tK (pv 5) aq (bC _)))))
    (aA (bL (dZ (cQ T) T.cM hr (aa (pv 0) (aa (pv 1) (aa bK (aa (bw ak) (aa (bw (aa (pv 2) (aa (pv 4) ak aj) aj)) (aa aq ak ao) aV) aV) ao) aj) aj))))
    (aA (fu (bR (aW dU (aX bW (pv 5) aq) aq (bC _))
     (aA (bL (dZ (cQ T) T.cM hr (aa (pv 0) (aa (pv 1) (aa bK (aa (bw ak) (aa (bw (aa (pv 2) (aa (pv 4) ak aj) aj)) (aa aq ak ao) aV) aV) ao) aj) aj))))
     (aA (bL (dZ (cQ T) T.cM hr (aa (pv 0) (aa (pv 1) (aa (aR aO (bw (aa bK (aa bK ak ao) ao)) (aX bW (pv 5) aq) (fun _ _=>rfl)) (aa (bw ak) (aa (bw (aa (pv 2) (aa (pv 4) ak aj) aj)) (aa aq ak ao) aV) aV) aD) aj) aj))))))))))))))),?_⟩
 have hl:sizeLine=16777216:=sizeLine_eq
 refine⟨_,rfl,_,rfl,_,_,rfl,d,ls,ps,os,_,rfl,D,hne,by omega,fun other os1 H1 p1 s1 D1=>?_⟩
 have l1:=p1.length_eq
 rw [List.length_cons] at l1
 refine⟨_,rfl,_,_,rfl,_,_,rfl,rfl,by show(0:Int) <6;decide,?_⟩
 refine⟨fun _ H'=>Q .non H',?_,fun _ _ h=>h⟩
 have fin:∀{i:Nat} {nm:Str} {newl:List aG} {ins os2:List Str} {H':Hp},aM (bB d.E H) (bB d.E H')->n6 d H' (ls ++ newl) (ps ++ [⟨i,nm,[],ins,newl.map (·.name)⟩]) (os2 ++ newl.map (·.name))->(one:: os).Perm (ins ++ os2)->newl.length≠0->newl.length<=2->os2.length+newl.length<=4->Q .non H':=fun s DD hp h1 h2 h4=>
  k _ _ _ _ ⟨s,DD,qX w rfl DD hp h1 (by rw [lP];omega),by rw [lP,lM];omega,by rw [lP,lM];omega,by rw [lP];omega,by rw [lP,List.length_singleton];omega⟩
 cases odd
 ·refine⟨_,rfl,false,rfl,dz (dz ?_)⟩
  refine⟨fun _ H'=>Q .non H',?_,fun _ _ h=>h⟩
  refine⟨_,rfl,false,rfl,dz (dz ?_)⟩
  refine⟨fun _ H'=>Q .non H',?_,fun _ _ h=>h⟩
  refine⟨_,rfl,_,_,rfl,rfl,by show(0:Int) <3;decide,rfl,_,rfl,jy (fun _=>?_) (fun _=>?_)⟩
  ·refine⟨_,rfl,_,rfl,jl,fun a1 n1=>⟨_,rfl,_,rfl,jl,fun a2 n2=>?_⟩⟩
   obtain⟨D9,z1,z2,z3⟩:=D1.two n1 n2 (y:=.lst [.str one,.str other])
   refine⟨d,_,_,os1,_,8,a1,a2,[],[one,other],2,rfl,D9,z1,z2,by omega,rfl,by simp,rfl,rfl,by omega,by omega,by omega,fun newl H8 hn s8 D8=>?_⟩
   exact fin (s1.trans (z3.trans s8)) D8 (Ks p1) (by omega) (by omega) (by omega)
  ·refine⟨_,rfl,_,rfl,jl,fun a0 n0=>?_⟩
   have s0:=aB (o:=.lst [.str "add",.str "less"]) n0
   have D0:=D1.keep s0
   have c0:=D1.cut s0
   refine⟨_,rfl,_,_,rfl,rfl,by show(0:Int) <2;decide,?_⟩
   obtain⟨i,ei,hi⟩:=Vq (cD c 6 % 6)
   refine⟨a0,_,_,_,rfl,rfl,bI.of az,ei,?_⟩
   generalize upd H1 a0 (.lst [.str "add",.str "less"])=H0 at s0 D0 c0 ⊢
   have hN:([]:List Int).length=cN i:=by rcases hi with rfl | rfl <;> rfl
   have hI:[one,other].length=cI i:=by rcases hi with rfl | rfl <;> rfl
   have hO:1=cO i:=by rcases hi with rfl | rfl <;> rfl
   refine⟨jl,fun a1 n1=>⟨_,rfl,_,rfl,jl,fun a2 n2=>?_⟩⟩
   obtain⟨D9,z1,z2,z3⟩:=D0.two n1 n2 (y:=.lst [.str one,.str other])
   refine⟨d,_,_,os1,_,i,a1,a2,[],[one,other],1,rfl,D9,z1,z2,by omega,hN,by simp,hI,hO,by omega,by omega,by omega,fun newl H8 hn s8 D8=>?_⟩
   exact fin (s1.trans (c0.trans (z3.trans s8))) D8 (Ks p1) (by omega) (by omega) (by omega)
 ·refine⟨_,rfl,true,rfl,gj ⟨_,rfl,_,_,rfl,rfl,_,rfl,Dp ?_ (fun h2 b=>?_) (fun b=>b)⟩⟩
  ·refine⟨fun _ H'=>Q .non H',?_,fun _ _ h=>h⟩
   refine⟨_,rfl,true,rfl,gj ?_⟩
   refine⟨_,rfl,_,_,rfl,rfl,_,rfl,jy (fun h5=>?_) (fun h5=>?_)⟩
   ·refine⟨_,rfl,_,rfl,jl,fun a1 n1=>⟨_,rfl,_,rfl,jl,fun a2 n2=>?_⟩⟩
    obtain⟨D9,z1,z2,z3⟩:=D1.two n1 n2 (y:=.lst [.str one,.str other])
    refine⟨d,_,_,os1,_,10,a1,a2,[],[one,other],2,rfl,D9,z1,z2,by omega,rfl,by simp,rfl,rfl,by omega,by omega,by omega,fun newl H8 hn s8 D8=>?_⟩
    exact fin (s1.trans (z3.trans s8)) D8 (Ks p1) (by omega) (by omega) (by omega)
   ·refine⟨fun _ H'=>Q .non H',?_,fun _ _ h=>h⟩
    refine⟨_,rfl,_,_,rfl,rfl,by show(0:Int) <3;decide,rfl,_,rfl,jy (fun _=>?_) (fun _=>?_)⟩
    ·refine⟨_,rfl,_,rfl,jl,fun a1 n1=>⟨_,rfl,_,rfl,jl,fun a2 n2=>?_⟩⟩
     obtain⟨D9,z1,z2,z3⟩:=D1.two n1 n2 (y:=.lst [.str one,.str other])
     refine⟨d,_,_,os1,_,8,a1,a2,[],[one,other],2,rfl,D9,z1,z2,by omega,rfl,by simp,rfl,rfl,by omega,by omega,by omega,fun newl H8 hn s8 D8=>?_⟩
     exact fin (s1.trans (z3.trans s8)) D8 (Ks p1) (by omega) (by omega) (by omega)
    ·refine⟨_,rfl,_,rfl,jl,fun a0 n0=>?_⟩
     have s0:=aB (o:=.lst [.str "add",.str "less"]) n0
     have D0:=D1.keep s0
     have c0:=D1.cut s0
     refine⟨_,rfl,_,_,rfl,rfl,by show(0:Int) <2;decide,?_⟩
     obtain⟨i,ei,hi⟩:=Vq (cD c 6 % 6)
     refine⟨a0,_,_,_,rfl,rfl,bI.of az,ei,?_⟩
     generalize upd H1 a0 (.lst [.str "add",.str "less"])=H0 at s0 D0 c0 ⊢
     have hN:([]:List Int).length=cN i:=by rcases hi with rfl | rfl <;> rfl
     have hI:[one,other].length=cI i:=by rcases hi with rfl | rfl <;> rfl
     have hO:1=cO i:=by rcases hi with rfl | rfl <;> rfl
     refine⟨jl,fun a1 n1=>⟨_,rfl,_,rfl,jl,fun a2 n2=>?_⟩⟩
     obtain⟨D9,z1,z2,z3⟩:=D0.two n1 n2 (y:=.lst [.str one,.str other])
     refine⟨d,_,_,os1,_,i,a1,a2,[],[one,other],1,rfl,D9,z1,z2,by omega,hN,by simp,hI,hO,by omega,by omega,by omega,fun newl H8 hn s8 D8=>?_⟩
     exact fin (s1.trans (c0.trans (z3.trans s8))) D8 (Ks p1) (by omega) (by omega) (by omega)
  ·refine⟨_,rfl,d.S,_,2,_,rfl,rfl,D1.seqS,aK (j:=2) rfl,.ref d.O,os1.length,rfl,.inl ⟨_,bI.of D1.opens,by simp⟩,_,_,rfl,rfl,_,rfl,jy (fun h3=>?_) (fun _=>b)⟩
   have hne1:os1≠[]:=fun z=>by rw [z] at h3;exact absurd (of_decide_eq_true h3) (by decide)
   refine⟨_,rfl,_,rfl,_,_,rfl,d,ls,ps,os1,_,rfl,D1,hne1,by omega,fun third os2 H2 p2 s2 D2=>?_⟩
   have l2:=p2.length_eq
   rw [List.length_cons] at l2
   refine⟨_,rfl,_,rfl,jl,fun a1 n1=>⟨_,rfl,_,rfl,_,rfl,jl,fun a2 n2=>?_⟩⟩
   obtain⟨D9,z1,z2,z3⟩:=D2.two n1 n2 (y:=.lst [.str one,.str other,.str third])
   refine⟨d,_,_,os2,_,9,a1,a2,[],[one,other,third],1,rfl,D9,z1,z2,by omega,rfl,by simp,rfl,rfl,by omega,by omega,by omega,fun newl H8 hn s8 D8=>?_⟩
   exact fin (s1.trans (s2.trans (z3.trans s8))) D8 (Xf p1 p2) (by omega) (by omega) (by omega)
inductive yo (vs:List V) (H:Hp) (Q:VK) (E:XK):Prop where
 | mk:∀(d:Dw) (ls:List aG) (ps:List PD) (os:List Str) (c:Int) (one:Str) (back:List Str),vs=[.ref d.S,.int c,.str one]->n6 d H ls ps os->Drawn.WF (uD ls ps (one:: os) back)->os.length<=3->ls.length<=20->ps.length<=22->(∀ls' ps' os' H',Zh d H H' ls ps back ls' ps' os'->Q .non H')->yo vs H Q E
theorem Hu (T:Txt w K mg t):FO P w K mg base 4 t.Ae ["_law_state", "_law_cell_here", "_law_one"] (yo):=by
 have sc:=T.tV.sc ["_law_state", "_law_cell_here", "_law_one", "_law_own", "_law_fresh"]
 refine T.tV.F.ok sc ln (fun _ _ _ _ H vs Q E hr h=>?_)
 obtain⟨d,ls,ps,os,c,one,back,rfl,D,w,ho,hls,hps,k⟩:=h
 refine⟨_,(au (sN sc 3 (dZ (jV T) T.iQ hr (aa (pv 0) (aa (dZ (bx T) T.bA hr (aa (pv 1) (aa aq ak ao) aj)) (aa iu ak ao) aY) aj)))
  (au (sN sc 4 (dZ (jV T) T.iQ hr (aa (pv 0) (aa (dZ (bx T) T.bA hr (aa (pv 1) (aa aq ak ao) aj)) (aa iu ak ao) aY) aj)))
  (au (bL (Hx (aR aO (pv 0) aq (fun _ _=>rfl)) (aa (bU (aa bK (aa (dZ (nQ T) T.jJ hr (aa (aR aO (pv 0) aq (fun _ _=>rfl)) (aa (bf bN (by rfl) T.dX cH (aa (aR aO (pv 0) aq (fun _ _=>rfl)) ak aD)) ak aY) aD)) (aa (bw ak) (aa (bw (aa (pv 2) (aa (pv 3) ak aj) aj)) (aa (bw (aa (pv 3) (aa (pv 4) ak aj) aj)) ak aV) aV) aV) aY) ao)) ak bQ)))
  (aA (bL (Hx (aR aO (pv 0) aq (fun _ _=>rfl)) (aa (pv 4) ak aj))))))),?_⟩
 have hl:sizeLine=16777216:=sizeLine_eq
 refine⟨_,rfl,_,rfl,_,_,rfl,d,ls,ps,os,_,true,rfl,D,by omega,fun l1 H1 e1 s1 D1=>?_⟩
 refine⟨_,rfl,_,rfl,_,_,rfl,d,ls ++ [l1],ps,os,_,false,rfl,D1,by rw [lP,List.length_singleton];omega,fun l2 H2 e2 s2 D2=>?_⟩
 have s12:=s1.trans s2
 obtain⟨xs,eP,aP⟩:=D2.parts
 have xl:=aP.length
 refine⟨_,rfl,d.S,_,1,_,rfl,rfl,D2.seqS,aK (j:=1) rfl,.inl ⟨rfl,_,bI.of eP⟩,?_⟩
 refine⟨_,rfl,d.S,_,4,_,rfl,rfl,D2.seqS,aK (j:=4) rfl,?_⟩
 refine⟨_,rfl,d.S,_,1,_,rfl,rfl,D2.seqS,aK (j:=1) rfl,.ref d.P,ps.length,rfl,.inl ⟨_,bI.of eP,xl.symm⟩,?_⟩
 refine⟨d.c4,ps.length,rfl,by omega,fun H3 s3=>?_⟩
 have D3:=D2.keep s3
 have c3:=s12.trans (D2.cut s3)
 have eP3:=s3 _ _ eP
 refine⟨jl,fun a1 n1=>⟨_,rfl,_,rfl,jl,fun a2 n2=>⟨_,rfl,_,rfl,jl,fun a3 n3=>⟨jl,fun q nq=>?_⟩⟩⟩⟩
 obtain⟨D4,z1,z2,z3⟩:=D3.two n1 n2 (y:=.lst [.str one,.str l1.name])
 have t4:aM H3 (upd (upd H3 a1 (.lst [])) a2 (.lst [.str one,.str l1.name])):=(aB n1).trans (aB n2)
 have eP4:=t4 _ _ eP3
 generalize upd (upd H3 a1 (.lst [])) a2 (.lst [.str one,.str l1.name])=H4 at D4 z1 z2 z3 t4 eP4 n3 nq ⊢
 obtain⟨D5,y1,y2,y3⟩:=D4.two n3 nq (y:=.tup [.str "order",.str (cW d.c4 ps.length),.ref a1,.ref a2,.ref a3])
 have t5:aM H4 (upd (upd H4 a3 (.lst [.str l1.name,.str l2.name])) q (.tup [.str "order",.str (cW d.c4 ps.length),.ref a1,.ref a2,.ref a3])):=(aB n3).trans (aB nq)
 have eP5:=t5 _ _ eP4
 generalize upd (upd H4 a3 (.lst [.str l1.name,.str l2.name])) q (.tup [.str "order",.str (cW d.c4 ps.length),.ref a1,.ref a2,.ref a3])=H5 at D5 y1 y2 y3 t5 eP5 ⊢
 have c5:=c3.trans (z3.trans y3)
 refine⟨d.P,xs,_,rfl,rfl,eP5,by omega,?_⟩
 have D6:=D5.part (p:=⟨8,cW d.c4 ps.length,[],[one,l1.name],[l1.name,l2.name]⟩) ⟨q,a1,a2,a3,rfl,y2,y3 _ _ z1,y3 _ _ z2,y1⟩ ⟨by show 8 <11;omega,rfl,rfl,rfl,by simp⟩ rfl eP5
 have c6:bB d.E (upd H5 d.P (.lst (xs ++ [.ref q])))=bB d.E H5:=eU (by simp)
 generalize upd H5 d.P (.lst (xs ++ [.ref q]))=H6 at D6 c6 ⊢
 refine⟨_,rfl,d.S,_,2,_,rfl,rfl,D6.seqS,aK (j:=2) rfl,.inl ⟨rfl,_,bI.of D6.opens⟩,_,rfl,d.O,_,_,rfl,rfl,D6.opens,by rw [lM];omega,?_⟩
 have D7:=D6.open (os':=os ++ [l2.name])
 rw [List.map_append] at D7
 have nd:=D7.nod (by rw [lP,lP,List.length_singleton,List.length_singleton];omega)
 have wl:=w.loop (p:=⟨8,cW d.c4 ps.length,[],[one,l1.name],[l1.name,l2.name]⟩) (rest:=os) (one:=one) (own:=l1.name) (fresh:=l2.name) rfl rfl (.refl _) (by simpa using nd)
 refine k _ _ _ _ ⟨by rw [eU (by simp),c6];exact c5,D7,by simpa [uD] using wl,by rw [lP,List.length_singleton];omega,by rw [lP,List.length_singleton];omega,by simp,by simp⟩
inductive yQ (vs:List V) (H:Hp) (Q:VK) (E:XK):Prop where
 | mk:∀(d:Dw) (ls:List aG) (ps:List PD) (os:List Str) (c:Int) (back:List Str) (odd:Bool),vs=[.ref d.S,.int c,.bl odd]->n6 d H ls ps os->Drawn.WF (uD ls ps os back)->os≠[]->os.length<=4->ls.length<=20->ps.length<=22->(∀ls' ps' os' H',Zh d H H' ls ps back ls' ps' os'->Q .non H')->yQ vs H Q E
theorem Jf (T:Txt w K mg t):FO P w K mg base 6 t.Aj ["_law_state", "_law_cell_here", "_law_odd"] (yQ):=by
 have sc:=T.uP.sc ["_law_state", "_law_cell_here", "_law_odd", "_law_way", "_law_one"]
 refine T.uP.F.ok sc ln (fun _ _ _ _ H vs Q E hr h=>?_)
 obtain⟨d,ls,ps,os,c,back,odd,rfl,D,w,hne,ho,hls,hps,k⟩:=h
 refine⟨_,(au (sN sc 3 (aX bW (dZ (bx T) T.bA hr (aa (pv 1) (aa aq ak ao) aj)) aq))
  (au (sN sc 4 (dZ (sU T) T.mJ hr (aa (pv 0) (aa (dZ (bx T) T.bA hr (aa (pv 1) (aa aq ak ao) aj)) ak aY) aj)))
  (aA (fu (bR (PW.pt (xr (aW tK (pv 3) aq (bC _)) (vL (aW tK (bf bN (by rfl) T.dX cH (aa (aR aO (pv 0) aq (fun _ _=>rfl)) ak aD)) aq (bC _)))))
   (aA (bL (dZ (cQ T) T.cM hr (aa (pv 0) (aa (pv 1) (aa bK (aa (bw ak) (aa (bw (aa (pv 4) ak aj)) (aa aq ak ao) aV) aV) ao) aj) aj))))
   (aA (fu (bR (aW dU (pv 3) aq (bC _))
    (au (bL (dZ (cQ T) T.cM hr (aa (pv 0) (aa (pv 1) (aa bK (aa (bw ak) (aa (bw (aa (pv 4) ak aj)) (aa aq ak ao) aV) aV) ao) aj) aj)))
    (aA (bL (dZ (cQ T) T.cM hr (aa (pv 0) (aa (pv 1) (aa bK (aa (bw ak) (aa (bw (aa (KD PySem.F.plainAttrs_list PySem.F.slot_list_pop PySem.F.type_list_pop KR (aR aO (pv 0) aq (fun _ _=>rfl))) ak aY)) (aa aq ak ao) aV) aV) ao) aj) aj)))))
    (aA (fu (bR (PW.pt (xr (aW tK (pv 3) aq (bC _)) (vL (aW Gr (bf bN (by rfl) T.dX cH (aa (aR aO (pv 0) aq (fun _ _=>rfl)) ak aD)) aq (bC _)))))
     (aA (bL (dZ (Kv T) T.xJ hr (aa (pv 0) (aa (pv 1) (aa (pv 4) (aa (pv 2) ak aj) aj) aj) aj))))
     (aA (fu (bR (aW tK (pv 3) aq (bC _))
      (aA (bL (dZ (cQ T) T.cM hr (aa (pv 0) (aa (pv 1) (aa bK (aa (bw (aa (dZ (jz T) T.gJ hr (aa (pv 1) (aa aq ak ao) aj)) (aa (dZ (jz T) T.gJ hr (aa (pv 1) (aa aq ak ao) aj)) ak aY) aY)) (aa (bw (aa (pv 4) ak aj)) (aa aq ak ao) aV) aV) ao) aj) aj))))
      (aA (fu (bR (aW dU (pv 3) aq (bC _))
       (aA (bL (dZ (cQ T) T.cM hr (aa (pv 0) (aa (pv 1) (aa bK (aa (bw (aa (dZ (jz T) T.gJ hr (aa (pv 1) (aa aq ak ao) aj)) ak aY)) (aa (bw (aa (pv 4) ak aj)) (aa aq ak ao) aV) aV) ao) aj) aj))))
       (aA (fu (bR (aW dU (aX bW (dZ (bx T) T.bA hr (aa (pv 1) (aa aq ak ao) aj)) aq) aq (bC _))
        (aA (bL (dZ (Hu T) T.tV hr (aa (pv 0) (aa (pv 1) (aa (pv 4) ak aj) aj) aj))))
        (aA (bL (dZ (cQ T) T.cM hr (aa (pv 0) (aa (pv 1) (aa bK (aa (bw ak) (aa (bw (aa (pv 4) ak aj)) (aa aq ak ao) aV) aV) ao) aj) aj)))))))))))))))))))))))),?_⟩
 have hl:sizeLine=16777216:=sizeLine_eq
 refine⟨_,rfl,_,_,rfl,_,_,rfl,rfl,by show(0:Int) <9;decide,?_⟩
 refine⟨_,rfl,_,rfl,_,_,rfl,d,ls,ps,os,_,rfl,D,hne,by omega,fun one os1 H1 p1 s1 D1=>?_⟩
 have w1:Drawn.WF (uD ls ps (one:: os1) back):=Wu w p1
 have lo:=p1.length_eq
 rw [List.length_cons] at lo
 have fin:∀{i:Nat} {nm:Str} {nums:List Int} {newl:List aG} {ins os2:List Str} {H':Hp},aM (bB d.E H) (bB d.E H')->n6 d H' (ls ++ newl) (ps ++ [⟨i,nm,nums,ins,newl.map (·.name)⟩]) (os2 ++ newl.map (·.name))->(one:: os1).Perm (ins ++ os2)->newl.length≠0->newl.length<=2->os2.length+newl.length<=4->Q .non H':=fun s DD hp h1 h2 h4=>
  k _ _ _ _ ⟨s,DD,qX w1 rfl DD hp h1 (by rw [lP];omega),by rw [lP,lM];omega,by rw [lP,lM];omega,by rw [lP];omega,by rw [lP,List.length_singleton];omega⟩
 refine⟨fun _ H'=>Q .non H',?_,fun _ _ h=>h⟩
 refine⟨_,rfl,_,_,rfl,rfl,_,rfl,Dp ?_ (fun h2 b=>?_) (fun b=>b)⟩
 ·refine⟨fun _ H'=>Q .non H',?_,fun _ _ h=>h⟩
  refine⟨_,rfl,rfl,_,rfl,jy (fun _=>?_) (fun _=>?_)⟩
  ·refine⟨_,rfl,_,rfl,jl,fun a1 n1=>⟨_,rfl,jl,fun a2 n2=>?_⟩⟩
   obtain⟨D9,z1,z2,z3⟩:=D1.two n1 n2 (y:=.lst [.str one])
   refine⟨d,_,_,os1,_,3,a1,a2,[],[one],2,rfl,D9,z1,z2,by omega,rfl,by simp,rfl,rfl,by omega,by omega,by omega,fun newl H8 hn s8 D8=>?_⟩
   obtain⟨l1,l2,rfl⟩:∃l1 l2,newl=[l1,l2]:=by
    match newl,hn with
    | [x,y],_=>exact⟨x,y,rfl⟩
   have w8:=qX w1 rfl D8 (.refl _) (by simp) (by simp;omega)
   have s18:=s1.trans (z3.trans s8)
   clear D9 z1 z2 z3 n1 n2 s8
   refine⟨_,rfl,_,rfl,jl,fun a3 n3=>?_⟩
   have s3:=aB (o:=.lst []) n3
   have D3:=D8.keep s3
   have c3:=s18.trans (D8.cut s3)
   have o3:=D8.out n3
   have e3:upd H8 a3 (.lst []) a3=some (.lst ([]:List V)):=az
   generalize upd H8 a3 (.lst [])=H3 at s3 D3 c3 e3 ⊢
   have eo:((os1 ++ [l1,l2].map (·.name)).map V.str)=((os1 ++ [l1.name]).map V.str) ++ [.str l2.name]:=by simp
   have hop:=D3.opens
   rw [eo] at hop
   refine⟨_,rfl,d.S,_,2,_,rfl,rfl,D3.seqS,aK (j:=2) rfl,.inl ⟨rfl,_,bI.of D3.opens⟩,d.O,_,.str l2.name,rfl,rfl,hop,by rw [lP,List.length_singleton,Nat.add_sub_cancel];exact List.getElem?_concat_length,?_⟩
   rw [List.dropLast_concat]
   have D4:=D3.open (os':=os1 ++ [l1.name])
   have c4:bB d.E (upd H3 d.O (.lst ((os1 ++ [l1.name]).map V.str)))=bB d.E H3:=eU (by simp)
   have e4:=cJ e3 o3
   generalize upd H3 d.O (.lst ((os1 ++ [l1.name]).map V.str))=H4 at D4 c4 ⊢
   refine⟨jl,fun a4 n4=>?_⟩
   have s5:=aB (o:=.lst [.str l2.name]) n4
   have D5:=D4.keep s5
   have c5:=D4.cut s5
   rw [c4] at c5
   have e5:=cJ (E:=d.E) (H:=upd H4 a4 (.lst [.str l2.name])) az (D4.out n4)
   refine⟨d,ls ++ [l1,l2],_,os1 ++ [l1.name],_,1,a3,a4,[],[l2.name],0,rfl,D5,c5 _ _ e4,e5,by omega,rfl,by simp,rfl,rfl,by simp;omega,by simp;omega,by simp;omega,fun newl2 H9 hn2 s9 D9=>?_⟩
   have hz:newl2=[]:=List.length_eq_zero_iff.mp hn2
   subst hz
   have wt:=w8.take (p:=⟨1,cW d.c4 (ps ++ [(⟨3,cW d.c4 ps.length,[],[one],[l1,l2].map (·.name)⟩:PD)]).length,[],[l2.name],[]⟩) (rest:=os1 ++ [l1.name]) (y:=l2.name) (x:=l1.name) rfl rfl (by
     show(os1 ++ [l1.name,l2.name]).Perm (l2.name:: (os1 ++ [l1.name]))
     rw [show os1 ++ [l1.name,l2.name]=(os1 ++ [l1.name]) ++ [l2.name] by simp]
     exact List.perm_append_comm) (by simp) (Drawn.jx.part (p:=⟨3,cW d.c4 ps.length,[],[one],[l1,l2].map (·.name)⟩) (by simp) (by simp) (by simp))
   rw [List.map_nil,List.append_nil,List.append_nil] at D9
   exact k _ _ _ _ ⟨c3.trans (c5.trans s9),D9,wt,by simp,by simp;omega,by simp,by simp⟩
  ·refine⟨fun _ H'=>Q .non H',?_,fun _ _ h=>h⟩
   refine⟨_,rfl,_,_,rfl,rfl,_,rfl,Dp ?_ (fun h2 b=>?_) (fun b=>b)⟩
   ·refine⟨fun _ H'=>Q .non H',?_,fun _ _ h=>h⟩
    refine⟨_,rfl,_,_,rfl,rfl,_,rfl,jy (fun _=>?_) (fun _=>?_)⟩
    ·refine⟨_,rfl,_,rfl,_,rfl,c,8,rfl,_,rfl,c,9,rfl,jl,fun a1 n1=>⟨_,rfl,jl,fun a2 n2=>?_⟩⟩
     obtain⟨D9,z1,z2,z3⟩:=D1.two n1 n2 (y:=.lst [.str one])
     refine⟨d,_,_,os1,_,4,a1,a2,[qI c 8,qI c 9],[one],1,rfl,D9,z1,z2,by omega,rfl,?_,rfl,rfl,by omega,by omega,by omega,fun newl H8 hn s8 D8=>?_⟩
     ·intro v hv
      rcases List.mem_cons.mp hv with rfl | hv
      ·exact rJ _ _
      ·rw [List.mem_singleton] at hv
       subst hv
       exact rJ _ _
     exact fin (s1.trans (z3.trans s8)) D8 (.refl _) (by omega) (by omega) (by omega)
    ·refine⟨fun _ H'=>Q .non H',?_,fun _ _ h=>h⟩
     refine⟨_,rfl,rfl,_,rfl,jy (fun _=>?_) (fun _=>?_)⟩
     ·refine⟨_,rfl,_,rfl,_,rfl,c,8,rfl,jl,fun a1 n1=>⟨_,rfl,jl,fun a2 n2=>?_⟩⟩
      obtain⟨D9,z1,z2,z3⟩:=D1.two n1 n2 (y:=.lst [.str one])
      refine⟨d,_,_,os1,_,5,a1,a2,[qI c 8],[one],1,rfl,D9,z1,z2,by omega,rfl,?_,rfl,rfl,by omega,by omega,by omega,fun newl H8 hn s8 D8=>?_⟩
      ·intro v hv
       rw [List.mem_singleton] at hv
       subst hv
       exact rJ _ _
      exact fin (s1.trans (z3.trans s8)) D8 (.refl _) (by omega) (by omega) (by omega)
     ·refine⟨fun _ H'=>Q .non H',?_,fun _ _ h=>h⟩
      refine⟨_,rfl,_,_,rfl,_,_,rfl,rfl,by show(0:Int) <2;decide,rfl,_,rfl,jy (fun _=>?_) (fun _=>?_)⟩
      ·exact⟨_,rfl,_,rfl,_,rfl,d,ls,ps,os1,c,one,back,rfl,D1,w1,by omega,hls,hps,fun ls' ps' os' H' X=>k ls' ps' os' H' ⟨s1.trans X.cut,X.at',X.wf,X.o1,X.o4,X.l2,X.p2⟩⟩
      ·refine⟨_,rfl,_,rfl,jl,fun a1 n1=>⟨_,rfl,jl,fun a2 n2=>?_⟩⟩
       obtain⟨D9,z1,z2,z3⟩:=D1.two n1 n2 (y:=.lst [.str one])
       refine⟨d,_,_,os1,_,2,a1,a2,[],[one],1,rfl,D9,z1,z2,by omega,rfl,by simp,rfl,rfl,by omega,by omega,by omega,fun newl H8 hn s8 D8=>?_⟩
       exact fin (s1.trans (z3.trans s8)) D8 (.refl _) (by omega) (by omega) (by omega)
   ·refine⟨_,rfl,d.S,_,2,_,rfl,rfl,D1.seqS,aK (j:=2) rfl,.ref d.O,os1.length,rfl,.inl ⟨_,bI.of D1.opens,by simp⟩,_,_,rfl,rfl,_,rfl,jy (fun h3=>?_) (fun _=>b)⟩
    have hne1:os1≠[]:=fun z=>by rw [z] at h3;exact absurd (of_decide_eq_true h3) (by decide)
    exact⟨_,rfl,_,rfl,_,rfl,_,rfl,d,ls,ps,os1,c,one,back,odd,rfl,D1,w1,hne1,by omega,hls,hps,fun ls' ps' os' H' X=>k ls' ps' os' H' ⟨s1.trans X.cut,X.at',X.wf,X.o1,X.o4,X.l2,X.p2⟩⟩
 ·refine⟨_,rfl,d.S,_,2,_,rfl,rfl,D1.seqS,aK (j:=2) rfl,.ref d.O,os1.length,rfl,.inl ⟨_,bI.of D1.opens,by simp⟩,_,_,rfl,rfl,_,rfl,jy (fun h3=>?_) (fun _=>b)⟩
  have h3:os1.length <3:=by have:=of_decide_eq_true h3;omega
  refine⟨_,rfl,_,rfl,jl,fun a1 n1=>⟨_,rfl,jl,fun a2 n2=>?_⟩⟩
  obtain⟨D9,z1,z2,z3⟩:=D1.two n1 n2 (y:=.lst [.str one])
  refine⟨d,_,_,os1,_,3,a1,a2,[],[one],2,rfl,D9,z1,z2,by omega,rfl,by simp,rfl,rfl,by omega,by omega,by omega,fun newl H8 hn s8 D8=>?_⟩
  exact fin (s1.trans (z3.trans s8)) D8 (.refl _) (by omega) (by omega) (by omega)
inductive uL (vs:List V) (H:Hp) (Q:VK) (E:XK):Prop where
 | mk:∀(d:Dw) (ls:List aG) (ps:List PD) (os:List Str) (c:Int) (B:Addr) (back:List Str),vs=[.ref d.S,.int c,.ref B]->n6 d H ls ps os->Drawn.WF (uD ls ps os back)->bB d.E H B=some (.lst (back.map V.str))->os≠[]->os.length<=4->back.length<=2->ls.length<=12->ps.length<=10->(∀ls' ps' H',aM (bB d.E H) (bB d.E H')->n6 d H' ls' ps' []->Fy (ls'.map (·.name)) ps'->ls'.length<=17->ls.length<=ls'.length->ps'.length<=16->1<=ps'.length->Q .non H')->uL vs H Q E
theorem Dn (T:Txt w K mg t):FO P w K mg base 5 t.wz ["_law_state", "_law_cell_here", "_law_back"] (uL):=by
 have sc:=T.qG.sc ["_law_state", "_law_cell_here", "_law_back", "_law_one", "_law_other", "_law_kind", "_law_lane_here", "_law_fresh"]
 refine T.qG.F.ok sc ln (fun _ _ _ _ H vs Q E hr h=>?_)
 obtain⟨d,ls,ps,os,c,B,back,rfl,D,w,eB,hne,ho,hb,hls,hps,k⟩:=h
 refine⟨_,(au (yZ PassesOwn.never (aW Gr (bf bN (by rfl) T.dX cH (aa (aR aO (pv 0) aq (fun _ _=>rfl)) ak aD)) aq (bC _))
   (au (sN sc 3 (Ek PySem.F.plainAttrs_list PySem.F.slot_list_pop PySem.F.type_list_pop Cy (aR aO (pv 0) aq (fun _ _=>rfl)) (aa aq ak ao)))
   (au (sN sc 4 (Ek PySem.F.plainAttrs_list PySem.F.slot_list_pop PySem.F.type_list_pop Cy (aR aO (pv 0) aq (fun _ _=>rfl)) (aa aq ak ao)))
   (au (sN sc 5 (aR aO (bw (aa bK (aa bK (aa bK ak ao) ao) ao)) (aX bW (dZ (bx T) T.bA hr (aa (pv 1) (aa (bf bN (by rfl) T.dX cH (aa (aR aO (pv 0) aq (fun _ _=>rfl)) ak aD)) ak aY) aj)) aq) (fun _ _=>rfl)))
   (aA (bL (dZ (cQ T) T.cM hr (aa (pv 0) (aa (dZ (bx T) T.bA hr (aa (pv 1) (aa (aX dh aq (bf bN (by rfl) T.dX cH (aa (aR aO (pv 0) aq (fun _ _=>rfl)) ak aD))) ak bO) aj)) (aa (pv 5) (aa (bw ak) (aa (bw (aa (pv 3) (aa (pv 4) ak aj) aj)) (aa aq ak ao) aV) aV) aj) aY) aj))))))))
  (au (dD PassesOwn.never rfl (b8 (pv 2)) (gN sc 6)
   (au (sN sc 3 (KD PySem.F.plainAttrs_list PySem.F.slot_list_pop PySem.F.type_list_pop KR (aR aO (pv 0) aq (fun _ _=>rfl))))
   (au (sN sc 7 (dZ (jV T) T.iQ hr (aa (pv 0) (aa (dZ (bx T) T.bA hr (aa (pv 1) (aa (aX dh aq (bf bN (by rfl) T.dX cH (aa (aR aO (pv 0) aq (fun _ _=>rfl)) ak aD))) ak bO) aj)) (aa iu ak ao) aY) aj)))
   (au (bL (Hx (aR aO (pv 0) aq (fun _ _=>rfl)) (aa (bU (aa bK (aa (dZ (nQ T) T.jJ hr (aa (aR aO (pv 0) aq (fun _ _=>rfl)) (aa (bf bN (by rfl) T.dX cH (aa (aR aO (pv 0) aq (fun _ _=>rfl)) ak aD)) ak aY) aD)) (aa (bw ak) (aa (bw (aa (pv 3) ak aj)) (aa (bw (aa (pv 6) (aa (pv 7) ak aj) aj)) ak aV) aV) aV) aY) ao)) ak bQ)))
   (aA (bL (Hx (aR aO (pv 0) aq (fun _ _=>rfl)) (aa (pv 7) ak aj))))))))
  (aA (bL (dZ (cQ T) T.cM hr (aa (pv 0) (aa (pv 1) (aa bK (aa (bw ak) (aa (bw (aa (KD PySem.F.plainAttrs_list PySem.F.slot_list_pop PySem.F.type_list_pop KR (aR aO (pv 0) aq (fun _ _=>rfl))) ak aY)) (aa aq ak ao) aV) aV) ao) aj) aj)))))),?_⟩
 have hl:sizeLine=16777216:=sizeLine_eq
 have hpos:0 <os.length:=List.length_pos_iff.mpr hne
 refine hide fun u hu=>?_
 refine xY (fun σ H1=>∃(ls1:List aG) (ps1:List PD) (os1:List Str) (v3 v4 v5:Option V),σ=[some (.ref d.S),some (.int c),some (.ref B),v3,v4,v5,none,none]/\aM (bB d.E H) (bB d.E H1)/\n6 d H1 ls1 ps1 os1/\Drawn.WF (uD ls1 ps1 os1 back)/\1<=os1.length/\os1.length<=4/\ls.length<=ls1.length/\ls1.length+os1.length<=16/\ps1.length+os1.length<=14)
  (fun _ H1=>Qt H1 d.O) ⟨ls,ps,os,none,none,none,rfl,aM.refl _,D,w,by omega,ho,Nat.le_refl _,by omega,by omega⟩ ?_ ?_
 ·rintro σ H1 ⟨ls1,ps1,os1,v3,v4,v5,rfl,s1,D1,w1,o1,o4,hl1,hl2,hp2⟩
  refine⟨_,rfl,d.S,_,2,_,rfl,rfl,D1.seqS,aK (j:=2) rfl,.ref d.O,os1.length,rfl,.inl ⟨_,bI.of D1.opens,by simp⟩,_,_,rfl,rfl,_,rfl,jy (fun h3=>?_) (fun h3=>?_)⟩
  ·have h3:1 <os1.length:=by have:=of_decide_eq_true h3;omega
   obtain⟨one,other,os2,rfl⟩:∃one other os2,os1=one:: other:: os2:=by
    match os1,h3 with
    | x:: y:: r,_=>exact⟨x,y,r,rfl⟩
   rw [List.length_cons,List.length_cons] at h3 o1 o4 hl2 hp2
   have lm:=Jq D1.opens
   refine Yy fun De hD u hu=>?_
   refine⟨_,rfl,d.S,_,2,_,rfl,rfl,D1.seqS,aK (j:=2) rfl,.inl ⟨rfl,_,bI.of D1.opens⟩,d.O,_,0,0,.str one,rfl,rfl,D1.opens,by decide,by decide,Mi (by simp),rfl,?_⟩
   have D2:=D1.open (os':=other:: os2)
   have c2:bB d.E (upd H1 d.O (.lst ((other:: os2).map V.str)))=bB d.E H1:=eU (by simp)
   refine dG (v:=u) hu fun u hu=>?_
   change yP _ _ _ _ (upd H1 d.O (.lst ((other:: os2).map V.str)))
   generalize upd H1 d.O (.lst ((other:: os2).map V.str))=H2 at D2 c2 ⊢
   refine⟨_,rfl,d.S,_,2,_,rfl,rfl,D2.seqS,aK (j:=2) rfl,.inl ⟨rfl,_,bI.of D2.opens⟩,d.O,_,0,0,.str other,rfl,rfl,D2.opens,by decide,by decide,Mi (by simp),rfl,?_⟩
   have D3:=D2.open (os':=os2)
   have c3:bB d.E (upd H2 d.O (.lst (os2.map V.str)))=bB d.E H2:=eU (by simp)
   refine dG (v:=u) hu fun u hu=>?_
   change yP _ _ _ _ (upd H2 d.O (.lst (os2.map V.str)))
   generalize upd H2 d.O (.lst (os2.map V.str))=H3 at D3 c3 ⊢
   have s3:aM (bB d.E H) (bB d.E H3):=by rw [c3,c2];exact s1
   refine⟨jl,fun a0 n0=>?_⟩
   have s0:=aB (o:=.lst [.str "add",.str "less",.str "add"]) n0
   have D0:=D3.keep s0
   have c0:=s3.trans (D3.cut s0)
   refine⟨_,rfl,_,rfl,d.S,_,2,_,rfl,rfl,D0.seqS,aK (j:=2) rfl,.ref d.O,os2.length,rfl,.inl ⟨_,bI.of D0.opens,by simp⟩,c,(os2.length:Int),rfl,_,_,rfl,rfl,by show(0:Int) <3;decide,?_⟩
   obtain⟨i,ei,hi⟩:=Xu (cD c (os2.length:Int))
   refine⟨a0,_,_,_,rfl,rfl,bI.of az,ei,?_⟩
   generalize upd H3 a0 (.lst [.str "add",.str "less",.str "add"])=H0 at s0 D0 c0 ⊢
   obtain⟨xs,eP,aP⟩:=D0.parts
   have xl:=aP.length
   have hN:([]:List Int).length=cN i:=by rcases hi with rfl | rfl <;> rfl
   have hI:[one,other].length=cI i:=by rcases hi with rfl | rfl <;> rfl
   have hO:1=cO i:=by rcases hi with rfl | rfl <;> rfl
   subst hu
   refine⟨_,rfl,_,rfl,_,rfl,d.S,_,1,_,rfl,rfl,D0.seqS,aK (j:=1) rfl,.ref d.P,ps1.length,rfl,.inl ⟨_,bI.of eP,xl.symm⟩,_,_,rfl,rfl,_,_,rfl,?_⟩
   refine⟨_,rfl,jl,fun a1 n1=>⟨_,rfl,_,rfl,jl,fun a2 n2=>?_⟩⟩
   obtain⟨D9,z1,z2,z3⟩:=D0.two n1 n2 (y:=.lst [.str one,.str other])
   refine⟨d,_,_,os2,_,i,a1,a2,[],[one,other],1,rfl,D9,z1,z2,by omega,hN,by simp,hI,hO,by omega,by omega,by omega,fun newl H8 hn s8 D8=>?_⟩
   have w8:=qX w1 rfl D8 (.refl _) (by omega) (by rw [lP];omega)
   subst hD
   refine⟨⟨_,_,_,_,_,_,rfl,c0.trans (z3.trans s8),D8,w8,?_,?_,?_,?_,?_⟩,?_⟩
   ·rw [lP,lM];omega
   ·rw [lP,lM];omega
   ·rw [lP];omega
   ·rw [lP,lP,lM];omega
   ·rw [lP,lP,lM,List.length_singleton];omega
   ·rw [Jq D8.opens,lm,lM,lM,lP,lM,List.length_cons,List.length_cons]
    omega
  ·have h3:os1.length=1:=by
    have:¬(1:Int) <(os1.length:Int):=fun z=>h3 (decide_eq_true z)
    omega
   obtain⟨y,rfl⟩:=List.length_eq_one_iff.mp h3
   refine dG (v:=u) hu fun u hu=>?_
   refine⟨_,rfl,B,rfl,⟨_,bI.of (cj _ _ (s1 _ _ eB))⟩,?_⟩
   refine cU (K:=K) (a:=B) (xs:=back.map V.str) (fun j σ H2=>∃(ls2:List aG) (ps2:List PD) (y:Str) (u3 u6 u7:Option V),σ=[some (.ref d.S),some (.int c),some (.ref B),u3,v4,v5,u6,u7]/\aM (bB d.E H) (bB d.E H2)/\n6 d H2 ls2 ps2 [y]/\Drawn.WF (uD ls2 ps2 [y] (back.drop j))/\ls.length<=ls2.length/\ls2.length<=15+j/\ps2.length<=13+j) ⟨ls1,ps1,y,v3,none,none,rfl,s1,D1,w1,hl1,by have z:=hl2;rw [List.length_singleton] at z;omega,by have z:=hp2;rw [List.length_singleton] at z;omega⟩ (fun j σ H2 _ ⟨ls2,ps2,y,u3,u6,u7,e,s2,h⟩=>bI.of (cj _ _ (s2 _ _ eB))) ?_ ?_
   ·rintro j x σ H2 hx ⟨ls2,ps2,y2,u3,u6,u7,rfl,s2,D2,w2,hl2',hl3,hp3⟩
    rw [List.getElem?_map] at hx
    obtain⟨bn,hbn,rfl⟩:=Option.map_eq_some_iff.mp hx
    have hj:j <back.length:=by
     rcases Nat.lt_or_ge j back.length with h | h
     ·exact h
     ·rw [List.getElem?_eq_none h] at hbn;cases hbn
    have hdr:back.drop j=bn:: back.drop (j+1):=by
     rw [List.drop_eq_getElem_cons hj]
     rw [List.getElem?_eq_getElem hj,Option.some.injEq] at hbn
     rw [hbn]
    refine Qg fun De hD u hu=>?_
    refine⟨_,rfl,d.S,_,2,_,rfl,rfl,D2.seqS,aK (j:=2) rfl,.inl ⟨rfl,_,bI.of D2.opens⟩,d.O,_,.str y2,rfl,rfl,D2.opens,rfl,?_⟩
    have D3:=D2.open (os':=[])
    have c3:bB d.E (upd H2 d.O (.lst (([]:List Str).map V.str)))=bB d.E H2:=eU (by simp)
    refine dG (v:=u) hu fun u hu=>?_
    change yP _ _ _ _ (upd H2 d.O (.lst (([]:List Str).map V.str)))
    generalize upd H2 d.O (.lst (([]:List Str).map V.str))=H3 at D3 c3 ⊢
    obtain⟨xs,eP,aP⟩:=D3.parts
    have xl:=aP.length
    refine⟨_,rfl,_,rfl,_,rfl,d.S,_,1,_,rfl,rfl,D3.seqS,aK (j:=1) rfl,.ref d.P,ps2.length,rfl,.inl ⟨_,bI.of eP,xl.symm⟩,_,_,rfl,rfl,_,_,rfl,d,ls2,ps2,[],_,false,rfl,D3,by omega,fun l H4 _ s4 D4=>?_⟩
    rw [c3] at s4
    have s24:=s2.trans s4
    obtain⟨xs4,eP4,aP4⟩:=D4.parts
    have xl4:=aP4.length
    refine dG (v:=u) hu fun u hu=>?_
    refine⟨_,rfl,d.S,_,1,_,rfl,rfl,D4.seqS,aK (j:=1) rfl,.inl ⟨rfl,_,bI.of eP4⟩,?_⟩
    refine⟨_,rfl,d.S,_,4,_,rfl,rfl,D4.seqS,aK (j:=4) rfl,?_⟩
    refine⟨_,rfl,d.S,_,1,_,rfl,rfl,D4.seqS,aK (j:=1) rfl,.ref d.P,ps2.length,rfl,.inl ⟨_,bI.of eP4,xl4.symm⟩,?_⟩
    refine⟨d.c4,ps2.length,rfl,by omega,fun H5 s5=>?_⟩
    have D5:=D4.keep s5
    have c5:=s24.trans (D4.cut s5)
    have eP5:=s5 _ _ eP4
    refine⟨jl,fun a1 n1=>⟨_,rfl,jl,fun a2 n2=>⟨_,rfl,_,rfl,jl,fun a3 n3=>⟨jl,fun q nq=>?_⟩⟩⟩⟩
    obtain⟨D6,z1,z2,z3⟩:=D5.two n1 n2 (y:=.lst [.str y2])
    have t6:aM H5 (upd (upd H5 a1 (.lst [])) a2 (.lst [.str y2])):=(aB n1).trans (aB n2)
    have eP6:=t6 _ _ eP5
    generalize upd (upd H5 a1 (.lst [])) a2 (.lst [.str y2])=H6 at D6 z1 z2 z3 t6 eP6 n3 nq ⊢
    obtain⟨D7,y1,y2',y3⟩:=D6.two n3 nq (y:=.tup [.str "copy",.str (cW d.c4 ps2.length),.ref a1,.ref a2,.ref a3])
    have t7:aM H6 (upd (upd H6 a3 (.lst [.str bn,.str l.name])) q (.tup [.str "copy",.str (cW d.c4 ps2.length),.ref a1,.ref a2,.ref a3])):=(aB n3).trans (aB nq)
    have eP7:=t7 _ _ eP6
    generalize upd (upd H6 a3 (.lst [.str bn,.str l.name])) q (.tup [.str "copy",.str (cW d.c4 ps2.length),.ref a1,.ref a2,.ref a3])=H7 at D7 y1 y2' y3 t7 eP7 ⊢
    have c7:=c5.trans (z3.trans y3)
    refine⟨d.P,xs4,_,rfl,rfl,eP7,by omega,?_⟩
    have D8:=D7.part (p:=⟨3,cW d.c4 ps2.length,[],[y2],[bn,l.name]⟩) ⟨q,a1,a2,a3,rfl,y2',y3 _ _ z1,y3 _ _ z2,y1⟩ ⟨by show 3 <11;omega,rfl,rfl,rfl,by simp⟩ rfl eP7
    have c8:bB d.E (upd H7 d.P (.lst (xs4 ++ [.ref q])))=bB d.E H7:=eU (by simp)
    generalize upd H7 d.P (.lst (xs4 ++ [.ref q]))=H8 at D8 c8 ⊢
    subst hu
    refine⟨_,rfl,d.S,_,2,_,rfl,rfl,D8.seqS,aK (j:=2) rfl,.inl ⟨rfl,_,bI.of D8.opens⟩,_,rfl,d.O,_,_,rfl,rfl,D8.opens,by simp;omega,?_⟩
    have D9:=D8.open (os':=[l.name])
    have nd:=D9.nod (by rw [lP,List.length_singleton];omega)
    rw [hdr] at w2
    have wc:=w2.closeBack (p:=⟨3,cW d.c4 ps2.length,[],[y2],[bn,l.name]⟩) (rest:=back.drop (j+1)) (one:=y2) (b:=bn) (fresh:=l.name) rfl rfl (.refl _) rfl (by simpa using nd)
    subst hD
    exact⟨ls2 ++ [l],_,l.name,_,_,_,rfl,by rw [eU (by simp),c8];exact c7,D9,by simpa [uD] using wc,by rw [lP];omega,by rw [lP,List.length_singleton];omega,by rw [lP,List.length_singleton];omega⟩
   rintro σ H2 ⟨ls2,ps2,y2,u3,u6,u7,rfl,s2,D2,w2,hl2',hl3,hp3⟩
   rw [lM] at w2 hl3 hp3
   rw [List.drop_length] at w2
   subst hu
   refine⟨_,rfl,_,rfl,jl,fun a3 n3=>?_⟩
   have t3:=aB (o:=.lst []) n3
   have D3:=D2.keep t3
   have c3:=s2.trans (D2.cut t3)
   have o3:=D2.out n3
   have e3:=cJ (az (H:=H2) (a:=a3) (o:=.lst ([]:List V))) o3
   generalize upd H2 a3 (.lst [])=H3 at t3 D3 c3 e3 ⊢
   refine⟨_,rfl,d.S,_,2,_,rfl,rfl,D3.seqS,aK (j:=2) rfl,.inl ⟨rfl,_,bI.of D3.opens⟩,d.O,_,.str y2,rfl,rfl,D3.opens,rfl,?_⟩
   have D4:=D3.open (os':=[])
   have c4:bB d.E (upd H3 d.O (.lst (([]:List Str).map V.str)))=bB d.E H3:=eU (by simp)
   rw [show([y2].map V.str).dropLast=([]:List Str).map V.str from rfl]
   refine⟨jl,fun a4 n4=>?_⟩
   generalize upd H3 d.O (.lst (([]:List Str).map V.str))=H4 at D4 c4 n4 ⊢
   have s5:=aB (o:=.lst [.str y2]) n4
   have D5:=D4.keep s5
   have c5:=D4.cut s5
   rw [c4] at c5
   have e5:=cJ (E:=d.E) (H:=upd H4 a4 (.lst [.str y2])) az (D4.out n4)
   refine⟨d,ls2,ps2,[],_,1,a3,a4,[],[y2],0,rfl,D5,c5 _ _ e3,e5,by omega,rfl,by simp,rfl,rfl,by omega,by omega,by simp,fun newl2 H9 hn2 s9 D9=>?_⟩
   have hz:newl2=[]:=List.length_eq_zero_iff.mp hn2
   subst hz
   rw [List.map_nil,List.append_nil,List.append_nil] at D9
   obtain⟨x1,x2,x3⟩:=w2.last (p:=⟨1,cW d.c4 ps2.length,[],[y2],[]⟩) (y:=y2) rfl rfl rfl rfl
   exact k ls2 _ H9 (c3.trans (c5.trans s9)) D9 ⟨w2.nod,x1,x2,y2,x3⟩ (by omega) hl2' (by rw [lP,List.length_singleton];omega) (by rw [lP,List.length_singleton];omega)
 ·intro σ H' Q' Q'' hm hq
  obtain⟨x1,x2,x3,x4,x5,x6,x7,x8,x9,x10,x11,x12,x13,x14,x15,x16,x17,x18,x19,x20,q⟩:=hq
  exact⟨x1,x2,x3,x4,x5,x6,x7,x8,x9,x10,x11,x12,x13,x14,x15,x16,x17,x18,x19,x20,hm _ _ q⟩
inductive Be (K:PySem.W.Frag) (vs:List V) (H:Hp) (Q:VK) (E:XK):Prop where
 | mk:∀(a:Addr) (ns:List Int) (start steps:Nat) (odd:Bool),vs=[.ref a,.int (start:Nat),.int (steps:Nat),.bl odd]->bI K H a (ns.map V.int)->steps<=4->(∀(T L P:Addr) (ls:List aG) (ps:List PD) (H':Hp),aM H H'->H L=none->H P=none->L≠P->H' T=some (.tup [.ref L,.ref P])->Cp H' L P ls ps->Qy (j8 ns start) (j8 ns (start+1)) ls ps->Q (.ref T) H')->Be K vs H Q E
noncomputable abbrev Df:List Str:=["_law_script", "_law_start", "_law_steps", "_law_odd", "_law_one", "_law_other", "_law_state", "_law_k", "_law_back", "_law_at"]
theorem JD (T:Txt w K mg t):FO P w K mg base 7 t.Dz ["_law_script", "_law_start", "_law_steps", "_law_odd"] (Be K):=by
 have sc:=T.xm.sc Df
 refine T.xm.F.ok sc ln (fun _ _ _ _ H vs Q E hr h=>?_)
 obtain⟨a,ns,start,steps,odd,rfl,hS,hst,k⟩:=h
 refine⟨_,(au (sN sc 4 (dZ (gP T) T.fP hr (aa (pv 0) (aa (pv 1) ak aj) aj)))
  (au (sN sc 5 (dZ (gP T) T.fP hr (aa (pv 0) (aa (aX dh (pv 1) aq) ak bO) aj)))
  (au (sN sc 6 (bw (aa (bw ak) (aa (bw ak) (aa (bw ak) (aa (pv 4) (aa (pv 5) ak aj) aj) aV) aV) aV)))
  (au (dD PassesOwn.never rfl (jH rfl T.lF (aa (aX dh aq (aX bW (dZ (bx T) T.bA hr (aa (pv 4) (aa aq ak ao) aj)) aq)) ak bO)) (gN sc 7)
   (aA (bL (dZ (cQ T) T.cM hr (aa (pv 6) (aa (dZ (bx T) T.bA hr (aa (pv 5) (aa (pv 7) ak aj) aj)) (aa bK (aa (bw ak) (aa (bw ak) (aa aq ak ao) aV) aV) ao) aY) aj)))))
  (au (mH (i:=8) [5,6] Df (bc (top 74)) rfl sc.nd rfl (jH rfl T.lF (aa (aX bW (dZ (bx T) T.bA hr (aa (pv 4) (aa aq ak ao) aj)) aq) ak bO)) (fun _ _ _ _ _=>jr) (fun _ _ _ _ _=>(dZ (jV T) T.iQ hr (aa (pv 2) (aa (dZ (bx T) T.bA hr (aa (pv 1) (aa (aX dh aq (pv 0)) ak bO) aj)) (aa iu ak ao) aY) aj))))
  (au (bL (Ek PySem.F.plainAttrs_list PySem.F.slot_list_extend PySem.F.type_list_extend Gf (aR aO (pv 6) aq (fun _ _=>rfl)) (aa (pv 8) ak aj)))
  (au (dD PassesOwn.never rfl (jH rfl T.lF (aa (pv 2) ak aj)) (gN sc 7)
   (aA (bL (dZ (Jf T) T.uP hr (aa (pv 6) (aa (dZ (gP T) T.fP hr (aa (pv 0) (aa (aX dh (aX dh (pv 1) aq) (pv 7)) ak bO) aj)) (aa (pv 3) ak aj) aY) aj)))))
  (au (bL (dZ (Dn T) T.qG hr (aa (pv 6) (aa (pv 5) (aa (pv 8) ak aj) aj) aj)))
  (au (sN sc 9 (aX bW (dZ (bx T) T.bA hr (aa (pv 4) (aa aq ak ao) aj)) (bf bN (by rfl) T.dX cH (aa (aR aO (pv 6) aq (fun _ _=>rfl)) ak aD))))
  (aA (aN (bU (aa (aR aO (pv 6) aq (fun _ _=>rfl)) (aa (aX Lr (iU nj (aR aO (pv 6) aq (fun _ _=>rfl)) (jE (pv 9)) lN) (iU nj (aR aO (pv 6) aq (fun _ _=>rfl)) lN (jE (pv 9)))) ak bO) aD))))))))))))),?_⟩
 have hl:sizeLine=16777216:=sizeLine_eq
 refine hide fun u hu=>?_
 refine⟨_,rfl,_,rfl,a,ns,start,rfl,hS,?_⟩
 refine dG (v:=u) hu fun u hu=>?_
 refine⟨_,rfl,_,rfl,_,_,rfl,rfl,a,ns,start+1,rfl,hS,?_⟩
 refine dG (v:=u) hu fun u hu=>?_
 refine⟨jl,fun L nL=>⟨jl,fun P' nP=>⟨jl,fun O nO=>⟨_,rfl,_,rfl,jl,fun S nS=>?_⟩⟩⟩⟩
 obtain⟨D1,s1,nP0⟩:=n6.init (j8 ns start) (j8 ns (start+1)) nL nP nO nS
 have nLP:L≠P':=D1.ne.1
 refine dG (v:=u) hu fun u hu=>?_
 change yP _ _ _ [some (.ref a),some (.int (start:Nat)),some (.int (steps:Nat)),some (.bl odd),some (.int (j8 ns start)),some (.int (j8 ns (start+1))),some (.ref S),none,none,none] (upd (upd (upd (upd H L (.lst [])) P' (.lst [])) O (.lst [])) S (.lst [.ref L,.ref P',.ref O,.int (j8 ns start),.int (j8 ns (start+1))]))
 generalize upd (upd (upd (upd H L (.lst [])) P' (.lst [])) O (.lst [])) S (.lst [.ref L,.ref P',.ref O,.int (j8 ns start),.int (j8 ns (start+1))])=H1 at D1 s1 ⊢
 obtain⟨d,hd⟩:∃d:Dw,d=⟨S,L,P',O,j8 ns start,j8 ns (start+1)⟩:=⟨_,rfl⟩
 rw [<-hd] at D1
 have hE:[L,P',O]=d.E:=by rw [hd]
 have hSd:S=d.S:=by rw [hd]
 have hLd:L=d.L:=by rw [hd]
 have hc3:j8 ns start=d.c3:=by rw [hd]
 have hc4:j8 ns (start+1)=d.c4:=by rw [hd]
 rw [hE] at s1
 rw [hLd] at nL nLP
 rw [hc3,hc4] at k
 rw [hSd,hc3,hc4]
 clear hd hE nP nO nS
 have g0:=Int.emod_nonneg (cD d.c3 5) (show(2:Int)≠0 by decide)
 have g1:=Int.emod_lt_of_pos (cD d.c3 5) (show(0:Int) <2 by decide)
 refine⟨_,rfl,_,_,rfl,_,_,rfl,rfl,by show(0:Int) <2;decide,_,_,rfl,rfl,1+cD d.c3 5 % 2,rfl,by omega,by omega,?_⟩
 obtain⟨g,hg,hg1,hg2⟩:∃g:Nat,(1+cD d.c3 5 % 2).toNat=g/\1<=g/\g<=2:=⟨_,rfl,by omega,by omega⟩
 rw [hg]
 refine Fz (fun j σ H2=>∃(ls:List aG) (ps:List PD) (os:List Str) (v7:Option V),σ=[some (.ref a),some (.int (start:Nat)),some (.int (steps:Nat)),some (.bl odd),some (.int d.c3),some (.int d.c4),some (.ref d.S),v7,none,none]/\aM (bB d.E H1) (bB d.E H2)/\n6 d H2 ls ps os/\Drawn.WF (uD ls ps os [])/\ls.length=j/\ps.length=j/\os.length=j) ⟨[],[],[],none,rfl,aM.refl _,D1,Drawn.WF.start,rfl,rfl,rfl⟩ ?_ ?_
 ·rintro j σ H2 hj ⟨ls,ps,os,v7,rfl,s2,D2,w2,h1,h2,h3⟩
  refine Vu fun De hD=>?_
  refine⟨_,rfl,_,rfl,_,rfl,_,_,rfl,jl,fun a1 n1=>⟨jl,fun a2 n2=>?_⟩⟩
  obtain⟨D9,z1,z2,z3⟩:=D2.two n1 n2 (y:=.lst [])
  refine⟨d,ls,ps,os,_,0,a1,a2,[],[],1,rfl,D9,z1,z2,by omega,rfl,by simp,rfl,rfl,by omega,by omega,by omega,fun newl H8 hn s8 D8=>?_⟩
  have w8:=qX w2 rfl D8 (.refl _) (by omega) (by rw [lP];omega)
  subst hD
  exact⟨_,_,_,_,rfl,s2.trans (z3.trans s8),D8,w8,by rw [lP];omega,by rw [lP,List.length_singleton];omega,by rw [lP,lM];omega⟩
 rintro σ H2 ⟨ls,ps,os,v7,rfl,s2,D2,w2,h1,h2,h3⟩
 have b0:=Int.emod_nonneg (cD d.c3 6) (show(3:Int)≠0 by decide)
 have b1:=Int.emod_lt_of_pos (cD d.c3 6) (show(0:Int) <3 by decide)
 refine dG (v:=u) hu fun u hu=>?_
 refine⟨_,rfl,_,_,rfl,_,_,rfl,rfl,by show(0:Int) <3;decide,cD d.c3 6 % 3,rfl,by omega,by omega,?_⟩
 obtain⟨nb,hnb,hnb2⟩:∃nb:Nat,(cD d.c3 6 % 3).toNat=nb/\nb<=2:=⟨_,rfl,by omega⟩
 rw [hnb]
 refine kZ (fun j ys H3=>∃(ls3:List aG) (bl:List Str),ys=bl.map V.str/\bl.length=j/\aM (bB d.E H1) (bB d.E H3)/\n6 d H3 ls3 ps os/\Drawn.WF (uD ls3 ps (os ++ bl) bl)/\ls3.length=g+j) (by omega) ⟨ls,[],rfl,rfl,s2,D2,by rw [List.append_nil];exact w2,by omega⟩ (fun j ys H3 ⟨_,bl,e,e2,_⟩=>by rw [e,lM];omega) ?_ ?_
 ·rintro j ys H3 hj ⟨ls3,bl,rfl,hb,s3,D3,w3,h4⟩
  refine yes ⟨_,rfl,_,rfl,_,rfl,_,_,rfl,rfl,_,_,rfl,d,ls3,ps,os,_,true,rfl,D3,by omega,fun l H4 _ s4 D4=>?_⟩
  have nd:=D4.nod (by rw [lP,List.length_singleton];omega)
  have wb:=w3.backLane (b:=l.name) (by simpa using nd)
  exact⟨ls3 ++ [l],bl ++ [l.name],by simp,by simp [hb],s3.trans s4,D4,by simpa [uD] using wb,by rw [lP,List.length_singleton];omega⟩
 rintro ys H3 ⟨ls3,bl,rfl,hbl,s3,D3,w3,h4⟩ B nB
 have t4:=aB (o:=.lst (bl.map V.str)) nB
 have D4:=D3.keep t4
 have s4:=s3.trans (D3.cut t4)
 have eB:=cJ (az (H:=H3) (a:=B) (o:=.lst (bl.map V.str))) (D3.out nB)
 generalize upd H3 B (.lst (bl.map V.str))=H4 at t4 D4 s4 eB ⊢
 refine dG (v:=u) hu fun u hu=>?_
 refine⟨_,rfl,d.S,_,2,_,rfl,rfl,D4.seqS,aK (j:=2) rfl,.inl ⟨rfl,_,bI.of D4.opens⟩,_,rfl,d.O,B,_,_,rfl,rfl,D4.opens,cj _ _ eB,by rw [lM,lM];omega,?_⟩
 rw [<-List.map_append]
 have D5:=D4.open (os':=os ++ bl)
 have c5:bB d.E (upd H4 d.O (.lst ((os ++ bl).map V.str)))=bB d.E H4:=eU (by simp)
 generalize upd H4 d.O (.lst ((os ++ bl).map V.str))=H5 at D5 c5 ⊢
 rw [<-c5] at s4 eB
 refine dG (v:=u) hu fun u hu=>?_
 refine⟨_,rfl,(steps:Int),rfl,by omega,by omega,?_⟩
 rw [Int.toNat_natCast]
 refine Fz (fun j σ H6=>∃(ls6:List aG) (ps6:List PD) (os6:List Str) (v7:Option V),σ=[some (.ref a),some (.int (start:Nat)),some (.int (steps:Nat)),some (.bl odd),some (.int d.c3),some (.int d.c4),some (.ref d.S),v7,some (.ref B),none]/\aM (bB d.E H5) (bB d.E H6)/\n6 d H6 ls6 ps6 os6/\Drawn.WF (uD ls6 ps6 os6 bl)/\1<=ls6.length/\ls6.length<=4+2 * j/\ps6.length<=2+2 * j/\os6≠[]/\os6.length<=4) ⟨ls3,ps,os ++ bl,v7,rfl,aM.refl _,D5,w3,by omega,by omega,by omega,by intro z;have:=congrArg List.length z;rw [lP,List.length_nil] at this;omega,by rw [lP];omega⟩ ?_ ?_
 ·rintro j σ H6 hj ⟨ls6,ps6,os6,u7,rfl,s6,D6,w6,l0,l6,p6,o0,o6⟩
  have hS6:bI K H6 a (ns.map V.int):=cj.seq ((s1.trans (s4.trans s6)).seq hS)
  refine Vu fun De hD=>?_
  refine⟨_,rfl,_,rfl,_,rfl,_,_,rfl,rfl,_,rfl,_,_,rfl,rfl,a,ns,start+2+(0+j),rfl,hS6,_,rfl,d,ls6,ps6,os6,_,bl,odd,rfl,D6,w6,o0,o6,by omega,by omega,fun ls' ps' os' H' X=>?_⟩
  subst hD
  exact⟨ls',ps',os',_,rfl,s6.trans X.cut,X.at',X.wf,by have h1:=X.wf.ins.length_eq;have h2:=X.o1;rw [lP,lM] at h1;change _+os'.length=_ at h1;omega,by have:=X.l2;omega,by have:=X.p2;omega,by intro z;have:=X.o1;rw [z] at this;simp at this,X.o4⟩
 rintro σ H6 ⟨ls6,ps6,os6,u7,rfl,s6,D6,w6,l0,l6,p6,o0,o6⟩
 refine dG (v:=u) hu fun u hu=>?_
 refine⟨_,rfl,_,rfl,_,rfl,d,ls6,ps6,os6,_,B,bl,rfl,D6,w6,s6 _ _ eB,o0,o6,by omega,by omega,by omega,fun ls7 ps7 H7 s7 D7 W7 l17 l7 p16 p1=>?_⟩
 obtain⟨xsL,eL,aL⟩:=D7.lanes
 obtain⟨xsP,eP,aP⟩:=D7.parts
 have xl:=aP.length
 refine dG (v:=u) hu fun u hu=>?_
 refine⟨_,rfl,_,_,rfl,_,rfl,d.S,_,1,_,rfl,rfl,D7.seqS,aK (j:=1) rfl,.ref d.P,ps7.length,rfl,.inl ⟨_,bI.of eP,xl.symm⟩,cD d.c3 7,(ps7.length:Int),rfl,rfl,by omega,?_⟩
 have r0:=Int.emod_nonneg (cD d.c3 7) (show(ps7.length:Int)≠0 by omega)
 obtain⟨r,hr'⟩:∃r:Nat,cD d.c3 7 % (ps7.length:Int)=(r:Int):=⟨_,(Int.toNat_of_nonneg r0).symm⟩
 dsimp only
 rw [hr']
 subst hu
 refine⟨_,rfl,d.S,_,0,_,rfl,rfl,D7.seqS,aK (j:=0) rfl,?_⟩
 refine⟨_,rfl,d.S,_,1,_,rfl,rfl,D7.seqS,aK (j:=1) rfl,?_⟩
 refine⟨_,rfl,_,rfl,d.P,_,rfl,bI.of eP,fun q1 m1=>?_⟩
 rw [N7]
 have t1:=aB (o:=.lst (xsP.drop r)) m1
 have f1:upd H7 q1 (.lst (xsP.drop r)) q1=some (.lst (xsP.drop r)):=az
 have D8:=D7.keep t1
 have eP8:=t1 _ _ eP
 have eL8:=t1 _ _ eL
 generalize upd H7 q1 (.lst (xsP.drop r))=H8 at t1 f1 D8 eP8 eL8 ⊢
 refine⟨_,rfl,d.S,_,1,_,rfl,rfl,D8.seqS,aK (j:=1) rfl,_,rfl,_,rfl,d.P,_,rfl,bI.of eP8,fun q2 m2=>?_⟩
 rw [Up]
 have t2:=aB (o:=.lst (xsP.take r)) m2
 have f2:upd H8 q2 (.lst (xsP.take r)) q2=some (.lst (xsP.take r)):=az
 have f12:=t2 _ _ f1
 have eL9:=t2 _ _ eL8
 generalize upd H8 q2 (.lst (xsP.take r))=H9 at t2 f2 f12 eL9 ⊢
 refine⟨q1,q2,_,_,rfl,rfl,f12,f2,by rw [List.length_drop,List.length_take];omega,fun q3 m3=>?_⟩
 have t3:=aB (o:=.lst (xsP.drop r ++ xsP.take r)) m3
 have f3:upd H9 q3 (.lst (xsP.drop r ++ xsP.take r)) q3=some (.lst (xsP.drop r ++ xsP.take r)):=az
 have eLA:=t3 _ _ eL9
 generalize upd H9 q3 (.lst (xsP.drop r ++ xsP.take r))=HA at t3 f3 eLA ⊢
 refine⟨jl,fun T' nT=>?_⟩
 have t4:=aB (o:=.tup [.ref d.L,.ref q3]) nT
 have sA:aM H7 (upd HA T' (.tup [.ref d.L,.ref q3])):=t1.trans (t2.trans (t3.trans t4))
 have s17:aM H (bB d.E H7):=s1.trans (s4.trans (s6.trans s7))
 have s07:aM H H7:=s17.trans cj
 have free3:H q3=none:=s07.free (t1.free (t2.free m3))
 have cA:aM (bB d.E H7) (upd HA T' (.tup [.ref d.L,.ref q3])):=cj.trans sA
 have nq:d.L≠q3:=aF eL9 m3
 have rp:=PX ps7 r
 refine k T' d.L q3 ls7 (ps7.drop r ++ ps7.take r) _ (s07.trans sA) nL free3 nq az ⟨⟨xsL,t4 _ _ eLA,aL.imp fun _ _ h=>h.same cA⟩,⟨_,t4 _ _ f3,((aP.drop r).app (aP.take r)).imp fun _ _ h=>h.same cA⟩⟩ ⟨D7.lok,fun p hp=>D7.pok p (rp.mem_iff.mpr hp),D7.ln,?_,W7.perm rp,by omega,l17,by rw [<-rp.length_eq];exact p1,by rw [<-rp.length_eq];exact p16⟩
 rw [<-rp.length_eq,<-D7.pn]
 exact rp.map _
inductive Dl (K:PySem.W.Frag) (vs:List V) (H:Hp) (Q:VK) (E:XK):Prop where
 | mk:∀x,vs=[x]->(((∃z:Str,x=.str z/\z.length<=100/\∀H',aM H H'->Q (.bl (nameB z)) H')∨∃Tx,Y5 K H x Tx/\Tx∈qt/\Tx≠ "str" /\Q (.bl false) H))->Dl K vs H Q E
theorem Lw (T:Txt w K mg t):FO P w K mg base 1 t.Ga ["thing"] (Dl K):=by
 have sc:=T.zu.sc ["thing"]
 refine T.zu.F.ok sc ln (fun _ _ _ _ H vs Q E hr h=>?_)
 obtain⟨x,rfl,h⟩:=h
 refine⟨_,(au (bR (PW.pt (rF (kJ (jo (bf xU (by rfl) T.oA lD (aa (pv 0) (aa (BL (by rfl) T.Vz RP) ak aj) aj)))) (kj (kJ (yV wL wL aq (bf bN (by rfl) T.dX cH (aa (pv 0) ak aj)) (jw (by rfl) T.En))))))
   (aA (aN iu))
   aZ)
  (aA (aN (zz (vI zH (aR DW (pv 0) aq (fun _ _=>rfl)) (jw (by rfl) T.Gb) (by with_unfolding_all rfl)) (zL (bf (xT rfl) (by rfl) T.NQ Ia (aa (iT [] ["thing"] (bc (top 23)) rfl (WP (pv 0)) (fun _ _ _ _ _=>jr) (fun _ _ _ _ _=>(Xy (vI zH (pv 0) (jw (by rfl) T.Gb) (by with_unfolding_all rfl)) (zL (vI zH (pv 0) (jw (by rfl) T.Og) (by with_unfolding_all rfl)))))) ak fU))))))),?_⟩
 have hl:sizeLine=16777216:=sizeLine_eq
 rcases h with ⟨z,rfl,hz,k⟩ | ⟨Tx,ty,hm,hne,k⟩
 ·refine⟨_,rfl,.str z, "str", "str",true,rfl,rfl,by decide,by decide,_,rfl,dz ?_⟩
  refine⟨_,rfl,.str z,z.length,rfl,⟨by omega,rfl⟩,_,_,rfl,rfl,_,rfl,?_⟩
  cases e:z.cps.toList with
  | nil=>
   have h0:z.length=0:=by rw [<-oM,e];rfl
   rw [h0]
   refine dz ⟨_,rfl,gj ?_⟩
   have:=k H (aM.refl _)
   unfold nameB at this
   rw [e] at this
   exact this
  | cons c r=>
   have hlen:z.length=r.length+1:=by rw [<-oM,e];rfl
   refine kW (by omega) ⟨_,_,rfl,rfl,_,rfl,jy (fun h=>?_) (fun h=>?_)⟩
   ·have h8:¬(z.length:Int)<=8:=by simpa using h
    have:=k H (aM.refl _)
    unfold nameB at this
    rw [e] at this
    simp only [show ¬r.length<=7 by omega,decide_false,Bool.false_and] at this
    exact this
   ·have h8:(z.length:Int)<=8:=by simpa using h
    have hc0:Es z.cps.toList 0=some c:=by rw [e];exact aK (xs:=c:: r) (j:=0) rfl
    refine⟨_,rfl,z,_,c,rfl,rfl,by omega,hc0,_,_,rfl,rfl,_,rfl,?_⟩
    have kk:∀H',aM H H'->Q (.bl (low c && z.cps.toList.all fun d=>low d || Nm d)) H':=fun H' s'=>by
     have:=k H' s'
     unfold nameB at this
     rw [e] at this ⊢
     simp only [show r.length<=7 by omega,decide_true,Bool.true_and] at this
     exact this
    rw [Qu]
    refine jy (fun hc=>?_) (fun hc=>?_)
    ·rw [hc,Bool.true_and] at kk
     refine⟨_,rfl,z,rfl,QJ (fun i ys H'=>H'=H/\ys=((z.cps.toList.take i).map fun d=>low d || Nm d).map V.bl) (by simp only [Str.length] at hz;omega) ⟨rfl,by simp⟩ (fun i ys H' ⟨_,e⟩=>by rw [e];simp only [lM,List.length_take];omega) ?_ ?_⟩
     ·rintro i d ys H' hd ⟨rfl,rfl⟩
      refine yes ⟨_,rfl,_,_,rfl,rfl,_,rfl,?_⟩
      have hd':z.cps.toList[i]?=some d:=by simpa using hd
      have next:∀b,b=(low d || Nm d)->(((z.cps.toList.take i).map fun d=>low d || Nm d).map V.bl) ++ [V.bl b]=((z.cps.toList.take (i+1)).map fun d=>low d || Nm d).map V.bl:=fun b hb=>by
       rw [List.take_add_one,hd',hb]
       simp
      rw [Qu]
      refine jy (fun hl'=>?_) (fun hl'=>?_)
      ·exact⟨rfl,next true (by rw [hl'];rfl)⟩
      ·have hl2:low d=false:=by simpa using hl'
       refine⟨_,rfl,_,_,rfl,rfl,rfl,next _ ?_⟩
       rw [WR,hl2,Bool.false_or]
     ·rintro ys H' ⟨rfl,rfl⟩ D hD
      refine⟨D,(z.cps.toList.take z.cps.size).map fun d=>low d || Nm d,rfl,bI.of az,?_⟩
      have hall:((z.cps.toList.take z.cps.size).map fun d=>low d || Nm d).all id=z.cps.toList.all fun d=>low d || Nm d:=by
       rw [List.take_of_length_le (by simp),List.all_map]
       rfl
      rw [hall]
      exact kk _ (aB hD)
    ·have hc':low c=false:=by simpa using hc
     rw [hc',Bool.false_and] at kk
     exact kk H (aM.refl _)
 ·have hb:J3 Tx "str" =false:=by
   simp only [qt,List.mem_cons,List.not_mem_nil,or_false] at hm
   rcases hm with rfl | rfl | rfl | rfl | rfl | rfl | rfl <;> first | decide | exact absurd rfl hne
  exact⟨_,rfl,x,Tx, "str",false,rfl,ty,by decide,hb,_,rfl,gj (gj k)⟩
inductive uo (K:PySem.W.Frag) (vs:List V) (H:Hp) (Q:VK) (E:XK):Prop where
 | mk:∀(a b:Addr) (xs ys:List V),vs=[.ref a,.ref b]->bI K H a xs->bI K H b ys->1<=xs.length->xs.length<=24->1<=ys.length->ys.length<=16->Q .non H->uo K vs H Q E
theorem Eg (T:Txt w K mg t):FO P w K mg base 1 t.wA ["lanes", "parts"] (uo K):=by
 have sc:=T.qy.sc ["lanes", "parts"]
 refine T.qy.F.ok sc ln (fun _ _ _ _ H vs Q E hr h=>?_)
 obtain⟨a,b,xs,ys,rfl,h1,h2,c1,c2,c3,c4,k⟩:=h
 refine⟨_,(au (bR (kJ (yV wL wL aq (bf bN (by rfl) T.dX cH (aa (pv 0) ak aj)) (jw (by rfl) T.HW)))
   (aA dO)
   aZ)
  (aA (bR (kJ (yV wL wL aq (bf bN (by rfl) T.dX cH (aa (pv 1) ak aj)) (jw (by rfl) T.HN)))
   (aA dO)
   aZ))),?_⟩
 have hl:sizeLine=16777216:=sizeLine_eq
 refine⟨_,rfl,.ref a,xs.length,rfl,.inl ⟨_,h1,rfl⟩,_,_,rfl,rfl,_,rfl,kW (by omega) ⟨_,_,rfl,rfl,_,rfl,?_⟩⟩
 rw [show decide ((xs.length:Int)<=24)=true from decide_eq_true (by omega)]
 refine dz ?_
 refine⟨_,rfl,.ref b,ys.length,rfl,.inl ⟨_,h2,rfl⟩,_,_,rfl,rfl,_,rfl,kW (by omega) ⟨_,_,rfl,rfl,_,rfl,?_⟩⟩
 rw [show decide ((ys.length:Int)<=16)=true from decide_eq_true (by omega)]
 exact dz k
inductive wU (K:PySem.W.Frag) (vs:List V) (H:Hp) (Q:VK) (E:XK):Prop where
 | mk:∀(z:Str) (d:Addr) (kvs:List (Key×V)),vs=[.str z,.ref d]->H d=some (.dK kvs)->nameB z=true->z.length<=100->cg kvs (Sum.inr z)=none->(∀H',aM H H'->Q .non H')->wU K vs H Q E
theorem wK (T:Txt w K mg t):FO P w K mg base 2 t.yu ["name", "known"] (wU K):=by
 have sc:=T.oE.sc ["name", "known"]
 refine T.oE.F.ok sc ln (fun _ _ _ _ H vs Q E hr h=>?_)
 obtain⟨z,d,kvs,rfl,hd,hz,hl,hv,k⟩:=h
 refine⟨_,(au (bR (kJ (jo (dZ (Lw T) T.zu hr (aa (pv 0) ak aj))))
   (aA dO)
   aZ)
  (aA (bR (il (zQ hr.u1 (pv 0) (pv 1)))
   (aA dO)
   aZ))),?_⟩
 refine⟨_,rfl,.str z,rfl,.inl ⟨z,rfl,hl,fun H1 s1=>?_⟩⟩
 rw [hz]
 refine⟨_,rfl,dz ?_⟩
 refine⟨_,rfl,_,rfl,d,_,rfl,d7.k (k:=Sum.inr z) (s1 _ _ hd),?_⟩
 rw [hv]
 exact⟨_,rfl,dz (k _ s1)⟩
inductive yM (K:PySem.W.Frag) (vs:List V) (H:Hp) (Q:VK) (E:XK):Prop where
 | mk:∀(nm:V) (room:Int) (L:Addr) (ws:List Int),vs=[nm,.int room,.ref L]->yI K H L (ws.map V.int)->ws.length<=1000->((∀v∈ws,0<=v/\v <1000000000))->1<=room->(ws.length:Int)<=room->room<=199->(∀H',aM H H'->Q .non H')->yM K vs H Q E
theorem Iu (T:Txt w K mg t):FO P w K mg base 3 t.z9 ["name", "room", "first"] (yM K):=by
 have sc:=T.uY.sc ["name", "room", "first"]
 refine T.uY.F.ok sc ln (fun _ _ _ _ H vs Q E hr h=>?_)
 obtain⟨nm,room,L,ws,rfl,hL,hw,hB,c1,c2,c3,k⟩:=h
 refine⟨_,(au (bR (PW.pt (rF (kJ (jo (dZ (Ax T) T.sr hr (aa (pv 1) ak aj)))) (kj (kJ (yV wL wL (bf (vp rfl) (by rfl) T.JX Ej (aa aq (aa (bf bN (by rfl) T.dX cH (aa (pv 2) ak aj)) ak aY) ao)) (pv 1) (jw (by rfl) T.Jw))))))
   (aA dO)
   aZ)
  (aA (bR (kJ (jo (bf (xT rfl) (by rfl) T.NQ Ia (aa (iT [] ["name", "room", "first"] (bc (top 49)) rfl (VD (b8 (pv 2)) (Jb (pv 2))) (fun _ _ _ _ _=>jr) (fun _ _ _ _ _=>(dZ (uR T) T.oX hr (aa (pv 0) ak aj)))) ak fU))))
   (aA dO)
   aZ))),?_⟩
 have hl:sizeLine=16777216:=sizeLine_eq
 have hlw:(ws.map V.int).length=ws.length:=lM ..
 refine⟨_,rfl,.int room, "int",true,rfl,rfl,by decide,by decide,true,rfl,dz ?_⟩
 refine⟨_,rfl,.ref L,(ws.map V.int).length,rfl,hL.len,_,_,rfl,_,rfl,_,_,rfl,rfl,_,rfl,kW ?_ ⟨_,_,rfl,rfl,_,rfl,?_⟩⟩
 ·split <;> omega
 rw [show decide (room<=199)=true from decide_eq_true c3]
 refine dz ?_
 refine RC (a:=L) (xs:=ws.map V.int) ?_ hL (fun j ys=>ys=(List.replicate j true).map V.bl) (by rw [lM];omega) rfl (fun j ys e=>by rw [e];simp) (fun j x ys hx e=>?_) (fun ys e D hD=>?_)
 ·exact fun R r=>⟨_,rfl,r⟩
 ·subst e
  rw [List.getElem?_map] at hx
  obtain⟨n,hn,rfl⟩:=Option.map_eq_some_iff.mp hx
  obtain⟨n0,n1⟩:=hB n (List.mem_of_getElem? hn)
  refine yes ⟨_,rfl,.int n,rfl,.inl ⟨n,rfl,rfl,?_⟩⟩
  rw [decide_eq_true n0,decide_eq_true n1,List.replicate_succ']
  simp
 ·subst e
  refine⟨D,_,rfl,bI.of az,_,rfl,?_⟩
  rw [show((List.replicate (ws.map V.int).length true).all id)=true by simp]
  exact dz (k _ (aB hD))
inductive wG (K:PySem.W.Frag) (t:jN) (vs:List V) (H:Hp) (Q:VK) (E:XK):Prop where
 | mk:∀(i:Nat) (nm:Str) (r d a1 a2 a3:Addr) (ns is os:List V) (kvs:List (Key×V)),vs=[.ref r,.ref d]->H r=some (.tup [.str (cL i),.str nm,.ref a1,.ref a2,.ref a3])->i<=10->H d=some (.dK kvs)->nameB nm=true->nm.length<=100->cg kvs (Sum.inr nm)=none->yI K H a1 ns->yI K H a2 is->yI K H a3 os->ns.length=cN i->is.length=cI i->os.length=cO i->((∀v∈ns,Val v))->(∀H' p,aM H H'->H p=none->fH K t H' p i (.str nm) ns is os->Q (.ref p) H')->wG K t vs H Q E
theorem Fg (T:Txt w K mg t):FO P w K mg base 5 t.yj ["row", "known"] (wG K t):=by
 have sc:=T.sG.sc ["row", "known"]
 refine T.sG.F.ok sc ln (fun _ _ _ _ H vs Q E hr h=>?_)
 obtain⟨i,nm,r,d,a1,a2,a3,ns,is,os,kvs,rfl,hr1,hi,hd,hz,hl,hv,q1,q2,q3,l1,l2,l3,hV,k⟩:=h
 refine⟨_,(au (bR (kJ (jo (dZ (DG T) T.vA hr (aa (aR cC (pv 0) aq (fun _ _=>rfl)) ak aD))))
   (aA dO)
   aZ)
  (au (bL (dZ (wK T) T.oE hr (aa (aR cC (pv 0) aq (fun _ _=>rfl)) (aa (pv 1) ak aj) aD)))
  (aA (aN (dZ (Hr T) T.Ab hr (aa (aR cC (pv 0) aq (fun _ _=>rfl)) (aa (aR cC (pv 0) aq (fun _ _=>rfl)) (aa (aR cC (pv 0) aq (fun _ _=>rfl)) (aa (aR cC (pv 0) aq (fun _ _=>rfl)) (aa (aR cC (pv 0) aq (fun _ _=>rfl)) ak aD) aD) aD) aD) aD)))))),?_⟩
 refine⟨_,rfl,r,_,0,_,rfl,rfl,eQ.of hr1,aK (j:=0) rfl,cL i,rfl,?_⟩
 rw [row_of]
 refine⟨_,rfl,dz ?_⟩
 refine⟨_,rfl,r,_,1,_,rfl,rfl,eQ.of hr1,aK (j:=1) rfl,_,rfl,nm,d,kvs,rfl,hd,hz,hl,hv,fun H1 s1=>?_⟩
 have e1:=eQ.of (K:=K) (s1 _ _ hr1)
 exact⟨_,rfl,r,_,0,_,rfl,rfl,e1,aK (j:=0) rfl,_,rfl,r,_,1,_,rfl,rfl,e1,aK (j:=1) rfl,_,rfl,r,_,2,_,rfl,rfl,e1,aK (j:=2) rfl,_,rfl,r,_,3,_,rfl,rfl,e1,aK (j:=3) rfl,_,rfl,r,_,4,_,rfl,rfl,e1,aK (j:=4) rfl,i,.str nm,a1,a2,a3,ns,is,os,rfl,hi,s1.seqA q1,s1.seqA q2,s1.seqA q3,l1,l2,l3,hV,fun H2 p s2 np P=>k _ p (s1.trans s2) (s1.free np) P⟩
inductive xO (K:PySem.W.Frag) (vs:List V) (H:Hp) (Q:VK) (E:XK):Prop where
 | mk:∀(y:Str) (a rd d:Addr) (zs:List Str) (rk kvs:List (Key×V)),vs=[.str y,.ref a,.ref rd,.ref d]->eQ K H a (zs.map V.str)->H rd=some (.dK rk)->rd≠d->H d=some (.dK kvs)->zs.Nodup->((∀z∈zs,(cg rk (Sum.inr z)).isSome=true/\cg kvs (Sum.inr z)=none))->kvs.length+zs.length<=1000->(Q .non (upd H d (.dK (kvs ++ zs.map fun l=>((Sum.inr l:Key),V.str y)))))->xO K vs H Q E
theorem yr (T:Txt w K mg t):FO P w K mg base 1 t.Ba ["part", "lanes", "rooms", "ends"] (xO K):=by
 have sc:=T.pZ.sc ["part", "lanes", "rooms", "ends", "lane"]
 refine T.pZ.F.ok sc ln (fun _ _ _ _ H vs Q E hr h=>?_)
 obtain⟨y,a,rd,d,zs,rk,kvs,rfl,hT,hrd,hne,hd,nd,hz,hlen,k⟩:=h
 refine⟨_,(aA (dD PassesOwn.never rfl (Jb (pv 1)) (gN sc 4)
   (au (bR (PW.pt (rF (il (vm hr.u1 (pv 4) (pv 2))) (kj (il (zQ hr.u1 (pv 4) (pv 3))))))
    (aA dO)
    aZ)
   (aA (fD hr.u1 (pv 3) (pv 4) (pv 0) rfl))))),?_⟩
 have hl:sizeLine=16777216:=sizeLine_eq
 refine⟨_,rfl,a,rfl,⟨_,hT⟩,Ua (K:=K) (a:=a) (xs:=zs.map V.str) (fun j σ H'=>H'=upd H d (.dK (kvs ++ (zs.take j).map fun l=>((Sum.inr l:Key),V.str y)))/\∃v4,σ=[some (.str y),some (.ref a),some (.ref rd),some (.ref d),v4]) ⟨by rw [List.take_zero,List.map_nil,List.append_nil,Jh hd],none,rfl⟩ (fun j σ H' _ ⟨e,_⟩=>by rw [e];exact fW hd hT) ?_ ?_⟩
 ·rintro j x σ H' hx ⟨rfl,v4,rfl⟩
  rw [List.getElem?_map] at hx
  obtain⟨z,hzj,rfl⟩:=Option.map_eq_some_iff.mp hx
  have hj:j <zs.length:=(List.getElem?_eq_some_iff.mp hzj).1
  obtain⟨r1,r2⟩:=hz z (List.mem_of_getElem? hzj)
  obtain⟨rv,hrv⟩:=Option.isSome_iff_exists.mp r1
  have erd:upd H d (.dK (kvs ++ (zs.take j).map fun l=>((Sum.inr l:Key),V.str y))) rd=some (.dK rk):=by rw [aH hne];exact hrd
  have nin:z∉zs.take j:=fun hm=>by
   obtain⟨i,hi,ei⟩:=List.mem_iff_getElem.mp hm
   rw [List.length_take] at hi
   rw [List.getElem_take] at ei
   have e2:zs[j]=z:=by rw [List.getElem?_eq_getElem hj] at hzj;exact Option.some.inj hzj
   have:=(List.getElem_inj nd).mp (ei.trans e2.symm)
   omega
  have none':cg (kvs ++ (zs.take j).map fun l=>((Sum.inr l:Key),V.str y)) (Sum.inr z)=none:=fL (by
   rw [List.map_append,List.mem_append,not_or]
   refine⟨fun hm=>?_,fun hm=>?_⟩
   ·have:(cg kvs (Sum.inr z)).isSome=true:=by rw [<-rK];obtain⟨p,hp,e⟩:=List.mem_map.mp hm;exact List.any_eq_true.mpr ⟨p,hp,decide_eq_true e⟩
    rw [r2] at this
    cases this
   ·rw [List.map_map] at hm
    obtain⟨b,hb,e⟩:=List.mem_map.mp hm
    cases e
    exact nin hb)
  refine⟨_,rfl,_,rfl,rd,some rv,rfl,(by rw [<-hrv];exact d7.k (k:=Sum.inr z) erd),_,rfl,dz ?_⟩
  refine⟨_,rfl,_,rfl,d,none,rfl,(by rw [<-none'];exact d7.k (k:=Sum.inr z) az),_,rfl,dz ?_⟩
  refine⟨_,rfl,_,rfl,_,rfl,d,_,rfl,j7.k (k:=Sum.inr z) az (by rw [lP,lM,List.length_take];omega),?_,_,rfl⟩
  rw [sZ,gQ _ none',List.append_assoc,List.take_succ,hzj,Option.toList_some,List.map_append]
  rfl
 ·rintro σ H' ⟨rfl,v4,rfl⟩
  rw [lM,List.take_length]
  exact k
inductive yN (K:PySem.W.Frag) (vs:List V) (H:Hp) (Q:VK) (E:XK):Prop where
 | mk:∀(r g d:Addr) (rk gk tk:List (Key×V)),vs=[.ref r,.ref g,.ref d]->H r=some (.dK rk)->H g=some (.dK gk)->H d=some (.dK tk)->r≠g->r≠d->((∀q∈rk,(cg gk q.1).isSome=true/\(cg tk q.1).isSome=true))->Q .non H->yN K vs H Q E
theorem Hd (T:Txt w K mg t):FO P w K mg base 1 t.Ak ["rooms", "givers", "takers"] (yN K):=by
 have sc:=T.ut.sc ["rooms", "givers", "takers", "lane"]
 refine T.ut.F.ok sc ln (fun _ _ _ _ H vs Q E hr h=>?_)
 obtain⟨r,g,d,rk,gk,tk,rfl,h1,h2,h3,n1,n2,hA,k⟩:=h
 refine⟨_,(aA (zj (H0:=H) rfl (dD PassesOwn.never rfl (yK (pv 0)) (gN sc 3)
   (aA (bR (PW.pt (rF (il (vm hr.u1 (pv 3) (pv 1))) (kj (il (vm hr.u1 (pv 3) (pv 2))))))
    (aA dO)
    aZ))))),?_⟩
 refine⟨_,rfl,r,_,rfl,h1,fun o=>yg (fun j σ H'=>H'=upd H r (.frz o (.dK rk))/\∃v3,σ=[some (.ref r),some (.ref g),some (.ref d),v3]) ⟨rfl,none,rfl⟩ (fun j σ H' _ ⟨e,_⟩=>by rw [e];exact az) ?_ ?_⟩
 ·rintro j kk w σ H' hj ⟨rfl,v3,rfl⟩
  obtain⟨a1,a2⟩:=hA _ (List.mem_of_getElem? hj)
  obtain⟨u1,b1⟩:=Option.isSome_iff_exists.mp a1
  obtain⟨u2,b2⟩:=Option.isSome_iff_exists.mp a2
  have e2:upd H r (.frz o (.dK rk)) g=some (.dK gk):=by rw [aH (Ne.symm n1)];exact h2
  have e3:upd H r (.frz o (.dK rk)) d=some (.dK tk):=by rw [aH (Ne.symm n2)];exact h3
  exact⟨_,rfl,_,rfl,g,some u1,rfl,(by rw [<-b1];exact d7.k e2),_,rfl,dz ⟨_,rfl,_,rfl,d,some u2,rfl,(by rw [<-b2];exact d7.k e3),_,rfl,dz ⟨rfl,_,rfl⟩⟩⟩
 ·rintro σ H' ⟨rfl,v3,rfl⟩
  refine⟨_,⟨r,o,_,az,?_,rfl⟩,?_⟩
  ·intro o' u' z
   rw [show H r=_ from h1] at z
   cases z
  ·rw [sZ,Jh h1]
   exact k
noncomputable def Q0 (H:Hp) (J:Addr):List (Key×V):=match H J with
 | some (.dK jk)=>jk
 | _=>[]
theorem Nu {H:Hp} {J:Addr} {jk:List (Key×V)} (h:H J=some (.dK jk)):Q0 H J=jk:=by
 unfold Q0
 rw [h]
theorem Rg {f:PD->List Str} {ps:List PD} {j:Nat} {k:Key} {v:V} (h:(cY f ps)[j]?=some (k,v)):∃p∈ps,∃l∈f p,k=Sum.inr l/\v=.str p.name:=by
 have:=List.mem_of_getElem? h
 unfold cY at this
 obtain⟨p,hp,hm⟩:=List.mem_flatMap.mp this
 obtain⟨l,hl,e⟩:=List.mem_map.mp hm
 cases e
 exact⟨p,hp,l,hl,rfl,rfl⟩
noncomputable def Qj (ps:List PD) (jk:List (Key×V)) (j:Nat):Prop:=∀i k v,i <j->(cY (·.outs) ps)[i]?=some (k,v)->∀a∈ps,∀b∈ps,∀l,k=Sum.inr l->l∈a.outs->l∈b.ins->gO jk a.name=gO jk b.name
theorem Qj.all {ps:List PD} {jk:List (Key×V)} (h:Qj ps jk (cY (·.outs) ps).length):∀a∈ps,∀b∈ps,∀l,l∈a.outs->l∈b.ins->gO jk a.name=gO jk b.name:=fun a ha b hb l la lb=>by
 have hm:((Sum.inr l:Key),V.str a.name)∈cY (·.outs) ps:=List.mem_flatMap.mpr ⟨a,ha,List.mem_map.mpr ⟨l,la,rfl⟩⟩
 obtain⟨i,hi,ei⟩:=List.mem_iff_getElem.mp hm
 exact h i _ _ hi (by rw [List.getElem?_eq_getElem hi,ei]) a ha b hb l rfl la lb
inductive tY (K:PySem.W.Frag) (vs:List V) (H:Hp) (Q:VK) (E:XK):Prop where
 | mk:∀(p0:PD) (g d:Addr) (ps:List PD),vs=[.str p0.name,.ref g,.ref d]->p0∈ps->ps.length<=16->H g=some (.dK (cY (·.outs) ps))->H d=some (.dK (cY (·.ins) ps))->g≠d->(ps.flatMap (·.outs)).Nodup->(ps.flatMap (·.ins)).Nodup->(ps.flatMap (·.outs)).Perm (ps.flatMap (·.ins))->((∃y,∀q∈ps,∃x∈q.ins ++ q.outs,Drawn.jx ps x y))->(∀H' J jk,aM H H'->H' J=some (.dK jk)->(∀p∈ps,gO jk p.name=true)->Q (.ref J) H')->tY K vs H Q E
theorem Cq (T:Txt w K mg t):FO P w K mg base 1 t.wj ["part", "givers", "takers"] (tY K):=by
 have sc:=T.qN.sc ["part", "givers", "takers", "joined", "grown", "lane"]
 refine T.qN.F.ok sc ln (fun _ _ _ _ H vs Q E hr h=>?_)
 obtain⟨p0,g,d,ps,rfl,hp0,hps,h1,h2,n1,no,ni,pm,hang,k⟩:=h
 refine⟨_,(au (sN sc 3 (Sy (Ra (pv 0) iu Uv) rfl rfl (by simp) (by decide)))
  (au (sN sc 4 iu)
  (au (yZ PassesOwn.never (jo (pv 4))
   (au (sN sc 4 iu)
   (aA (zj (H0:=H) rfl (dD PassesOwn.never rfl (yK (pv 1)) (gN sc 5)
    (aA (fu (bR (aW JZ (HJ (zQ hr.u1 (bV hr.u1 (pv 1) (pv 5) (fun _ _=>rfl)) (pv 3))) (HJ (zQ hr.u1 (bV hr.u1 (pv 2) (pv 5) (fun _ _=>rfl)) (pv 3))) (bC _))
     (au (fD hr.u1 (pv 3) (bV hr.u1 (pv 1) (pv 5) (fun _ _=>rfl)) iu rfl)
     (au (fD hr.u1 (pv 3) (bV hr.u1 (pv 2) (pv 5) (fun _ _=>rfl)) iu rfl)
     (aA (sN sc 4 iu))))
     aZ))))))))
  (aA (aN (pv 3)))))),?_⟩
 have hl:sizeLine=16777216:=sizeLine_eq
 refine fun J nJ=>⟨_,rfl,az,[((Sum.inr p0.name:Key),V.bl true)],rfl,by show 1<=15;decide,?_⟩
 rw [sZ]
 have s0:aM H (upd H J (.dK (uW [] [((Sum.inr p0.name:Key),V.bl true)]))):=aB nJ
 have e0:(upd H J (.dK (uW [] [((Sum.inr p0.name:Key),V.bl true)]))) J=some (.dK [((Sum.inr p0.name:Key),V.bl true)]):=az
 generalize upd H J (.dK (uW [] [((Sum.inr p0.name:Key),V.bl true)]))=H0 at s0 e0 ⊢
 have ngJ:J≠g:=Ne.symm (aF h1 nJ)
 have ndJ:J≠d:=Ne.symm (aF h2 nJ)
 have melt:∀{H':Hp} {o:Obj},lQ g H H'->H' g=some (.frz o (.dK (cY (·.outs) ps)))->aM H (upd H' g (.dK (cY (·.outs) ps))):=fun hb hg b u e=>by
  by_cases h:b=g
  ·subst h;rw [az];rw [h1] at e;exact e
  ·rw [aH h];exact hb b u h e
 have m0:pM ps [((Sum.inr p0.name:Key),V.bl true)]<=16:=Nat.le_trans (List.length_filter_le _ _) hps
 refine xY (fun σ H'=>aM H H'/\∃b v5 jk,σ=[some (.str p0.name),some (.ref g),some (.ref d),some (.ref J),some (.bl b),v5]/\H' J=some (.dK jk)/\gO jk p0.name=true/\jk.length+2 * pM ps jk<=40/\(b=false->Qj ps jk (cY (·.outs) ps).length))
  (fun σ H'=>match σ with | [_,_,_,_,some (.bl b),_]=>(if b then 1 else 0)+2 * pM ps (Q0 H' J) | _=>0) ⟨s0,true,none,_,rfl,e0,by simp [gO,cg],by rw [List.length_singleton];omega,by intro z;cases z⟩ ?_ ?_
 ·rintro σ H1 ⟨s1,b,v5,jk,rfl,hJ,hp,hlen,hev⟩
  cases b with
  | false=>exact⟨_,rfl,_,rfl,dz ⟨_,rfl,k _ J jk s1 hJ (VG no ni pm hang (hev rfl).all hp0 hp)⟩⟩
  | true=>
   refine⟨_,rfl,_,rfl,gj ?_⟩
   refine⟨_,rfl,g,_,rfl,s1 _ _ h1,fun o=>?_⟩
   have gD:∀{H':Hp},lQ g H H'->H' d=some (.dK (cY (·.ins) ps)):=fun hb=>hb d _ (Ne.symm n1) h2
   refine yg (fun j σ H'=>lQ g H H'/\H' g=some (.frz o (.dK (cY (·.outs) ps)))/\∃b v5 jk',σ=[some (.str p0.name),some (.ref g),some (.ref d),some (.ref J),some (.bl b),v5]/\H' J=some (.dK jk')/\gO jk' p0.name=true/\jk'.length+2 * pM ps jk'<=40/\((b=false/\jk'=jk/\Qj ps jk j)∨(b=true/\pM ps jk' <pM ps jk)))
    ⟨fun b u hn e=>by rw [aH hn];exact s1 b u e,az,false,v5,jk,rfl,by rw [aH ngJ];exact hJ,hp,hlen,.inl ⟨rfl,rfl,fun i _ _ hi=>absurd hi (by omega)⟩⟩ (fun j σ H' _ h=>h.2.1) ?_ ?_
   ·rintro j kk w σ H' hj ⟨hb,hg,b,v5,jk',rfl,hJ',hp',hlen',hv⟩
    obtain⟨a,ha,l,la,rfl,rfl⟩:=Rg hj
    obtain⟨b',hb',lb⟩:=List.mem_flatMap.mp (pm.mem_iff.mp (List.mem_flatMap.mpr ⟨a,ha,la⟩))
    have ga:d7 H' g (.str l) (some (.str a.name)):=.inl ⟨_,Sum.inr l,.inr ⟨o,hg⟩,rfl,(jg no ha la).symm⟩
    have gb:d7 H' d (.str l) (some (.str b'.name)):=by rw [<-jg ni hb' lb];exact d7.k (k:=Sum.inr l) (gD hb)
    have ja:d7 H' J (.str a.name) (cg jk' (Sum.inr a.name)):=d7.k (k:=Sum.inr a.name) hJ'
    have jb:d7 H' J (.str b'.name) (cg jk' (Sum.inr b'.name)):=d7.k (k:=Sum.inr b'.name) hJ'
    have nm:∀a2∈ps,∀b2∈ps,l∈a2.outs->l∈b2.ins->a2.name=a.name/\b2.name=b'.name:=fun a2 ha2 b2 hb2 q1 q2=>by
     have e1:=jg no ha2 q1
     rw [jg no ha la] at e1
     have e2:=jg ni hb2 q2
     rw [jg ni hb' lb] at e2
     simp only [Option.some.injEq,V.str.injEq] at e1 e2
     exact⟨e1.symm,e2.symm⟩
    refine⟨fun σ H''=>lQ g H H''/\H'' g=some (.frz o (.dK (cY (·.outs) ps)))/\∃b jk'',σ=[some (.str p0.name),some (.ref g),some (.ref d),some (.ref J),some (.bl b),some (.str l)]/\H'' J=some (.dK jk'')/\gO jk'' p0.name=true/\jk''.length+2 * pM ps jk''<=40/\((b=false/\jk''=jk/\Qj ps jk (j+1))∨(b=true/\pM ps jk'' <pM ps jk)),?_,?_⟩
    ·refine⟨_,rfl,_,rfl,g,_,rfl,ga,_,rfl,J,_,rfl,ja,?_⟩
     refine⟨_,rfl,_,rfl,d,_,rfl,gb,_,rfl,J,_,rfl,jb,rfl,_,rfl,?_⟩
     change if (!decide (V.bl (gO jk' a.name)=V.bl (gO jk' b'.name)))=true then _ else _
     refine jy (fun hne=>?_) (fun heq=>?_)
     ·have hne':gO jk' a.name≠gO jk' b'.name:=fun z=>by rw [z] at hne;simp at hne
      refine⟨_,rfl,_,rfl,_,rfl,g,_,rfl,ga,J,_,rfl,j7.k (k:=Sum.inr a.name) hJ' (by omega),?_⟩
      have b2:lQ g H (upd H' J (.dK (putK jk' (Sum.inr a.name) (.bl true)))):=fun x u hn e=>by rw [aH (aF e nJ)];exact hb x u hn e
      have g2:(upd H' J (.dK (putK jk' (Sum.inr a.name) (.bl true)))) g=some (.frz o (.dK (cY (·.outs) ps))):=by rw [aH (Ne.symm ngJ)];exact hg
      have gb2:d7 (upd H' J (.dK (putK jk' (Sum.inr a.name) (.bl true)))) d (.str l) (some (.str b'.name)):=by rw [<-jg ni hb' lb];exact d7.k (k:=Sum.inr l) (gD b2)
      have len1:=lY jk' (Sum.inr a.name:Key) (.bl true)
      have len2:=lY (putK jk' (Sum.inr a.name) (.bl true)) (Sum.inr b'.name:Key) (.bl true)
      refine⟨_,rfl,_,rfl,_,rfl,d,_,rfl,gb2,J,_,rfl,j7.k (k:=Sum.inr b'.name) az (by omega),?_⟩
      rw [sZ]
      have has2:∀x,gO (putK (putK jk' (Sum.inr a.name) (.bl true)) (Sum.inr b'.name) (.bl true)) x=(decide (x=b'.name) || (decide (x=a.name) || gO jk' x)):=fun x=>by rw [JL,JL]
      have mono:∀x,gO jk' x=true->gO (putK (putK jk' (Sum.inr a.name) (.bl true)) (Sum.inr b'.name) (.bl true)) x=true:=fun x hx=>by rw [has2,hx];simp
      have lt:pM ps (putK (putK jk' (Sum.inr a.name) (.bl true)) (Sum.inr b'.name) (.bl true)) <pM ps jk':=by
       cases hA:gO jk' a.name
       ·exact Kq mono ha hA (by rw [has2];simp)
       ·cases hB:gO jk' b'.name
        ·exact Kq mono hb' hB (by rw [has2];simp)
        ·rw [hA,hB] at hne';exact absurd rfl hne'
      refine⟨fun x u hn e=>by rw [aH (aF e nJ)];exact hb x u hn e,by rw [aH (Ne.symm ngJ)];exact hg,true,_,rfl,az,mono _ hp',by omega,.inr ⟨rfl,?_⟩⟩
      rcases hv with ⟨_,rfl,_⟩ | ⟨_,hv⟩
      ·exact lt
      ·omega
     ·have heq':gO jk' a.name=gO jk' b'.name:=by
       cases hA:gO jk' a.name <;> cases hB:gO jk' b'.name <;> rw [hA,hB] at heq <;> simp_all
      refine⟨hb,hg,b,jk',rfl,hJ',hp',hlen',?_⟩
      rcases hv with ⟨rfl,rfl,hE⟩ | hv
      ·refine .inl ⟨rfl,rfl,fun i k2 v2 hi e2 a2 ha2 b2 hb2 l2 ek q1 q2=>?_⟩
       rcases Nat.lt_or_ge i j with h | h
       ·exact hE i k2 v2 h e2 a2 ha2 b2 hb2 l2 ek q1 q2
       ·have:i=j:=by omega
        subst this
        rw [hj] at e2
        cases e2
        cases ek
        obtain⟨x1,x2⟩:=nm a2 ha2 b2 hb2 q1 q2
        rw [x1,x2]
        exact heq'
      ·exact .inr hv
    ·rintro σ H'' ⟨hb,hg,b,jk'',rfl,r⟩
     exact⟨hb,hg,b,_,jk'',rfl,r⟩
   ·rintro σ H' ⟨hb,hg,b,v5',jk',rfl,hJ',hp',hlen',hv⟩
    refine⟨_,⟨g,o,_,hg,(fun o' u' z=>by rw [show H g=_ from h1] at z;cases z),rfl⟩,?_⟩
    have eJ:(upd H' g (.dK (cY (·.outs) ps))) J=some (.dK jk'):=by rw [aH ngJ];exact hJ'
    refine⟨⟨melt hb hg,b,v5',jk',rfl,eJ,hp',hlen',fun z=>?_⟩,?_⟩
    ·rcases hv with ⟨_,rfl,hE⟩ | ⟨h,_⟩
     ·exact hE
     ·rw [h] at z;cases z
    ·show(if b=true then 1 else 0)+2 * pM ps (Q0 _ J) <(if true=true then 1 else 0)+2 * pM ps (Q0 _ J)
     rw [Nu eJ,Nu hJ]
     rcases hv with ⟨rfl,rfl,_⟩ | ⟨rfl,h⟩
     ·simp
     ·simp;omega
 ·intro σ H' Q' Q'' hm hq
  obtain⟨v,e,b,e2,q⟩:=hq
  exact⟨v,e,b,e2,hm _ _ q⟩
inductive u0 (K:PySem.W.Frag) (vs:List V) (H:Hp) (Q:VK) (E:XK):Prop where
 | mk:∀(L g d:Addr) (ps:List PD),vs=[.ref L,.ref g,.ref d]->(bI K H L (ps.map fun p=>V.str p.name))->1<=ps.length->ps.length<=16->H g=some (.dK (cY (·.outs) ps))->H d=some (.dK (cY (·.ins) ps))->g≠d->(ps.flatMap (·.outs)).Nodup->(ps.flatMap (·.ins)).Nodup->(ps.flatMap (·.outs)).Perm (ps.flatMap (·.ins))->((∃y,∀q∈ps,∃x∈q.ins ++ q.outs,Drawn.jx ps x y))->(∀H',aM H H'->Q .non H')->u0 K vs H Q E
theorem Eb (T:Txt w K mg t):FO P w K mg base 2 t.ww ["names", "givers", "takers"] (u0 K):=by
 have sc:=T.qz.sc ["names", "givers", "takers", "joined", "name"]
 refine T.qz.F.ok sc ln (fun _ _ _ _ H vs Q E hr h=>?_)
 obtain⟨L,g,d,ps,rfl,hL,hp1,hps,h1,h2,n1,no,ni,pm,hang,k⟩:=h
 refine⟨_,(au (sN sc 3 (dZ (Cq T) T.qN hr (aa (aR aO (pv 0) aq (fun _ _=>rfl)) (aa (pv 1) (aa (pv 2) ak aj) aj) aD)))
  (aA (dD PassesOwn.never rfl (b8 (pv 0)) (gN sc 4)
   (aA (bR (il (vm hr.u1 (pv 4) (pv 3)))
    (aA dO)
    aZ))))),?_⟩
 obtain⟨p0,pr,rfl⟩:∃p0 pr,ps=p0:: pr:=by
  cases ps with
  | nil=>simp at hp1
  | cons a r=>exact⟨a,r,rfl⟩
 refine⟨_,rfl,L,_,0,_,rfl,rfl,hL,aK (j:=0) rfl,_,rfl,_,rfl,p0,g,d,_,rfl,List.mem_cons_self,hps,h1,h2,n1,no,ni,pm,hang,fun H1 J jk s1 eJ hA=>?_⟩
 refine⟨_,rfl,L,rfl,⟨_,s1.seq hL⟩,cU (K:=K) (a:=L) (xs:=(p0:: pr).map fun p=>V.str p.name) (fun j σ H'=>H'=H1/\∃v4,σ=[some (.ref L),some (.ref g),some (.ref d),some (.ref J),v4]) ⟨rfl,none,rfl⟩ (fun j σ H' _ ⟨e,_⟩=>by rw [e];exact s1.seq hL) ?_ ?_⟩
 ·rintro j x σ H' hx ⟨rfl,v4,rfl⟩
  rw [List.getElem?_map] at hx
  obtain⟨p,hp,rfl⟩:=Option.map_eq_some_iff.mp hx
  obtain⟨u,hu⟩:=Option.isSome_iff_exists.mp (hA p (List.mem_of_getElem? hp))
  exact⟨_,rfl,_,rfl,J,some u,rfl,(by rw [<-hu];exact d7.k (k:=Sum.inr p.name) eJ),_,rfl,dz ⟨rfl,_,rfl⟩⟩
 ·rintro σ H' ⟨rfl,v4,rfl⟩
  exact k _ s1
inductive qd (K:PySem.W.Frag) (t:jN) (vs:List V) (H:Hp) (Q:VK) (E:XK):Prop where
 | mk:∀(n:Addr) (ls:List aG) (ps:List PD),vs=[.ref n]->iK K t H n ls ps->(∀l,H l=none->Q (.ref l) (upd H l (.lst (ls.map fun x=>V.str x.name))))->qd K t vs H Q E
theorem qp (T:Txt w K mg t):FO P w K mg base 1 t.lu ["self"] (qd K t):=by
 have sc:=T.ji.sc ["self"]
 refine T.ji.F.ok sc ln (fun _ _ _ _ H vs Q E hr h=>?_)
 obtain⟨n,ls,ps,rfl,N,k⟩:=h
 refine⟨_,(aA (aN (dg (oV rfl) (by rfl) T.pB j0 (aa (bh (pv 0) rfl) ak bJ)))),?_⟩
 obtain⟨dx,fs,R,F,Pd,G,Tk,FL,PL,W⟩:=id N
 refine⟨_,rfl,n,_,dx,fs,_,rfl,W.obj,T.bu.c,T.bu.na.1,W.fl.has ("rooms",.ref R) (by simp),R,_,rfl,.inl W.rooms,fun l hl=>?_⟩
 unfold fc
 rw [List.map_map]
 exact k l hl
inductive pQ (K:PySem.W.Frag) (t:jN) (vs:List V) (H:Hp) (Q:VK) (E:XK):Prop where
 | mk:∀(n:Addr) (ls:List aG) (ps:List PD),vs=[.ref n]->iK K t H n ls ps->(∀l,H l=none->Q (.ref l) (upd H l (.lst (ps.map fun x=>V.str x.name))))->pQ K t vs H Q E
theorem jR (T:Txt w K mg t):FO P w K mg base 1 t.lr ["self"] (pQ K t):=by
 have sc:=T.gf.sc ["self"]
 refine T.gf.F.ok sc ln (fun _ _ _ _ H vs Q E hr h=>?_)
 obtain⟨n,ls,ps,rfl,N,k⟩:=h
 refine⟨_,(aA (aN (dg (oV rfl) (by rfl) T.pB j0 (aa (bh (pv 0) rfl) ak bJ)))),?_⟩
 obtain⟨dx,fs,R,F,Pd,G,Tk,FL,PL,W⟩:=id N
 refine⟨_,rfl,n,_,dx,fs,_,rfl,W.obj,T.bu.c,T.bu.na.2.2.1,W.fl.has ("parts",.ref Pd) (by simp),Pd,_,rfl,.inl W.parts,fun l hl=>?_⟩
 unfold eO
 rw [List.map_map]
 have e:ps.map (fun x=>V.str x.name)=PL.map (fun q=>V.str q.1.name):=by rw [<-W.pls,List.map_map];rfl
 rw [e] at k
 exact k l hl
theorem TV (T:Txt w K mg t) (i:Nat):MethAt P w K mg base CP 1 (cls t i) "kind" (je i):=match i with
 | 0=>⟨_,_,_,T.iH.c,(T.qb.me T.iH.me.2.1),T.qb.b,Ho T⟩
 | 1=>⟨_,_,_,T.iD.c,(T.pW.me T.iD.me.2.1),T.pW.b,Ht T⟩
 | 2=>⟨_,_,_,T.iV.c,(T.p8.me T.iV.me.2.1),T.p8.b,Hq T⟩
 | 3=>⟨_,_,_,T.iG.c,(T.pR.me T.iG.me.2.1),T.pR.b,Hy T⟩
 | 4=>⟨_,_,_,T.iY.c,(T.qw.me T.iY.me.2.1),T.qw.b,HR T⟩
 | 5=>⟨_,_,_,T.iI.c,(T.qi.me T.iI.me.2.1),T.qi.b,Im T⟩
 | 6=>⟨_,_,_,T.mC.c,(T.sO.me T.mC.me.2.1),T.sO.b,Jo T⟩
 | 7=>⟨_,_,_,T.iW.c,(T.qu.me T.iW.me.2.1),T.qu.b,G8 T⟩
 | 8=>⟨_,_,_,T.fK.c,(T.oG.me T.fK.me.2.1),T.oG.b,EY T⟩
 | 9=>⟨_,_,_,T.d8.c,(T.lK.me T.d8.me.2.1),T.lK.b,Cv T⟩
 | n+10=>⟨_,_,_,T.fO.c,(T.oJ.me T.fO.me.2.1),T.oJ.b,Fj T⟩
inductive mD (K:PySem.W.Frag) (t:jN) (vs:List V) (H:Hp) (Q:VK) (E:XK):Prop where
 | mk:∀(n:Addr) (ls:List aG) (ps:List PD) (x:Str),vs=[.ref n,.str x]->iK K t H n ls ps->(∀p,H p=none->Q (.ref p) (upd H p (.lst (dF ps x))))->mD K t vs H Q E
theorem mj (T:Txt w K mg t):FO P w K mg base 2 t.jt ["self", "kind"] (mD K t):=by
 have sc:=T.fZ.sc ["self", "kind"]
 refine T.fZ.F.ok sc ln (fun _ _ _ _ H vs Q E hr h=>?_)
 obtain⟨n,ls,ps,x,rfl,N,k⟩:=h
 refine⟨_,(aA (aN (Ux (H0:=H) rfl (iT [0,1] ["self", "kind"] (bc (inClass (top 55) 5)) rfl (yK (bh (pv 0) rfl)) (fun _ _ _ _ _=>(wZ (aW dU (Mf (P:=P) (w:=w) (K:=K) (mg:=mg) (base:=base) (CX:=CP) (k:=1) (E:=E0) rfl rfl rfl rfl rfl (bV hr.u1 (Il (K:=K) rfl (pv 1) rfl) (pv 0) (fun _ _=>rfl)) (hr.mono (by decide)) iy) (pv 2) (bC _)))) (fun _ _ _ _ _=>(pv 0)))))),?_⟩
 obtain⟨dx,fs,R,F,Pd,G,Tk,FL,PL,W⟩:=id N
 have hz:sizeLine=16777216:=sizeLine_eq
 have hp:=W.fit.p16
 have h5:=W.parts
 have lpl:PL.length=ps.length:=by rw [<-W.pls,lM]
 refine⟨_,rfl,n,_,dx,fs,_,rfl,W.obj,T.bu.c,T.bu.na.2.2.1,W.fl.has ("parts",.ref Pd) (by simp),Pd,_,rfl,h5,fun o=>?_⟩
 refine Oe (fun j ys H'=>H'=upd H Pd (.frz o (.dK (eO PL)))/\ys=dF ((PL.take j).map (·.1)) x) (by unfold eO;rw [lM];omega) ⟨rfl,by simp [dF]⟩ ?_ ?_ ?_ ?_
 ·rintro j ys H' ⟨_,rfl⟩
  have:=rD ((PL.take j).map (·.1)) x
  rw [lM,List.length_take] at this
  omega
 ·rintro j ys H' _ ⟨rfl,_⟩
  exact az
 ·rintro j kk v ys H' hj ⟨rfl,rfl⟩
  unfold eO at hj
  rw [List.getElem?_map] at hj
  obtain⟨q,hq,e⟩:=Option.map_eq_some_iff.mp hj
  cases e
  have hm:=List.mem_of_getElem? hq
  obtain⟨dxp,tn,ti,to,p1,p2,p3,p4⟩:=((W.pats q hm).chill (v:=.frz o (.dK (eO PL))) h5).ex
  refine⟨_,rfl,n,_,dx,fs,_,rfl,jK h5 W.obj (by intro _ z;cases z),T.bu.c,T.bu.na.2.2.1,W.fl.has ("parts",.ref Pd) (by simp),_,rfl,Pd,_,rfl,(by rw [<-W.partV hm];exact .inl ⟨_,Sum.inr q.1.name,.inr ⟨o,az⟩,rfl,rfl⟩),?_⟩
  refine⟨q.2,cls t q.1.kind,dxp,_,je q.1.kind,rfl,p1,vH _ _ _ _ (by decide +kernel) (by decide +kernel) (by decide +kernel) (by decide +kernel),TV T q.1.kind,_,rfl,_,rfl,rfl,_,rfl,?_⟩
  rw [List.take_succ,hq,Option.toList_some,List.map_append,List.map_singleton,Gp]
  refine jy (fun e=>?_) (fun e=>?_)
  ·have e':cL q.1.kind=x:=by simpa using e
   rw [if_pos e']
   exact⟨_,rfl,rfl,rfl⟩
  ·have e':¬cL q.1.kind=x:=by simpa using e
   rw [if_neg e']
   exact⟨rfl,rfl⟩
 ·rintro ys H' ⟨rfl,rfl⟩ D hD
  refine⟨_,⟨Pd,o,eO PL,?_,?_,rfl⟩,?_⟩
  ·rw [aH (by rintro rfl;rw [az] at hD;cases hD)]
   exact az
  ·intro o' u z
   rw [show H Pd=_ from h5] at z
   cases z
  ·rw [Pa h5 hD]
   have:=k D (K9 hD)
   rw [show(eO PL).length=PL.length by unfold eO;rw [lM],List.take_length,W.pls]
   exact this
inductive yt (K:PySem.W.Frag) (t:jN) (vs:List V) (H:Hp) (Q:VK) (E:XK):Prop where
 | mk:∀(n:Addr) (ls:List aG) (ps:List PD),vs=[.ref n]->iK K t H n ls ps->(∀p,H p=none->Q (.ref p) (upd H p (.lst (dF ps "give"))))->yt K t vs H Q E
theorem rY (T:Txt w K mg t):FO P w K mg base 3 t.uT ["self"] (yt K t):=by
 have sc:=T.lX.sc ["self"]
 refine T.lX.F.ok sc ln (fun _ _ _ _ H vs Q E hr h=>?_)
 obtain⟨n,ls,ps,rfl,N,k⟩:=h
 refine⟨_,(aA (aN (wQ (pv 0) T.bu T.bu.me.2.2.2.1 (mj T) T.fZ hr (aa bK ak ao)))),?_⟩
 obtain⟨dx,fs,R,F,Pd,G,Tk,FL,PL,W⟩:=id N
 exact⟨_,rfl,n,dx,fs,rfl,W.obj,W.fl.no _ (by decide +kernel),n,ls,ps,_,rfl,N,k⟩
inductive yz (K:PySem.W.Frag) (t:jN) (vs:List V) (H:Hp) (Q:VK) (E:XK):Prop where
 | mk:∀(n:Addr) (ls:List aG) (ps:List PD),vs=[.ref n]->iK K t H n ls ps->(∀p,H p=none->Q (.ref p) (upd H p (.lst (dF ps "take"))))->yz K t vs H Q E
theorem yf (T:Txt w K mg t):FO P w K mg base 3 t.uV ["self"] (yz K t):=by
 have sc:=T.pY.sc ["self"]
 refine T.pY.F.ok sc ln (fun _ _ _ _ H vs Q E hr h=>?_)
 obtain⟨n,ls,ps,rfl,N,k⟩:=h
 refine⟨_,(aA (aN (wQ (pv 0) T.bu T.bu.me.2.2.2.1 (mj T) T.fZ hr (aa bK ak ao)))),?_⟩
 obtain⟨dx,fs,R,F,Pd,G,Tk,FL,PL,W⟩:=id N
 exact⟨_,rfl,n,dx,fs,rfl,W.obj,W.fl.no _ (by decide +kernel),n,ls,ps,_,rfl,N,k⟩
inductive j9 (K:PySem.W.Frag) (t:jN) (vs:List V) (H:Hp) (Q:VK) (E:XK):Prop where
 | mk:∀(n:Addr) (ls:List aG) (ps:List PD) (x:Str),vs=[.ref n,.str x]->iK K t H n ls ps->(((x∈ls.map (·.name)/\∀H',aM H H'->Q .non H')∨False))->j9 K t vs H Q E
theorem fB (T:Txt w K mg t):FO P w K mg base 2 t.iC ["self", "name"] (j9 K t):=by
 have sc:=T.dH.sc ["self", "name"]
 refine T.dH.F.ok sc ln (fun _ _ _ _ H vs Q E hr h=>?_)
 obtain⟨n,ls,ps,x,rfl,N,h⟩:=h
 refine⟨_,(aA (bR (aW jf (pv 1) (Sd (pv 0) T.bu T.bu.me.2.1 (qp T) T.ji hr) (by with_unfolding_all rfl))
   (aA dO)
   aZ)),?_⟩
 obtain⟨dx,fs,R,F,Pd,G,Tk,FL,PL,W⟩:=id N
 refine⟨_,rfl,_,rfl,n,dx,fs,rfl,W.obj,W.fl.no _ (by decide +kernel),n,ls,ps,rfl,N,fun l hl=>?_⟩
 have s1:=aB (o:=.lst (ls.map fun x=>V.str x.name)) hl
 refine⟨l,_,rfl,.inl (bI.of az),rfl,by simp [mF],_,rfl,?_⟩
 rw [Kf (f:=fun x:aG=>x.name)]
 rcases h with ⟨hx,k⟩ | h
 ·rw [decide_eq_true hx]
  exact dz (k _ s1)
 ·exact h.elim
inductive uB (K:PySem.W.Frag) (t:jN) (vs:List V) (H:Hp) (Q:VK) (E:XK):Prop where
 | mk:∀(n:Addr) (ls:List aG) (ps:List PD) (x:Str),vs=[.ref n,.str x]->iK K t H n ls ps->(((∃l∈ls,l.name=x/\∀H',aM H H'->Q (.int l.room) H')∨False))->uB K t vs H Q E
theorem Dr (T:Txt w K mg t):FO P w K mg base 3 t.qD ["self", "name"] (uB K t):=by
 have sc:=T.qU.sc ["self", "name"]
 refine T.qU.F.ok sc ln (fun _ _ _ _ H vs Q E hr h=>?_)
 obtain⟨n,ls,ps,x,rfl,N,h⟩:=h
 refine⟨_,(au (bL (wQ (pv 0) T.bu T.bu.me.2.2.2.2.2.2.1 (fB T) T.dH hr (aa (pv 1) ak aj)))
  (aA (aN (bV hr.u1 (bh (pv 0) rfl) (pv 1) (fun _ _=>rfl))))),?_⟩
 obtain⟨dx,fs,R,F,Pd,G,Tk,FL,PL,W⟩:=id N
 refine⟨_,rfl,n,dx,fs,rfl,W.obj,W.fl.no _ (by decide +kernel),_,rfl,n,ls,ps,x,rfl,N,?_⟩
 rcases h with ⟨l,hl,rfl,k⟩ | h
 ·refine .inl ⟨List.mem_map.mpr ⟨l,hl,rfl⟩,fun H1 s1=>?_⟩
  have W1:=W.same s1
  have hv:=W1.room hl
  refine⟨_,rfl,n,_,dx,fs,_,rfl,W1.obj,T.bu.c,T.bu.na.1,W1.fl.has ("rooms",.ref R) (by simp),_,rfl,R,_,rfl,(by rw [<-hv];exact d7.k (k:=Sum.inr l.name) W1.rooms),?_⟩
  exact k _ s1
 ·exact .inr h
inductive tD (K:PySem.W.Frag) (t:jN) (vs:List V) (H:Hp) (Q:VK) (E:XK):Prop where
 | mk:∀(n:Addr) (ls:List aG) (ps:List PD) (x:Str),vs=[.ref n,.str x]->iK K t H n ls ps->(((∃l∈ls,l.name=x/\∀H' p,aM H H'->H p=none->H' p=some (.lst (l.first.map V.int))->Q (.ref p) H')∨False))->tD K t vs H Q E
theorem Bq (T:Txt w K mg t):FO P w K mg base 3 t.pG ["self", "name"] (tD K t):=by
 have sc:=T.pI.sc ["self", "name"]
 refine T.pI.F.ok sc ln (fun _ _ _ _ H vs Q E hr h=>?_)
 obtain⟨n,ls,ps,x,rfl,N,h⟩:=h
 refine⟨_,(au (bL (wQ (pv 0) T.bu T.bu.me.2.2.2.2.2.2.1 (fB T) T.dH hr (aa (pv 1) ak aj)))
  (aA (aN (dg jU (by rfl) T.pB j0 (aa (bV hr.u1 (bh (pv 0) rfl) (pv 1) (fun _ _=>rfl)) ak aD))))),?_⟩
 obtain⟨dx,fs,R,F,Pd,G,Tk,FL,PL,W⟩:=id N
 refine⟨_,rfl,n,dx,fs,rfl,W.obj,W.fl.no _ (by decide +kernel),_,rfl,n,ls,ps,x,rfl,N,?_⟩
 rcases h with ⟨l,hl,rfl,k⟩ | h
 ·refine .inl ⟨List.mem_map.mpr ⟨l,hl,rfl⟩,fun H1 s1=>?_⟩
  have W1:=W.same s1
  obtain⟨q,hq,eq⟩:∃q∈FL,q.1=l:=by
   rw [<-W.fls] at hl
   obtain⟨q,hq,e⟩:=List.mem_map.mp hl
   exact⟨q,hq,e⟩
  subst eq
  have hv:=W1.firstV hq
  refine⟨_,rfl,n,_,dx,fs,_,rfl,W1.obj,T.bu.c,T.bu.na.2.1,W1.fl.has ("firsts",.ref F) (by simp),_,rfl,F,_,rfl,(by rw [<-hv];exact d7.k (k:=Sum.inr q.1.name) W1.firsts),?_⟩
  exact⟨q.2,_,rfl,.inr (W1.tups q hq),fun p hp=>k _ p (s1.trans (aB hp)) (s1.free hp) az⟩
 ·exact .inr h
inductive uI (K:PySem.W.Frag) (t:jN) (vs:List V) (H:Hp) (Q:VK) (E:XK):Prop where
 | mk:∀(n:Addr) (ls:List aG) (ps:List PD) (x:Str),vs=[.ref n,.str x]->iK K t H n ls ps->(((∃p∈ps,p.name=x/\∀H' q,aM H H'->fH K t H' q p.kind (.str p.name) (p.nums.map V.int) (p.ins.map V.str) (p.outs.map V.str)->Q (.ref q) H')∨False))->uI K t vs H Q E
theorem iJ (T:Txt w K mg t):FO P w K mg base 2 t.qF ["self", "name"] (uI K t):=by
 have sc:=T.fV.sc ["self", "name"]
 refine T.fV.F.ok sc ln (fun _ _ _ _ H vs Q E hr h=>?_)
 obtain⟨n,ls,ps,x,rfl,N,h⟩:=h
 refine⟨_,(au (bR (aW jf (pv 1) (Sd (pv 0) T.bu T.bu.me.2.2.1 (jR T) T.gf hr) (by with_unfolding_all rfl))
   (aA dO)
   aZ)
  (aA (aN (bV hr.u1 (bh (pv 0) rfl) (pv 1) (fun _ _=>rfl))))),?_⟩
 obtain⟨dx,fs,R,F,Pd,G,Tk,FL,PL,W⟩:=id N
 refine⟨_,rfl,_,rfl,n,dx,fs,rfl,W.obj,W.fl.no _ (by decide +kernel),n,ls,ps,rfl,N,fun l hl=>?_⟩
 have s1:=aB (o:=.lst (ps.map fun x=>V.str x.name)) hl
 refine⟨l,_,rfl,.inl (bI.of az),rfl,by simp [mF],_,rfl,?_⟩
 rw [Kf (f:=fun x:PD=>x.name)]
 rcases h with ⟨p,hp,rfl,k⟩ | h
 ·rw [decide_eq_true (List.mem_map.mpr ⟨p,hp,rfl⟩)]
  refine dz ?_
  obtain⟨q,hq,eq⟩:∃q∈PL,q.1=p:=by
   rw [<-W.pls] at hp
   obtain⟨q,hq,e⟩:=List.mem_map.mp hp
   exact⟨q,hq,e⟩
  subst eq
  have W1:=W.same s1
  have hv:=W1.partV hq
  exact⟨_,rfl,n,_,dx,fs,_,rfl,W1.obj,T.bu.c,T.bu.na.2.2.1,W1.fl.has ("parts",.ref Pd) (by simp),_,rfl,Pd,_,rfl,(by rw [<-hv];exact d7.k (k:=Sum.inr q.1.name) W1.parts),k _ q.2 s1 (W1.pats q hq)⟩
 ·exact h.elim
inductive tO (K:PySem.W.Frag) (t:jN) (vs:List V) (H:Hp) (Q:VK) (E:XK):Prop where
 | mk:∀(n dx Ll Lp:Addr) (ls:List aG) (ps:List PD),vs=[.ref n,.ref Ll,.ref Lp]->H n=some (.ins t.dR dx [])->Hand K H Ll Lp ls ps->vh ls ps->(∀H',lQ n H H'->iK K t H' n ls ps->Q .non H')->tO K t vs H Q E
theorem Bl (T:Txt w K mg t):FO P w K mg base 6 t.pK ["self", "lanes", "parts"] (tO K t):=by
 have sc:=T.j5.sc ["self", "lanes", "parts", "lane", "row", "part"]
 refine T.j5.F.ok sc ln (fun _ _ _ _ H vs Q E hr h=>?_)
 obtain⟨n,dx,Ll,Lp,ls,ps,rfl,hn,hH,hF,k⟩:=h
 refine⟨_,(au (bL (dZ (Eg T) T.qy hr (aa (pv 1) (aa (pv 2) ak aj) aj)))
  (au (ik (pv 0) eY rfl)
  (au (ik (pv 0) eY rfl)
  (au (dD PassesOwn.never rfl (b8 (pv 1)) (gN sc 3)
   (au (bL (dZ (wK T) T.oE hr (aa (aR cC (pv 3) aq (fun _ _=>rfl)) (aa (bh (pv 0) rfl) ak bJ) aD)))
   (au (bL (dZ (Iu T) T.uY hr (aa (aR cC (pv 3) aq (fun _ _=>rfl)) (aa (aR cC (pv 3) aq (fun _ _=>rfl)) (aa (aR cC (pv 3) aq (fun _ _=>rfl)) ak aD) aD) aD)))
   (au (fD hr.u1 (bh (pv 0) rfl) (aR cC (pv 3) aq (fun _ _=>rfl)) (aR cC (pv 3) aq (fun _ _=>rfl)) rfl)
   (aA (fD hr.u1 (bh (pv 0) rfl) (aR cC (pv 3) aq (fun _ _=>rfl)) (dg vM (by rfl) T.Bw xQ (aa (aR cC (pv 3) aq (fun _ _=>rfl)) ak aD)) rfl))))))
  (au (ik (pv 0) eY rfl)
  (au (ik (pv 0) eY rfl)
  (au (ik (pv 0) eY rfl)
  (au (dD PassesOwn.never rfl (b8 (pv 2)) (gN sc 4)
   (au (sN sc 5 (dZ (Fg T) T.sG hr (aa (pv 4) (aa (bh (pv 0) rfl) ak bJ) aj)))
   (au (bL (dZ (yr T) T.pZ hr (aa (bh (pv 5) rfl) (aa (bh (pv 5) rfl) (aa (bh (pv 0) rfl) (aa (bh (pv 0) rfl) ak bJ) bJ) bJ) bJ)))
   (au (bL (dZ (yr T) T.pZ hr (aa (bh (pv 5) rfl) (aa (bh (pv 5) rfl) (aa (bh (pv 0) rfl) (aa (bh (pv 0) rfl) ak bJ) bJ) bJ) bJ)))
   (aA (fD hr.u1 (bh (pv 0) rfl) (bh (pv 5) rfl) (pv 5) rfl))))))
  (au (bL (dZ (Hd T) T.ut hr (aa (bh (pv 0) rfl) (aa (bh (pv 0) rfl) (aa (bh (pv 0) rfl) ak bJ) bJ) bJ)))
  (aA (bL (dZ (Eb T) T.qz hr (aa (dg (oV rfl) (by rfl) T.pB j0 (aa (bh (pv 0) rfl) ak bJ)) (aa (bh (pv 0) rfl) (aa (bh (pv 0) rfl) ak bJ) bJ) aY))))))))))))),?_⟩
 have hl:sizeLine=16777216:=sizeLine_eq
 obtain⟨xs,hLl,aL⟩:=hH.ll
 obtain⟨ys,hLp,aP⟩:=hH.lp
 have lx:=aL.length
 have ly:=aP.length
 have l1:=hF.l1
 have l24:=hF.l24
 have p1:=hF.p1
 have p16:=hF.p16
 refine⟨_,rfl,_,rfl,Ll,Lp,_,_,rfl,hLl,hLp,by omega,by omega,by omega,by omega,?_⟩
 have T0:=Tr.start hn
 refine fun R nR=>?_
 have T1:=T0.new (o:=.dK []) nR
 have gR:=aB (o:=.dK []) nR
 generalize upd H R (.dK [])=H1 at T1 gR ⊢
 have cR:=T1.all (n,.ins t.dR dx []) (.head _)
 refine⟨_,rfl,n,_,dx,_,rfl,cR,T.bu.c,T.bu.na.1,Nat.lt_of_le_of_lt (show 0<=0 from Nat.le_refl 0) (by decide),?_⟩
 have T2:=T1.put (L1:=[]) (o':=.ins t.dR dx (aJ "rooms" (.ref R) []))
 have wR:lQ n H1 (upd H1 n (.ins t.dR dx (aJ "rooms" (.ref R) []))):=lQ.write
 generalize upd H1 n (.ins t.dR dx (aJ "rooms" (.ref R) []))=H2 at T2 wR ⊢
 refine fun F nF=>?_
 have T3:=T2.new (o:=.dK []) nF
 have gF:=aB (o:=.dK []) nF
 generalize upd H2 F (.dK [])=H3 at T3 gF ⊢
 have cF:=T3.all (n,.ins t.dR dx (aJ "rooms" (.ref R) [])) (.head _)
 refine⟨_,rfl,n,_,dx,_,rfl,cF,T.bu.c,T.bu.na.2.1,Nat.lt_of_le_of_lt (ie (Nat.zero_le 0)) (by decide),?_⟩
 have T4:=T3.put (L1:=[]) (o':=.ins t.dR dx (aJ "firsts" (.ref F) (aJ "rooms" (.ref R) [])))
 have wF:lQ n H3 (upd H3 n (.ins t.dR dx (aJ "firsts" (.ref F) (aJ "rooms" (.ref R) [])))):=lQ.write
 generalize upd H3 n (.ins t.dR dx (aJ "firsts" (.ref F) (aJ "rooms" (.ref R) [])))=H4 at T4 wF ⊢
 have kb:∀{Hk:Hp} {q:Addr} {u:HO},lQ n H Hk->H q=some u->(∀C d f,u≠.ins C d f)->Hk q=some u:=fun b h hu=>b _ _ (vZ h hn (by intro z;exact hu _ _ _ z)) h
 refine⟨_,rfl,Ll,rfl,⟨_,T4.but.seqL hn hLl⟩,cU (K:=K) (a:=Ll) (xs:=xs) (fun j σ H'=>(∃x3,σ=[some (.ref n),some (.ref Ll),some (.ref Lp),x3,none,none])/\∃FL:List (aG×Addr),FL.map (·.1)=ls.take j/\Tr H n [(n,.ins t.dR dx (aJ "firsts" (.ref F) (aJ "rooms" (.ref R) []))),(R,.dK (fc (ls.take j))),(F,.dK (bz FL))] H'/\∀q∈FL,eQ K H' q.2 (q.1.first.map V.int)) ⟨⟨none,rfl⟩,[],rfl,T4,by simp⟩ (fun j σ H' _ ⟨_,_,_,T',_⟩=>T'.but.seqL hn hLl) ?_ ?_⟩
 ·rintro j x σ H' hx ⟨⟨x3,rfl⟩,FL,eFL,T4,hS⟩
  obtain⟨l,hlj,q,f,rfl,hq,hf⟩:=aL.get hx
  have hm:=List.mem_of_getElem? hlj
  obtain⟨v1,v2,v3,v4⟩:=hF.lok l hm
  have hnm:=hF.lnm l hm
  have hj:=(List.getElem?_eq_some_iff.mp hlj).1
  have kq:∀{Hk:Hp},lQ n H Hk->Hk q=some (.tup [.str l.name,.int l.room,.ref f]):=fun b=>kb b hq (by intro _ _ _ z;cases z)
  have nin:=mq hF.whole.nod hlj
  have vR:cg (fc (ls.take j)) (Sum.inr l.name)=none:=fL (by rw [ux];intro z;obtain⟨b,hb,e⟩:=List.mem_map.mp z;cases e;exact nin hb)
  have vF:cg (bz FL) (Sum.inr l.name)=none:=fL (by rw [nH,eFL];intro z;obtain⟨b,hb,e⟩:=List.mem_map.mp z;cases e;exact nin hb)
  have tk:ls.take (j+1)=ls.take j ++ [l]:=by rw [List.take_succ,hlj];rfl
  have e4:=T4.all (n,.ins t.dR dx (aJ "firsts" (.ref F) (aJ "rooms" (.ref R) []))) (.head _)
  refine Qg fun De hD u hu=>?_
  refine⟨_,rfl,q,_,0,_,rfl,rfl,eQ.of (kq T4.but),aK (j:=0) rfl,_,rfl,n,_,dx,_,_,rfl,e4,T.bu.c,T.bu.na.1,(by (repeat first | (rw [aC,if_pos rfl];done) | rw [aC,if_neg (by decide +kernel)])),l.name,R,_,rfl,T4.all (R,.dK (fc (ls.take j))) (by simp),hnm,GJ hnm,vR,fun H5 s5=>?_⟩
  have T5:=T4.same s5
  refine dG (v:=u) hu fun u hu=>?_
  refine⟨_,rfl,q,_,0,_,rfl,rfl,eQ.of (kq T5.but),aK (j:=0) rfl,_,rfl,q,_,1,_,rfl,rfl,eQ.of (kq T5.but),aK (j:=1) rfl,_,rfl,q,_,2,_,rfl,rfl,eQ.of (kq T5.but),aK (j:=2) rfl,.str l.name,l.room,f,l.first,rfl,T5.but.seqA hn hf,by omega,v4,v1,v3,v2,fun H6 s6=>?_⟩
  have T6:=T5.same s6
  have e6:=T6.all (n,.ins t.dR dx (aJ "firsts" (.ref F) (aJ "rooms" (.ref R) []))) (.head _)
  have eR6:=T6.all (R,.dK (fc (ls.take j))) (by simp)
  refine dG (v:=u) hu fun u hu=>?_
  refine⟨_,rfl,q,_,1,_,rfl,rfl,eQ.of (kq T6.but),aK (j:=1) rfl,_,rfl,n,_,dx,_,_,rfl,e6,T.bu.c,T.bu.na.1,(by (repeat first | (rw [aC,if_pos rfl];done) | rw [aC,if_neg (by decide +kernel)])),_,rfl,q,_,0,_,rfl,rfl,eQ.of (kq T6.but),aK (j:=0) rfl,R,_,rfl,j7.k (k:=Sum.inr l.name) eR6 (by unfold fc;rw [lM,List.length_take];omega),?_⟩
  have e7:putK (fc (ls.take j)) (Sum.inr l.name) (.int l.room)=fc (ls.take (j+1)):=by rw [gQ _ vR,tk];unfold fc;rw [List.map_append];rfl
  have T7:=T6.put (L1:=[_]) (o':=.dK (fc (ls.take (j+1))))
  rw [e7]
  have hS7:∀q∈FL,eQ K (upd H6 R (.dK (fc (ls.take (j+1))))) q.2 (q.1.first.map V.int):=fun q hq=>fW eR6 (s6.seqT (s5.seqT (hS q hq)))
  generalize upd H6 R (.dK (fc (ls.take (j+1))))=H7 at T7 hS7 ⊢
  subst hu
  refine⟨_,rfl,q,_,2,_,rfl,rfl,eQ.of (kq T7.but),aK (j:=2) rfl,f,_,rfl,T7.but.seqA hn hf,fun H8 F0 s8 t8=>?_⟩
  have T8:=T7.same s8
  have e8:=T8.all (n,.ins t.dR dx (aJ "firsts" (.ref F) (aJ "rooms" (.ref R) []))) (.head _)
  have eF8:=T8.all (F,.dK (bz FL)) (by simp)
  have lFL:FL.length<=24:=by have:=congrArg List.length eFL;rw [lM,List.length_take] at this;omega
  refine⟨_,rfl,n,_,dx,_,_,rfl,e8,T.bu.c,T.bu.na.2.1,(by (repeat first | (rw [aC,if_pos rfl];done) | rw [aC,if_neg (by decide +kernel)])),_,rfl,q,_,0,_,rfl,rfl,eQ.of (kq T8.but),aK (j:=0) rfl,F,_,rfl,j7.k (k:=Sum.inr l.name) eF8 (by unfold bz;rw [lM];omega),?_⟩
  have e9:putK (bz FL) (Sum.inr l.name) (.ref F0)=bz (FL ++ [(l,F0)]):=by rw [gQ _ vF];unfold bz;rw [List.map_append];rfl
  have T9:=T8.put (L1:=[_,_]) (o':=.dK (bz (FL ++ [(l,F0)])))
  rw [e9]
  subst hD
  refine⟨⟨_,rfl⟩,FL ++ [(l,F0)],by rw [List.map_append,eFL,tk];rfl,T9,fun q hq=>?_⟩
  rcases List.mem_append.mp hq with h | h
  ·exact fW eF8 (s8.seqT (hS7 q h))
  ·rw [List.mem_singleton] at h
   subst h
   exact fW eF8 t8
 rintro σ H9 ⟨⟨x3,rfl⟩,FL,eFL,T9,t9⟩
 rw [lx,List.take_length] at eFL T9
 clear T0 T1 T2 T3 T4
 refine fun Pd nPd=>?_
 have T10:=T9.new (o:=.dK []) nPd
 have gPd:=aB (o:=.dK []) nPd
 generalize upd H9 Pd (.dK [])=H10 at T10 gPd ⊢
 have cPd:=T10.all (n,.ins t.dR dx (aJ "firsts" (.ref F) (aJ "rooms" (.ref R) []))) (.head _)
 refine⟨_,rfl,n,_,dx,_,rfl,cPd,T.bu.c,T.bu.na.2.2.1,Nat.lt_of_le_of_lt (ie (ie (Nat.zero_le 0))) (by decide),?_⟩
 have T11:=T10.put (L1:=[]) (o':=.ins t.dR dx (aJ "parts" (.ref Pd) (aJ "firsts" (.ref F) (aJ "rooms" (.ref R) []))))
 have wPd:lQ n H10 (upd H10 n (.ins t.dR dx (aJ "parts" (.ref Pd) (aJ "firsts" (.ref F) (aJ "rooms" (.ref R) []))))):=lQ.write
 generalize upd H10 n (.ins t.dR dx (aJ "parts" (.ref Pd) (aJ "firsts" (.ref F) (aJ "rooms" (.ref R) []))))=H11 at T11 wPd ⊢
 refine fun Gv nGv=>?_
 have T12:=T11.new (o:=.dK []) nGv
 have gGv:=aB (o:=.dK []) nGv
 generalize upd H11 Gv (.dK [])=H12 at T12 gGv ⊢
 have cGv:=T12.all (n,.ins t.dR dx (aJ "parts" (.ref Pd) (aJ "firsts" (.ref F) (aJ "rooms" (.ref R) [])))) (.head _)
 refine⟨_,rfl,n,_,dx,_,rfl,cGv,T.bu.c,T.bu.na.2.2.2.1,Nat.lt_of_le_of_lt (ie (ie (ie (Nat.zero_le 0)))) (by decide),?_⟩
 have T13:=T12.put (L1:=[]) (o':=.ins t.dR dx (aJ "givers" (.ref Gv) (aJ "parts" (.ref Pd) (aJ "firsts" (.ref F) (aJ "rooms" (.ref R) [])))))
 have wGv:lQ n H12 (upd H12 n (.ins t.dR dx (aJ "givers" (.ref Gv) (aJ "parts" (.ref Pd) (aJ "firsts" (.ref F) (aJ "rooms" (.ref R) [])))))):=lQ.write
 generalize upd H12 n (.ins t.dR dx (aJ "givers" (.ref Gv) (aJ "parts" (.ref Pd) (aJ "firsts" (.ref F) (aJ "rooms" (.ref R) [])))))=H13 at T13 wGv ⊢
 refine fun Tk nTk=>?_
 have T14:=T13.new (o:=.dK []) nTk
 have gTk:=aB (o:=.dK []) nTk
 generalize upd H13 Tk (.dK [])=H14 at T14 gTk ⊢
 have cTk:=T14.all (n,.ins t.dR dx (aJ "givers" (.ref Gv) (aJ "parts" (.ref Pd) (aJ "firsts" (.ref F) (aJ "rooms" (.ref R) []))))) (.head _)
 refine⟨_,rfl,n,_,dx,_,rfl,cTk,T.bu.c,T.bu.na.2.2.2.2.1,Nat.lt_of_le_of_lt (ie (ie (ie (ie (Nat.zero_le 0))))) (by decide),?_⟩
 have T15:=T14.put (L1:=[]) (o':=.ins t.dR dx (aJ "takers" (.ref Tk) (aJ "givers" (.ref Gv) (aJ "parts" (.ref Pd) (aJ "firsts" (.ref F) (aJ "rooms" (.ref R) []))))))
 have wTk:lQ n H14 (upd H14 n (.ins t.dR dx (aJ "takers" (.ref Tk) (aJ "givers" (.ref Gv) (aJ "parts" (.ref Pd) (aJ "firsts" (.ref F) (aJ "rooms" (.ref R) []))))))):=lQ.write
 generalize upd H14 n (.ins t.dR dx (aJ "takers" (.ref Tk) (aJ "givers" (.ref Gv) (aJ "parts" (.ref Pd) (aJ "firsts" (.ref F) (aJ "rooms" (.ref R) []))))))=H15 at T15 wTk ⊢
 have T15:Tr H n [(n,.ins t.dR dx (aJ "takers" (.ref Tk) (aJ "givers" (.ref Gv) (aJ "parts" (.ref Pd) (aJ "firsts" (.ref F) (aJ "rooms" (.ref R) [])))))),(R,.dK (fc ls)),(F,.dK (bz FL)),(Pd,.dK []),(Gv,.dK []),(Tk,.dK [])] H15:=T15
 have t15:∀q∈FL,eQ K H15 q.2 (q.1.first.map V.int):=fun q hq=>wTk.seqT cTk (gTk.seqT (wGv.seqT cGv (gGv.seqT (wPd.seqT cPd (gPd.seqT (t9 q hq))))))
 have nod:=T15.nod
 simp only [List.map_append,List.map_cons,List.map_nil,List.nil_append,List.cons_append,List.nodup_cons,List.mem_cons,List.not_mem_nil,or_false,not_or] at nod
 have nRF:R≠F:=nod.2.1.1
 have nRT:R≠Tk:=nod.2.1.2.2.2
 have nRG:R≠Gv:=nod.2.1.2.2.1
 have nGT:Gv≠Tk:=nod.2.2.2.2.1
 clear nod
 have ono:(ps.flatMap (·.outs)).Nodup:=hF.whole.outs.nodup_iff.mpr hF.whole.nod
 have ini:(ps.flatMap (·.ins)).Nodup:=hF.whole.ins.nodup_iff.mpr hF.whole.nod
 have inR:∀z∈ls.map (·.name),(cg (fc ls) (Sum.inr z)).isSome=true:=fun z hz=>by
  obtain⟨l,hl,rfl⟩:=List.mem_map.mp hz
  have e:cg (fc ls) (Sum.inr l.name)=some (.int l.room):=gZ (by rw [ux];exact fJ hF.whole.nod) (List.mem_map.mpr ⟨l,hl,rfl⟩)
  rw [e]
  rfl
 have lenE:∀(f:PD->List Str) (j:Nat),(ps.flatMap f).Perm (ls.map (·.name))->(cY f (ps.take j)).length<=24:=fun f j pm=>by
  rw [O9]
  have e1:((ps.take j).flatMap f).length+((ps.drop j).flatMap f).length=(ps.flatMap f).length:=by rw [<-lP,<-List.flatMap_append,List.take_append_drop]
  have e2:=pm.length_eq
  rw [lM] at e2
  omega
 refine⟨_,rfl,Lp,rfl,⟨_,T15.but.seqL hn hLp⟩,cU (K:=K) (a:=Lp) (xs:=ys) (fun j σ H'=>(∃x3 x4 x5,σ=[some (.ref n),some (.ref Ll),some (.ref Lp),x3,x4,x5])/\∃PL:List (PD×Addr),PL.map (·.1)=ps.take j/\Tr H n [(n,.ins t.dR dx (aJ "takers" (.ref Tk) (aJ "givers" (.ref Gv) (aJ "parts" (.ref Pd) (aJ "firsts" (.ref F) (aJ "rooms" (.ref R) [])))))),(R,.dK (fc ls)),(F,.dK (bz FL)),(Pd,.dK (eO PL)),(Gv,.dK (cY (·.outs) (ps.take j))),(Tk,.dK (cY (·.ins) (ps.take j)))] H'/\(∀q∈FL,eQ K H' q.2 (q.1.first.map V.int))/\∀q∈PL,fH K t H' q.2 q.1.kind (.str q.1.name) (q.1.nums.map V.int) (q.1.ins.map V.str) (q.1.outs.map V.str)) ⟨⟨x3,none,none,rfl⟩,[],rfl,T15,t15,by simp⟩ (fun j σ H' _ ⟨_,_,_,T',_⟩=>T'.but.seqL hn hLp) ?_ ?_⟩
 ·rintro j x σ H' hx ⟨⟨x3,x4,x5,rfl⟩,PL,ePL,T15,hS,hP⟩
  obtain⟨p,hpj,r,a1,a2,a3,rfl,hr,q1,q2,q3⟩:=aP.get hx
  have hm:=List.mem_of_getElem? hpj
  have hj:=(List.getElem?_eq_some_iff.mp hpj).1
  obtain⟨o1,o2,o3,o4,o5⟩:=hF.pok p hm
  have hnm:=hF.pnm p hm
  have nin:=mq hF.pnd hpj
  have tk:ps.take (j+1)=ps.take j ++ [p]:=by rw [List.take_succ,hpj];rfl
  have vP:cg (eO PL) (Sum.inr p.name)=none:=fL (by rw [Bh,ePL];intro z;obtain⟨b,hb,e⟩:=List.mem_map.mp z;cases e;exact nin hb)
  obtain⟨di,fi⟩:=Nq ini hpj
  obtain⟨do',fo⟩:=Nq ono hpj
  have e15:=T15.all (n,.ins t.dR dx (aJ "takers" (.ref Tk) (aJ "givers" (.ref Gv) (aJ "parts" (.ref Pd) (aJ "firsts" (.ref F) (aJ "rooms" (.ref R) [])))))) (.head _)
  refine Qg fun De hD u hu=>?_
  refine⟨_,rfl,_,rfl,n,_,dx,_,_,rfl,e15,T.bu.c,T.bu.na.2.2.1,(by (repeat first | (rw [aC,if_pos rfl];done) | rw [aC,if_neg (by decide +kernel)])),p.kind,p.name,r,Pd,a1,a2,a3,_,_,_,_,rfl,kb T15.but hr (by intro _ _ _ z;cases z),by omega,T15.all (Pd,.dK (eO PL)) (by simp),hnm,GJ hnm,vP,T15.but.seqA hn q1,T15.but.seqA hn q2,T15.but.seqA hn q3,by rw [lM];exact o2,by rw [lM];exact o3,by rw [lM];exact o4,?_,fun H16 pp s16 npp Pp=>?_⟩
  ·intro v hv
   obtain⟨i,hi,rfl⟩:=List.mem_map.mp hv
   exact⟨i,rfl,(o5 i hi).1,(o5 i hi).2⟩
  have T16:=T15.same s16
  obtain⟨dxp,tn,ti,to,z1,z2,z3,z4⟩:=id Pp.ex
  have e16:=T16.all (n,.ins t.dR dx (aJ "takers" (.ref Tk) (aJ "givers" (.ref Gv) (aJ "parts" (.ref Pd) (aJ "firsts" (.ref F) (aJ "rooms" (.ref R) [])))))) (.head _)
  have eTk:=T16.all (Tk,.dK (cY (·.ins) (ps.take j))) (by simp)
  have li:=lenE (·.ins) j hF.whole.ins
  have lo:=lenE (·.outs) j hF.whole.outs
  have h3I:p.ins.length<=3:=by rw [o3];exact vV _
  have h3O:p.outs.length<=2:=by rw [o4];exact Rq _
  refine dG (v:=u) hu fun u hu=>?_
  refine⟨_,rfl,pp,_,dxp,_,_,rfl,z1,ir T p.kind,BW T p.kind,zV _ _ _ _,_,rfl,pp,_,dxp,_,_,rfl,z1,ir T p.kind,xn T p.kind,rG _ _ _ _,_,rfl,n,_,dx,_,_,rfl,e16,T.bu.c,T.bu.na.1,(by (repeat first | (rw [aC,if_pos rfl];done) | rw [aC,if_neg (by decide +kernel)])),_,rfl,n,_,dx,_,_,rfl,e16,T.bu.c,T.bu.na.2.2.2.2.1,(by (repeat first | (rw [aC,if_pos rfl];done) | rw [aC,if_neg (by decide +kernel)])),p.name,ti,R,Tk,p.ins,_,_,rfl,z3,T16.all (R,.dK (fc ls)) (by simp),nRT,eTk,di,fun z hz=>⟨inR z (hF.whole.ins.mem_iff.mp (List.mem_flatMap.mpr ⟨p,hm,hz⟩)),Ca (fi z hz)⟩,by omega,?_⟩
  rw [<-CK (·.ins) (ps.take j) p,<-tk]
  have T17:=T16.put (L1:=[_,_,_,_,_]) (o':=.dK (cY (·.ins) (ps.take (j+1))))
  have Pp17:=Pp.chill (v:=.dK (cY (·.ins) (ps.take (j+1)))) eTk
  have hS17:∀q∈FL,eQ K (upd H16 Tk (.dK (cY (·.ins) (ps.take (j+1))))) q.2 (q.1.first.map V.int):=fun q hq=>fW eTk (s16.seqT (hS q hq))
  have hP17:∀q∈PL,fH K t (upd H16 Tk (.dK (cY (·.ins) (ps.take (j+1))))) q.2 q.1.kind (.str q.1.name) (q.1.nums.map V.int) (q.1.ins.map V.str) (q.1.outs.map V.str):=fun q hq=>((hP q hq).same s16).chill eTk
  generalize upd H16 Tk (.dK (cY (·.ins) (ps.take (j+1))))=H17 at T17 Pp17 hS17 hP17 ⊢
  clear z1 z2 z3 z4 e16
  obtain⟨dxp,tn,ti,to,z1,z2,z3,z4⟩:=id Pp17.ex
  have e17:=T17.all (n,.ins t.dR dx (aJ "takers" (.ref Tk) (aJ "givers" (.ref Gv) (aJ "parts" (.ref Pd) (aJ "firsts" (.ref F) (aJ "rooms" (.ref R) [])))))) (.head _)
  have eGv:=T17.all (Gv,.dK (cY (·.outs) (ps.take j))) (by simp)
  refine dG (v:=u) hu fun u hu=>?_
  refine⟨_,rfl,pp,_,dxp,_,_,rfl,z1,ir T p.kind,BW T p.kind,zV _ _ _ _,_,rfl,pp,_,dxp,_,_,rfl,z1,ir T p.kind,Ib T p.kind,GP _ _ _ _,_,rfl,n,_,dx,_,_,rfl,e17,T.bu.c,T.bu.na.1,(by (repeat first | (rw [aC,if_pos rfl];done) | rw [aC,if_neg (by decide +kernel)])),_,rfl,n,_,dx,_,_,rfl,e17,T.bu.c,T.bu.na.2.2.2.1,(by (repeat first | (rw [aC,if_pos rfl];done) | rw [aC,if_neg (by decide +kernel)])),p.name,to,R,Gv,p.outs,_,_,rfl,z4,T17.all (R,.dK (fc ls)) (by simp),nRG,eGv,do',fun z hz=>⟨inR z (hF.whole.outs.mem_iff.mp (List.mem_flatMap.mpr ⟨p,hm,hz⟩)),Ca (fo z hz)⟩,by omega,?_⟩
  rw [<-CK (·.outs) (ps.take j) p,<-tk]
  have T18:=T17.put (L1:=[_,_,_,_]) (o':=.dK (cY (·.outs) (ps.take (j+1))))
  have Pp18:=Pp17.chill (v:=.dK (cY (·.outs) (ps.take (j+1)))) eGv
  have hS18:∀q∈FL,eQ K (upd H17 Gv (.dK (cY (·.outs) (ps.take (j+1))))) q.2 (q.1.first.map V.int):=fun q hq=>fW eGv (hS17 q hq)
  have hP18:∀q∈PL,fH K t (upd H17 Gv (.dK (cY (·.outs) (ps.take (j+1))))) q.2 q.1.kind (.str q.1.name) (q.1.nums.map V.int) (q.1.ins.map V.str) (q.1.outs.map V.str):=fun q hq=>(hP17 q hq).chill eGv
  generalize upd H17 Gv (.dK (cY (·.outs) (ps.take (j+1))))=H18 at T18 Pp18 hS18 hP18 ⊢
  clear z1 z2 z3 z4 e17
  obtain⟨dxp,tn,ti,to,z1,z2,z3,z4⟩:=id Pp18.ex
  have e18:=T18.all (n,.ins t.dR dx (aJ "takers" (.ref Tk) (aJ "givers" (.ref Gv) (aJ "parts" (.ref Pd) (aJ "firsts" (.ref F) (aJ "rooms" (.ref R) [])))))) (.head _)
  have ePd:=T18.all (Pd,.dK (eO PL)) (by simp)
  have lPL:PL.length<=16:=by have:=congrArg List.length ePL;rw [lM,List.length_take] at this;omega
  subst hu
  refine⟨_,rfl,_,rfl,n,_,dx,_,_,rfl,e18,T.bu.c,T.bu.na.2.2.1,(by (repeat first | (rw [aC,if_pos rfl];done) | rw [aC,if_neg (by decide +kernel)])),_,rfl,pp,_,dxp,_,_,rfl,z1,ir T p.kind,BW T p.kind,zV _ _ _ _,Pd,_,rfl,j7.k (k:=Sum.inr p.name) ePd (by unfold eO;rw [lM];omega),?_⟩
  have e19:putK (eO PL) (Sum.inr p.name) (.ref pp)=eO (PL ++ [(p,pp)]):=by rw [gQ _ vP];unfold eO;rw [List.map_append];rfl
  have T19:=T18.put (L1:=[_,_,_]) (o':=.dK (eO (PL ++ [(p,pp)])))
  rw [e19]
  subst hD
  refine⟨⟨_,_,_,rfl⟩,PL ++ [(p,pp)],by rw [List.map_append,ePL,tk];rfl,T19,fun q hq=>fW ePd (hS18 q hq),fun q hq=>?_⟩
  rcases List.mem_append.mp hq with h | h
  ·exact(hP18 q h).chill ePd
  ·rw [List.mem_singleton] at h
   subst h
   exact Pp18.chill ePd
 rintro σ H18 ⟨⟨x3,x4,x5,rfl⟩,PL,ePL,T18,hS,hP⟩
 rw [ly,List.take_length] at ePL T18
 have e18:=T18.all (n,.ins t.dR dx (aJ "takers" (.ref Tk) (aJ "givers" (.ref Gv) (aJ "parts" (.ref Pd) (aJ "firsts" (.ref F) (aJ "rooms" (.ref R) [])))))) (.head _)
 have eR:=T18.all (R,.dK (fc ls)) (by simp)
 have eF:=T18.all (F,.dK (bz FL)) (by simp)
 have ePd:=T18.all (Pd,.dK (eO PL)) (by simp)
 have eGv:=T18.all (Gv,.dK (cY (·.outs) ps)) (by simp)
 have eTk:=T18.all (Tk,.dK (cY (·.ins) ps)) (by simp)
 refine⟨_,rfl,n,_,dx,_,_,rfl,e18,T.bu.c,T.bu.na.1,(by (repeat first | (rw [aC,if_pos rfl];done) | rw [aC,if_neg (by decide +kernel)])),_,rfl,n,_,dx,_,_,rfl,e18,T.bu.c,T.bu.na.2.2.2.1,(by (repeat first | (rw [aC,if_pos rfl];done) | rw [aC,if_neg (by decide +kernel)])),_,rfl,n,_,dx,_,_,rfl,e18,T.bu.c,T.bu.na.2.2.2.2.1,(by (repeat first | (rw [aC,if_pos rfl];done) | rw [aC,if_neg (by decide +kernel)])),R,Gv,Tk,_,_,_,rfl,eR,eGv,eTk,nRG,nRT,?_,?_⟩
 ·intro q hq
  obtain⟨l,hl,rfl⟩:=List.mem_map.mp hq
  have hln:l.name∈ls.map (·.name):=List.mem_map.mpr ⟨l,hl,rfl⟩
  obtain⟨pa,ha,la⟩:=List.mem_flatMap.mp (hF.whole.outs.mem_iff.mpr hln)
  obtain⟨pb,hb,lb⟩:=List.mem_flatMap.mp (hF.whole.ins.mem_iff.mpr hln)
  exact⟨by rw [jg ono ha la];rfl,by rw [jg ini hb lb];rfl⟩
 refine⟨_,rfl,n,_,dx,_,_,rfl,e18,T.bu.c,T.bu.na.2.2.1,(by (repeat first | (rw [aC,if_pos rfl];done) | rw [aC,if_neg (by decide +kernel)])),Pd,_,rfl,.inl ePd,fun l nl=>?_⟩
 have s19:=aB (o:=.lst ((eO PL).map fun p=>kV p.1)) nl
 have eL:(eO PL).map (fun p=>kV p.1)=ps.map fun p=>V.str p.name:=by unfold eO;rw [List.map_map,<-ePL,List.map_map];rfl
 refine⟨_,rfl,n,_,dx,_,_,rfl,(s19 _ _ e18),T.bu.c,T.bu.na.2.2.2.1,(by (repeat first | (rw [aC,if_pos rfl];done) | rw [aC,if_neg (by decide +kernel)])),_,rfl,n,_,dx,_,_,rfl,(s19 _ _ e18),T.bu.c,T.bu.na.2.2.2.2.1,(by (repeat first | (rw [aC,if_pos rfl];done) | rw [aC,if_neg (by decide +kernel)])),l,Gv,Tk,ps,rfl,bI.of (by rw [<-eL];exact az),by omega,by omega,s19 _ _ eGv,s19 _ _ eTk,nGT,ono,ini,hF.whole.outs.trans hF.whole.ins.symm,hF.whole.hang,fun H20 s20=>?_⟩
 have s:=s19.trans s20
 refine k _ (fun b u hb e=>s _ _ (T18.but b u hb e)) ⟨dx,_,R,F,Pd,Gv,Tk,FL,PL,s _ _ e18,⟨?_,?_⟩,s _ _ eR,s _ _ eF,s _ _ ePd,s _ _ eGv,s _ _ eTk,eFL,ePL,fun q hq=>s.seqT (hS q hq),fun q hq=>(hP q hq).same s,hF,nRF⟩
 ·intro q hq
  simp only [List.mem_cons,List.not_mem_nil,or_false] at hq
  rcases hq with rfl | rfl | rfl | rfl | rfl <;> (dsimp only;(repeat first | (rw [aC,if_pos rfl];done) | rw [aC,if_neg (by decide +kernel)]))
 ·intro m hm
  have hne:∀m∈(["lane_names", "part_names", "names_of_kind", "gives", "takes", "need_lane_name", "room_of", "first_of", "part_of", "__init__"]:List Str),∀g∈(["takers", "givers", "parts", "firsts", "rooms"]:List Str),¬m=g:=by decide +kernel
  have h:=hne m hm
  rw [aC,if_neg (h _ (by simp)),aC,if_neg (h _ (by simp)),aC,if_neg (h _ (by simp)),aC,if_neg (h _ (by simp)),aC,if_neg (h _ (by simp))]
  rfl
inductive wN (K:PySem.W.Frag) (t:jN) (vs:List V) (H:Hp) (Q:VK) (E_:XK):Prop where
 | mk:∀(f n E G Kp D Rw l:Addr) (ed gd:List (Key×V)) (x:Str) (vs':List V) (g:Nat),vs=[.ref f,.str x]->pA K t H f n E G Kp D Rw->H E=some (.dK ed)->H G=some (.dK gd)->cg ed (Sum.inr x)=some (.ref l)->cg gd (Sum.inr x)=some (.int g)->bI K H l vs'->Q (.int (vs'.length - g)) H->wN K t vs H Q E_
theorem wD (T:Txt w K mg t):FO P w K mg base 1 t.su ["self", "lane"] (wN K t):=by
 have sc:=T.oK.sc ["self", "lane"]
 refine T.oK.F.ok sc ln (fun _ _ _ _ H vs Q E hr h=>?_)
 obtain⟨f,n,E,G,Kp,D,Rw,l,ed,gd,x,vs',g,rfl,N,hE,hG,h3,h4,h5,k⟩:=h
 refine⟨_,(aA (aN (aX Ij (bf bN (by rfl) T.dX cH (aa (bV hr.u1 (bh (pv 0) rfl) (pv 1) (fun _ _=>rfl)) ak aD)) (bV hr.u1 (bh (pv 0) rfl) (pv 1) (fun _ _=>rfl))))),?_⟩
 obtain⟨dx,fs,h1,h2⟩:=id N.ex
 refine⟨_,rfl,f,_,dx,fs,_,rfl,h1,T.aU.c,T.aU.na.2.1,h2.has ("ever",.ref E) (by simp),_,rfl,E,_,rfl,(by rw [<-h3];exact d7.k (k:=Sum.inr x) hE),?_⟩
 refine⟨.ref l,vs'.length,rfl,.inl ⟨vs',h5,rfl⟩,_,rfl,f,_,dx,fs,_,rfl,h1,T.aU.c,T.aU.na.2.2.1,h2.has ("gone",.ref G) (by simp),_,rfl,G,_,rfl,(by rw [<-h4];exact d7.k (k:=Sum.inr x) hG),?_⟩
 refine⟨_,_,rfl,rfl,?_⟩
 exact k
inductive rH (K:PySem.W.Frag) (t:jN) (vs:List V) (H:Hp) (Q:VK) (E_:XK):Prop where
 | mk:∀(f n E G Kp D Rw l:Addr) (ed gd:List (Key×V)) (x:Str) (vs':List V) (g:Nat),vs=[.ref f,.str x]->pA K t H f n E G Kp D Rw->H E=some (.dK ed)->H G=some (.dK gd)->cg ed (Sum.inr x)=some (.ref l)->cg gd (Sum.inr x)=some (.int g)->bI K H l vs'->(∀p,H p=none->Q (.ref p) (upd H p (.lst (vs'.drop g))))->rH K t vs H Q E_
theorem zO (T:Txt w K mg t):FO P w K mg base 1 t.mW ["self", "lane"] (rH K t):=by
 have sc:=T.mY.sc ["self", "lane"]
 refine T.mY.F.ok sc ln (fun _ _ _ _ H vs Q E hr h=>?_)
 obtain⟨f,n,E,G,Kp,D,Rw,l,ed,gd,x,vs',g,rfl,N,hE,hG,h3,h4,h5,k⟩:=h
 refine⟨_,(aA (aN (iU nj (bV hr.u1 (bh (pv 0) rfl) (pv 1) (fun _ _=>rfl)) (jE (bV hr.u1 (bh (pv 0) rfl) (pv 1) (fun _ _=>rfl))) lN))),?_⟩
 obtain⟨dx,fs,h1,h2⟩:=id N.ex
 refine⟨_,rfl,f,_,dx,fs,_,rfl,h1,T.aU.c,T.aU.na.2.1,h2.has ("ever",.ref E) (by simp),_,rfl,E,_,rfl,(by rw [<-h3];exact d7.k (k:=Sum.inr x) hE),?_⟩
 refine⟨_,rfl,f,_,dx,fs,_,rfl,h1,T.aU.c,T.aU.na.2.2.1,h2.has ("gone",.ref G) (by simp),_,rfl,G,_,rfl,(by rw [<-h4];exact d7.k (k:=Sum.inr x) hG),?_⟩
 refine⟨_,rfl,l,vs',rfl,h5,fun p hp=>?_⟩
 rw [Jx]
 exact k p hp
inductive xR (K:PySem.W.Frag) (t:jN) (vs:List V) (H:Hp) (Q:VK) (E_:XK):Prop where
 | mk:∀(f n E G Kp D Rw l:Addr) (ed gd:List (Key×V)) (x:Str) (vs':List V) (g:Nat),vs=[.ref f,.str x]->pA K t H f n E G Kp D Rw->H E=some (.dK ed)->H G=some (.dK gd)->cg ed (Sum.inr x)=some (.ref l)->cg gd (Sum.inr x)=some (.int g)->bI K H l vs'->Q ((vs'[g]?).getD .non) H->xR K t vs H Q E_
theorem Hv (T:Txt w K mg t):FO P w K mg base 2 t.uG ["self", "lane"] (xR K t):=by
 have sc:=T.tZ.sc ["self", "lane"]
 refine T.tZ.F.ok sc ln (fun _ _ _ _ H vs Q E hr h=>?_)
 obtain⟨f,n,E,G,Kp,D,Rw,l,ed,gd,x,vs',g,rfl,N,hE,hG,h3,h4,h5,k⟩:=h
 refine⟨_,(aA (aN (ue (aW Gr (wQ (pv 0) T.aU T.aU.me.2.1 (wD T) T.oK hr (aa (pv 1) ak aj)) aq (bC _)) (aR aO (bV hr.u1 (bh (pv 0) rfl) (pv 1) (fun _ _=>rfl)) (bV hr.u1 (bh (pv 0) rfl) (pv 1) (fun _ _=>rfl)) (fun _ _=>rfl)) qx))),?_⟩
 obtain⟨dx,fs,h1,h2⟩:=id N.ex
 refine⟨_,rfl,f,dx,fs,rfl,h1,h2.no _ (by decide +kernel),_,rfl,f,n,E,G,Kp,D,Rw,l,ed,gd,x,vs',g,rfl,N,hE,hG,h3,h4,h5,?_⟩
 refine⟨_,_,rfl,rfl,_,rfl,jy (fun e=>?_) (fun e=>?_)⟩
 ·have e':g <vs'.length:=by have:=of_decide_eq_true e;omega
  refine⟨_,rfl,f,_,dx,fs,_,rfl,h1,T.aU.c,T.aU.na.2.1,h2.has ("ever",.ref E) (by simp),_,rfl,E,_,rfl,(by rw [<-h3];exact d7.k (k:=Sum.inr x) hE),?_⟩
  refine⟨_,rfl,f,_,dx,fs,_,rfl,h1,T.aU.c,T.aU.na.2.2.1,h2.has ("gone",.ref G) (by simp),_,rfl,G,_,rfl,(by rw [<-h4];exact d7.k (k:=Sum.inr x) hG),?_⟩
  rw [List.getElem?_eq_getElem e'] at k
  exact⟨l,vs',g,_,rfl,rfl,h5,aK (List.getElem?_eq_getElem e'),k⟩
 ·have e':¬g <vs'.length:=fun z=>e (decide_eq_true (by omega))
  rw [List.getElem?_eq_none (by omega)] at k
  exact k
inductive oW (K:PySem.W.Frag) (t:jN) (vs:List V) (H:Hp) (Q:VK):Prop where
 | mk:∀(f n E G Kp D Rw:Addr) (rd dd:List (Key×V)) (x:Str),vs=[.ref f,.str x]->pA K t H f n E G Kp D Rw->H Rw=some (.dK rd)->H D=some (.dK dd)->(((cg rd (Sum.inr x)=none/\Q (.bl false) H)∨∃(l:Addr) (vs':List V) (g:Nat),cg rd (Sum.inr x)=some (.ref l)/\cg dd (Sum.inr x)=some (.int g)/\bI K H l vs'/\Q (.bl (decide (g=vs'.length))) H))->oW K t vs H Q
@[irreducible] noncomputable def eE (K:PySem.W.Frag) (t:jN):Sp:=fun vs H Q _=>oW K t vs H Q
theorem yF (T:Txt w K mg t):FO P w K mg base 1 t.km ["self", "name"] (eE K t):=by
 have sc:=T.lz.sc ["self", "name"]
 refine T.lz.F.ok sc (fun vs H Q E h=>?_) (fun cdv A outer s H vs Q E hr h=>?_)
 ·unfold eE at h
  obtain⟨f,n,E,G,Kp,D,Rw,rd,dd,x,rfl,_⟩:=h
  rfl
 ·unfold eE at h
  obtain⟨f,n,E,G,Kp,D,Rw,rd,dd,x,rfl,N,hR,hD,k⟩:=h
  refine⟨_,(aA (aN (zz (HJ (zQ hr.u1 (pv 1) (bh (pv 0) rfl))) (zL (vI dU (bV hr.u1 (bh (pv 0) rfl) (pv 1) (fun _ _=>rfl)) (bf bN (by rfl) T.dX cH (aa (bV hr.u1 (bh (pv 0) rfl) (pv 1) (fun _ _=>rfl)) ak aD)) (bC _)))))),?_⟩
  obtain⟨dx,fs,h1,h2⟩:=id N.ex
  refine⟨_,rfl,_,rfl,f,_,dx,fs,_,rfl,h1,T.aU.c,T.aU.na.2.2.2.2.2.1,h2.has ("rows",.ref Rw) (by simp),Rw,_,rfl,d7.k (k:=Sum.inr x) hR,?_⟩
  rcases k with ⟨k1,k⟩ | ⟨l,vs',g,k1,k2,k3,k⟩
  ·rw [k1]
   exact⟨_,rfl,dz k⟩
  ·rw [k1]
   refine⟨_,rfl,gj ?_⟩
   refine⟨_,rfl,f,_,dx,fs,_,rfl,h1,T.aU.c,T.aU.na.2.2.2.2.1,h2.has ("done",.ref D) (by simp),_,rfl,D,_,rfl,(by rw [<-k2];exact d7.k (k:=Sum.inr x) hD),?_⟩
   refine⟨_,rfl,f,_,dx,fs,_,rfl,h1,T.aU.c,T.aU.na.2.2.2.2.2.1,h2.has ("rows",.ref Rw) (by simp),_,rfl,Rw,_,rfl,(by rw [<-k1];exact d7.k (k:=Sum.inr x) hR),?_⟩
   refine⟨.ref l,vs'.length,rfl,.inl ⟨vs',k3,rfl⟩,rfl,?_⟩
   rw [show decide (V.int (g:Int)=V.int (vs'.length:Int))=decide (g=vs'.length) by rw [decide_eq_decide,V.int.injEq];omega]
   exact k
inductive wu (K:PySem.W.Frag) (t:jN) (vs:List V) (H:Hp) (Q:VK) (E_:XK):Prop where
 | mk:∀(f n E G Kp D Rw p:Addr) (ed gd:List (Key×V)) (i:Nat) (nm:V) (ns os:List V) (xs:List Str) (hv:Str->V),vs=[.ref f,.ref p]->pA K t H f n E G Kp D Rw->H E=some (.dK ed)->H G=some (.dK gd)->fH K t H p i nm ns (xs.map V.str) os->xs.length<=3->((∀x∈xs,∃(l:Addr) (vs':List V) (g:Nat),cg ed (Sum.inr x)=some (.ref l)/\cg gd (Sum.inr x)=some (.int g)/\bI K H l vs'/\hv x=(vs'[g]?).getD .non))->(∀d,H d=none->Q (.ref d) (upd H d (.lst (xs.map hv))))->wu K t vs H Q E_
theorem vW (T:Txt w K mg t):FO P w K mg base 3 t.sy ["self", "part"] (wu K t):=by
 have sc:=T.nY.sc ["self", "part"]
 refine T.nY.F.ok sc ln (fun _ _ _ _ H vs Q E hr h=>?_)
 obtain⟨f,n,E,G,Kp,D,Rw,p,ed,gd,i,nm,ns,os,xs,hv,rfl,N,hE,hG,hP,hx,hh,k⟩:=h
 refine⟨_,(aA (aN (iT [0] ["self", "part"] (bc (inClass (top 15) 6)) rfl (Jb (bh (pv 1) rfl)) (fun _ _ _ _ _=>jr) (fun _ _ _ _ _=>(wQ (pv 1) T.aU T.aU.me.2.2.2.1 (Hv T) T.tZ hr (aa (pv 0) ak aj)))))),?_⟩
 obtain⟨dx,fs,h1,h2⟩:=id N.ex
 obtain⟨dxp,tn,ti,to,p1,p2,p3,p4⟩:=id hP.ex
 have hz:sizeLine=16777216:=sizeLine_eq
 refine⟨_,rfl,p,_,dxp,_,_,rfl,p1,ir T i,xn T i,rG _ _ _ _,ti,rfl,⟨_,p3⟩,?_⟩
 refine J0 (K:=K) (a:=ti) (xs:=xs.map V.str) (fun j ys H'=>H'=H/\ys=(xs.take j).map hv) (by simp;omega) ⟨rfl,rfl⟩ (fun j ys H' ⟨_,e⟩=>by rw [e];simp;omega) (fun j ys H' _ ⟨e,_⟩=>by rw [e];exact p3) ?_ ?_
 ·rintro j y ys H' hy ⟨rfl,rfl⟩
  rw [List.getElem?_map] at hy
  obtain⟨x,hq,rfl⟩:=Option.map_eq_some_iff.mp hy
  obtain⟨l,vs',g,g1,g2,g3,g4⟩:=hh x (List.mem_of_getElem? hq)
  refine yes ⟨_,rfl,f,dx,fs,rfl,h1,h2.no _ (by decide +kernel),_,rfl,f,n,E,G,Kp,D,Rw,l,ed,gd,x,vs',g,rfl,N,hE,hG,g1,g2,g3,rfl,?_⟩
  rw [List.take_succ,hq,Option.toList_some,List.map_append,<-g4]
  rfl
 ·rintro ys H' ⟨rfl,rfl⟩ d hd
  rw [lM,List.take_length]
  exact k d hd
theorem QD (T:Txt w K mg t) (i:Nat):MethAt P w K mg base CP 2 (cls t i) "lacks" (yD K t i):=match i with
 | 0=>⟨_,_,_,T.iH.c,(T.bH.me T.iH.me.2.2.2.1),T.bH.b,(du T).imp fun _ _ _ _ h=>⟨_,h⟩⟩
 | 1=>⟨_,_,_,T.iD.c,(T.bH.me T.iD.me.2.2.2.1),T.bH.b,(du T).imp fun _ _ _ _ h=>⟨_,h⟩⟩
 | 2=>⟨_,_,_,T.iV.c,(T.bH.me T.iV.me.2.2.2.1),T.bH.b,(du T).imp fun _ _ _ _ h=>⟨_,h⟩⟩
 | 3=>⟨_,_,_,T.iG.c,(T.bH.me T.iG.me.2.2.2.1),T.bH.b,(du T).imp fun _ _ _ _ h=>⟨_,h⟩⟩
 | 4=>⟨_,_,_,T.iY.c,(T.bH.me T.iY.me.2.2.2.1),T.bH.b,(du T).imp fun _ _ _ _ h=>⟨_,h⟩⟩
 | 5=>⟨_,_,_,T.iI.c,(T.bH.me T.iI.me.2.2.2.1),T.bH.b,(du T).imp fun _ _ _ _ h=>⟨_,h⟩⟩
 | 6=>⟨_,_,_,T.mC.c,(T.bH.me T.mC.me.2.2.2.1),T.bH.b,(du T).imp fun _ _ _ _ h=>⟨_,h⟩⟩
 | 7=>⟨_,_,_,T.iW.c,(T.bH.me T.iW.me.2.2.2.1),T.bH.b,(du T).imp fun _ _ _ _ h=>⟨_,h⟩⟩
 | 8=>⟨_,_,_,T.fK.c,(T.bH.me T.fK.me.2.2.2.1),T.bH.b,(du T).imp fun _ _ _ _ h=>⟨_,h⟩⟩
 | 9=>⟨_,_,_,T.d8.c,(T.bH.me T.d8.me.2.2.2.1),T.bH.b,(du T).imp fun _ _ _ _ h=>⟨_,h⟩⟩
 | n+10=>⟨_,_,_,T.fO.c,(T.bH.me T.fO.me.2.2.2.1),T.bH.b,(du T).imp fun _ _ _ _ h=>⟨_,h⟩⟩
inductive tE (K:PySem.W.Frag) (t:jN) (vs:List V) (H:Hp) (Q:VK) (E:XK):Prop where
 | mk:∀(A:pN) (ls:List aG) (ps:List PD) (S:FS) (p:PD),vs=[.ref A.f,.str p.name]->iK K t H A.n ls ps->eN K t H A ls ps S->p∈ps->(∀H',aM H H'->Q (fM p.kind p.ins (aQ S p)) H')->tE K t vs H Q E
theorem Bk (T:Txt w K mg t):FO P w K mg base 4 t.pC ["self", "name"] (tE K t):=by
 have sc:=T.oU.sc ["self", "name", "part", "place"]
 refine T.oU.F.ok sc ln (fun _ _ _ _ H vs Q E hr h=>?_)
 obtain⟨A,ls,ps,S,p,rfl,N,W,hp,k⟩:=h
 refine⟨_,(au (sN sc 2 (wQ (bh (pv 0) rfl) T.bu T.bu.me.2.2.2.2.2.2.2.2.2.1 (iJ T) T.fV hr (aa (pv 1) ak aj)))
  (au (sN sc 3 (zc (CX:=CP) (k:=2) (E:=E0) (pv 2) (hr.mono (by decide)) iy (aa (wQ (pv 0) T.aU T.aU.me.2.2.2.2.2.1 (vW T) T.nY hr (aa (pv 2) ak aj)) ak aY)))
  (aA (aN (ue (il (uM (pv 3))) qx (aR cC (bh (pv 2) rfl) (pv 3) (fun _ _=>rfl))))))),?_⟩
 obtain⟨dxn,fsn,R,F,Pd,Gn,Tk,FL,PL,Wn⟩:=id N
 have F:=Wn.fit
 obtain⟨dx,fs,h1,h2⟩:=id W.at'.ex
 have hh1:∀{H':Hp},aM H H'->(∀x∈p.ins,∃(l:Addr) (vs':List V) (g:Nat),cg (Kw A.ea ls) (Sum.inr x)=some (.ref l)/\cg (dC S.g ls) (Sum.inr x)=some (.int g)/\bI K H' l vs'/\jc S x=(vs'[g]?).getD .non):=fun s x hx=>by
  obtain⟨l,hl,rfl⟩:=F.inL hp (List.mem_append.mpr (.inl hx))
  exact⟨A.ea l.name,_,S.g l.name,jA F.whole.nod hl,oN F.whole.nod hl,bI.of (s _ _ (W.lists l hl)),by unfold jc;rw [List.getElem?_map]⟩
 refine⟨_,rfl,A.f,_,dx,fs,_,rfl,h1,T.aU.c,T.aU.na.1,h2.has ("net",.ref A.n) (by simp),A.n,dxn,fsn,rfl,Wn.obj,Wn.fl.no _ (by decide +kernel),_,rfl,A.n,ls,ps,p.name,rfl,N,.inl ⟨p,hp,rfl,fun H1 q s1 P1=>?_⟩⟩
 obtain⟨dxp,tn,ti,to,p1,p2,p3,p4⟩:=id P1.ex
 have W1:=W.same s1
 have hI:=(F.pok p hp).2.2.1
 have hO:=ph S p (F.pok p hp)
 refine⟨_,rfl,q,cls t p.kind,dxp,_,yD K t p.kind,rfl,p1,vH _ _ _ _ (by decide +kernel) (by decide +kernel) (by decide +kernel) (by decide +kernel),QD T p.kind,?_⟩
 refine⟨_,rfl,A.f,dx,fs,rfl,s1 _ _ h1,h2.no _ (by decide +kernel),_,rfl,A.f,A.n,A.E,A.G,A.Kp,A.D,A.Rw,q,_,_,p.kind,_,_,_,p.ins,jc S,rfl,W1.at',W1.ever,W1.gone,P1,(by have:=vV p.kind;omega),hh1 s1,fun d hd=>?_⟩
 have s2:aM H1 (upd H1 d (.lst (p.ins.map (jc S)))):=aB hd
 refine⟨q,d,_,_,_,_,aQ S p,rfl,P1.same s2,by rw [lM];exact hI,bI.of az,hO,fun H3 s3=>?_⟩
 have s23:=s2.trans s3
 have k':=k H3 (s1.trans s23)
 have hlt:=f9 hO
 unfold fM at k'
 unfold Nh
 cases hf:(places p.kind (aQ S p)).find? (j6 (aQ S p)) with
 | none=>
  rw [hf] at k'
  exact⟨_,rfl,_,rfl,gj k'⟩
 | some j=>
  rw [hf] at k'
  have hq:j <p.ins.length:=by have:=hlt j (List.mem_of_find?_eq_some hf);unfold aQ at this;rwa [lM] at this
  have k':Q (V.str p.ins[j]) H3:=by simpa only [List.getElem?_eq_getElem hq,Option.map_some,Option.getD_some] using k'
  exact⟨_,rfl,_,rfl,dz ⟨_,rfl,q,_,dxp,_,_,rfl,s23 _ _ p1,ir T p.kind,xn T p.kind,rG _ _ _ _,_,rfl,ti,p.ins.map V.str,j,_,rfl,rfl,s23.seqT p3,aK (j:=j) (by rw [List.getElem?_map,List.getElem?_eq_getElem hq];rfl),k'⟩⟩
theorem N8 (T:Txt w K mg t) {i:Nat} (hi:i <11):MethAt P w K mg base CP 2 (cls t i) "worked" (eG K t i):=match i,hi with
 | 0,_=>⟨_,_,_,T.iH.c,(T.lV.me T.iH.me.2.2.2.2.1),T.lV.b,iM.mono (k:=2) (Cm T) (by decide)⟩
 | 1,_=>⟨_,_,_,T.iD.c,(T.lO.me T.iD.me.2.2.2.2.1),T.lO.b,iM.mono (k:=2) (Dj T) (by decide)⟩
 | 2,_=>⟨_,_,_,T.iV.c,(T.lL.me T.iV.me.2.2.2.2.1),T.lL.b,iM.mono (k:=2) (Em T) (by decide)⟩
 | 3,_=>⟨_,_,_,T.iG.c,(T.lJ.me T.iG.me.2.2.2.2.1),T.lJ.b,iM.mono (k:=2) (Cd T) (by decide)⟩
 | 4,_=>⟨_,_,_,T.iY.c,(T.lG.me T.iY.me.2.2.2.2.1),T.lG.b,iM.mono (k:=2) (BX T) (by decide)⟩
 | 5,_=>⟨_,_,_,T.iI.c,(T.lH.me T.iI.me.2.2.2.2.1),T.lH.b,iM.mono (k:=2) (Dm T) (by decide)⟩
 | 6,_=>⟨_,_,_,T.mC.c,(T.nZ.me T.mC.me.2.2.2.2.1),T.nZ.b,iM.mono (k:=2) (Fo T) (by decide)⟩
 | 7,_=>⟨_,_,_,T.iW.c,(T.lC.me T.iW.me.2.2.2.2.1),T.lC.b,iM.mono (k:=2) (BZ T) (by decide)⟩
 | 8,_=>⟨_,_,_,T.fK.c,(T.jQ.me T.fK.me.2.2.2.2.1),T.jQ.b,iM.mono (k:=2) (Br T) (by decide)⟩
 | 9,_=>⟨_,_,_,T.d8.c,(T.jF.me T.d8.me.2.2.2.2.1),T.jF.b,iM.mono (k:=2) (zT T) (by decide)⟩
 | 10,_=>⟨_,_,_,T.fO.c,(T.jW.me T.fO.me.2.2.2.2.1),T.jW.b,iM.mono (k:=2) (Bp T) (by decide)⟩
theorem Ys (ns ws:List Int) (kp:Int):∀pv∈cz 0 ns ws kp,∃q:Nat,pv.1=(q:Int)/\q <cO 0:=by
 intro pv h
 simp [cz] at h
 subst h
 exact⟨0,rfl,by decide⟩
theorem YF (ns ws:List Int) (kp:Int):∀pv∈cz 1 ns ws kp,∃q:Nat,pv.1=(q:Int)/\q <cO 1:=by
 intro pv h
 simp [cz] at h
theorem XD (ns ws:List Int) (kp:Int):∀pv∈cz 2 ns ws kp,∃q:Nat,pv.1=(q:Int)/\q <cO 2:=by
 intro pv h
 simp [cz] at h
 subst h
 exact⟨0,rfl,by decide⟩
theorem Xr (ns ws:List Int) (kp:Int):∀pv∈cz 3 ns ws kp,∃q:Nat,pv.1=(q:Int)/\q <cO 3:=by
 intro pv h
 simp [cz] at h
 rcases h with rfl | rfl
 ·exact⟨0,rfl,by decide⟩
 ·exact⟨1,rfl,by decide⟩
theorem Xi (ns ws:List Int) (kp:Int):∀pv∈cz 4 ns ws kp,∃q:Nat,pv.1=(q:Int)/\q <cO 4:=by
 intro pv h
 simp [cz] at h
 subst h
 exact⟨0,rfl,by decide⟩
theorem Xe (ns ws:List Int) (kp:Int):∀pv∈cz 5 ns ws kp,∃q:Nat,pv.1=(q:Int)/\q <cO 5:=by
 intro pv h
 simp [cz] at h
 subst h
 exact⟨0,rfl,by decide⟩
theorem Yz (ns ws:List Int) (kp:Int):∀pv∈cz 6 ns ws kp,∃q:Nat,pv.1=(q:Int)/\q <cO 6:=by
 intro pv h
 simp [cz] at h
 subst h
 exact⟨0,rfl,by decide⟩
theorem Xx (ns ws:List Int) (kp:Int):∀pv∈cz 7 ns ws kp,∃q:Nat,pv.1=(q:Int)/\q <cO 7:=by
 intro pv h
 simp [cz] at h
 subst h
 exact⟨0,rfl,by decide⟩
theorem YM (ns ws:List Int) (kp:Int):∀pv∈cz 8 ns ws kp,∃q:Nat,pv.1=(q:Int)/\q <cO 8:=by
 intro pv h
 simp [cz] at h
 rcases h with rfl | rfl
 ·exact⟨0,rfl,by decide⟩
 ·exact⟨1,rfl,by decide⟩
theorem YK (ns ws:List Int) (kp:Int):∀pv∈cz 9 ns ws kp,∃q:Nat,pv.1=(q:Int)/\q <cO 9:=by
 intro pv h
 simp [cz] at h
 subst h
 exact⟨0,rfl,by decide⟩
theorem WL (ns ws:List Int) (kp:Int):∀pv∈cz 10 ns ws kp,∃q:Nat,pv.1=(q:Int)/\q <cO 10:=by
 intro pv h
 simp [cz] at h
 subst h
 have h0:=Int.emod_nonneg (g0 ws) (show(2:Int)≠0 by decide)
 have h1:=Int.emod_lt_of_pos (g0 ws) (show(0:Int) <2 by decide)
 exact⟨(g0 ws % 2).toNat,by show g0 ws % 2=_;omega,by show(g0 ws % 2).toNat <2;omega⟩
theorem BR {i:Nat} (hi:i<=10) (ns ws:List Int) (kp:Int):∀pv∈cz i ns ws kp,∃q:Nat,pv.1=(q:Int)/\q <cO i:=by
 match i,hi with
 | 0,_=>exact Ys ns ws kp
 | 1,_=>exact YF ns ws kp
 | 2,_=>exact XD ns ws kp
 | 3,_=>exact Xr ns ws kp
 | 4,_=>exact Xi ns ws kp
 | 5,_=>exact Xe ns ws kp
 | 6,_=>exact Yz ns ws kp
 | 7,_=>exact Xx ns ws kp
 | 8,_=>exact YM ns ws kp
 | 9,_=>exact YK ns ws kp
 | 10,_=>exact WL ns ws kp
 | (n+11),z=>exact absurd z (by omega)
theorem yS (i:Nat) (ns ws:List Int) (kp:Int):(cz i ns ws kp).length<=2:=match i with
 | 0=>by simp [cz]
 | 1=>by simp [cz]
 | 2=>by simp [cz]
 | 3=>by simp [cz]
 | 4=>by simp [cz]
 | 5=>by simp [cz]
 | 6=>by simp [cz]
 | 7=>by simp [cz]
 | 8=>by simp [cz]
 | 9=>by simp [cz]
 | n+10=>by simp [cz]
noncomputable def nameAt (xs:List Str) (q:Nat):V:=V.str ((xs[q]?).getD Str.empty)
theorem Vn {H:Hp} {Q:VK} {Ex:XK} {f n E G Kp D Rw:Addr} {rd dd:List (Key×V)} {y:Str} (N:pA K t H f n E G Kp D Rw) (hR:H Rw=some (.dK rd)) (hD:H D=some (.dK dd))
  (k:(cg rd (Sum.inr y)=none/\Q (.bl false) H)∨∃(l:Addr) (vs':List V) (g:Nat),cg rd (Sum.inr y)=some (.ref l)/\cg dd (Sum.inr y)=some (.int g)/\bI K H l vs'/\Q (.bl (decide (g=vs'.length))) H):eE K t [.ref f,.str y] H Q Ex:=by
 unfold eE
 exact⟨f,n,E,G,Kp,D,Rw,rd,dd,y,rfl,N,hR,hD,k⟩
theorem X8 {i:Nat} (h0:i≠0) (hi:i <11) (h9:i≠9):cV i=cI i:=by
 match i,h0,hi with
 | 1,_,_=>rfl
 | 2,_,_=>rfl
 | 3,_,_=>rfl
 | 4,_,_=>rfl
 | 5,_,_=>rfl
 | 6,_,_=>rfl
 | 7,_,_=>rfl
 | 8,_,_=>rfl
 | 9,_,_=>exact absurd rfl h9
 | 10,_,_=>rfl
theorem Je {S:FS} {p:PD} (ok:m5 p) (hl:fM p.kind p.ins (aQ S p)=.non):∀q∈places p.kind (aQ S p),∃x n,p.ins[q]?=some x/\(aQ S p)[q]?=some (.int n)/\(S.ev x)[S.g x]?=some n:=by
 have hO:=ph S p ok
 have hf:(places p.kind (aQ S p)).find? (j6 (aQ S p))=none:=by
  cases hf:(places p.kind (aQ S p)).find? (j6 (aQ S p)) with
  | none=>rfl
  | some j=>
   unfold fM at hl
   rw [hf] at hl
   have hq:j <p.ins.length:=by have:=f9 hO j (List.mem_of_find?_eq_some hf);unfold aQ at this;rwa [lM] at this
   simp only [List.getElem?_eq_getElem hq,Option.map_some,Option.getD_some] at hl
   cases hl
 intro q hq
 have h1:=List.find?_eq_none.mp hf q hq
 have hlt:=f9 hO q hq
 have hlt':q <p.ins.length:=by unfold aQ at hlt;rwa [lM] at hlt
 have e:(aQ S p)[q]?=some (jc S p.ins[q]):=by unfold aQ;rw [List.getElem?_map,List.getElem?_eq_getElem hlt'];rfl
 refine⟨p.ins[q],?_⟩
 unfold j6 at h1
 rw [e] at h1 ⊢
 unfold jc at h1 ⊢
 cases h0:(S.ev p.ins[q])[S.g p.ins[q]]? with
 | none=>rw [h0] at h1;exact absurd (by simp) h1
 | some n=>exact⟨n,List.getElem?_eq_getElem hlt',by simp,rfl⟩
theorem NT {b:Nat} {ls:List aG} {ps:List PD} {S:FS} (F:vh ls ps) (O:KN b ls ps S) {p:PD} (hp:p∈ps) (hl:fM p.kind p.ins (aQ S p)=.non) (he:vO S p=false):(pO S p).length=cV p.kind/\VR (pO S p)/\
  (p.kind≠0->(places p.kind (aQ S p)).map (fun q=>((aQ S p)[q]?).getD .non)=(pO S p).map V.int)/\(p.kind=0->∃w,(S.r p.name)[S.d p.name]?=some w/\pO S p=[w]):=by
 have ok:=F.pok p hp
 have hn:=Je ok hl
 by_cases h0:p.kind=0
 ·have hd:=O.dl p hp h0
  have hlt:S.d p.name <(S.r p.name).length:=by
   unfold vO at he
   simp [h0] at he
   omega
  have e:=List.getElem?_eq_getElem hlt
  have ew:pO S p=[(S.r p.name)[S.d p.name]]:=by unfold pO;rw [if_pos h0,e];rfl
  refine⟨by rw [ew,h0];rfl,fun w hw=>?_,fun z=>absurd h0 z,fun _=>⟨_,e,ew⟩⟩
  rw [ew,List.mem_singleton] at hw
  subst hw
  exact O.rb p hp h0 _ (List.getElem_mem hlt)
 ·have ew:pO S p=(places p.kind (aQ S p)).map fun q=>Ww (((aQ S p)[q]?).getD .non):=by unfold pO;rw [if_neg h0]
  refine⟨?_,fun w hw=>?_,fun _=>?_,fun z=>absurd z h0⟩
  ·rw [ew,lM]
   by_cases h9:p.kind=9
   ·have h3:=hn
    unfold places at h3 ⊢
    rw [if_pos h9] at h3 ⊢
    split
    ·rw [h9];rfl
    ·rename_i hno
     obtain⟨x,n,_,h3,_⟩:=h3 0 (by split <;> simp)
     cases hs:aQ S p with
     | nil=>rw [hs] at h3;cases h3
     | cons a r=>
      rw [hs] at h3
      have:a=.int n:=by simpa using h3
      exact absurd (by rw [hs,this]) (hno n r)
   ·unfold places
    rw [if_neg h9,List.length_range,(ph S p ok).1,X8 h0 ok.1 h9]
  ·rw [ew] at hw
   obtain⟨q,hq,rfl⟩:=List.mem_map.mp hw
   obtain⟨x,n,hx,h3,h4⟩:=hn q hq
   rw [h3]
   show 0<=n/\n <1000000000
   obtain⟨l,hll,rfl⟩:=F.inL hp (List.mem_append.mpr (.inl (List.mem_of_getElem? hx)))
   exact O.vb l hll n (List.mem_of_getElem? h4)
  ·rw [ew,List.map_map]
   refine List.map_congr_left fun q hq=>?_
   obtain⟨x,n,_,h3,_⟩:=hn q hq
   show _=V.int (Ww _)
   rw [h3]
   rfl
theorem Dd {S:FS} {p:PD} (h:fM p.kind p.ins (aQ S p)≠.non):dY S p=none:=by unfold dY;rw [if_pos h]
theorem Fx {S:FS} {p:PD} (h:vO S p=true):dY S p=none:=by unfold dY;split <;> simp [h]
inductive wJ (K:PySem.W.Frag) (t:jN) (vs:List V) (H:Hp) (Q:VK):Prop where
 | mk:∀(b:Nat) (A:pN) (ls:List aG) (ps:List PD) (S:FS) (p:PD),vs=[.ref A.f,.str p.name]->iK K t H A.n ls ps->eN K t H A ls ps S->p∈ps->KN b ls ps S->((dY S p=none->∀H',aM H H'->Q .non H'))->(∀dd,dY S p=some dd->∀H' U,aM H H'->H U=none->m9 (A.cells ls ps) H' U dd->Q (.ref U) H')->wJ K t vs H Q
@[irreducible] noncomputable def j4 (K:PySem.W.Frag) (t:jN):Sp:=fun vs H Q _=>wJ K t vs H Q
noncomputable abbrev ql:List Str:=["self", "name", "part", "heads", "places", "values", "answer", "given"]
theorem Ig (T:Txt w K mg t):FO P w K mg base 5 t.uC ["self", "name"] (j4 K t):=by
 have sc:=T.uy.sc ql
 refine T.uy.F.ok sc (fun vs H Q E h=>?_) (fun cdv A outer s H vs Q E hr h=>?_)
 ·unfold j4 at h
  obtain⟨b,A,ls,ps,S,p,rfl,_⟩:=h
  rfl
 ·unfold j4 at h
  obtain⟨b,A,ls,ps,S,p,rfl,N,W,hp,O,kn,k⟩:=h
  refine⟨_,(au (bR (PW.pt (rF (il (HY (wQ (pv 0) T.aU T.aU.me.2.2.2.2.2.2.1 (Bk T) T.oU hr (aa (pv 1) ak aj)))) (kj (jo (wQ (pv 0) T.aU T.aU.me.2.2.2.2.1 (yF T) T.lz hr (aa (pv 1) ak aj))))))
    (aA (aN qx))
    aZ)
   (au (sN sc 2 (wQ (bh (pv 0) rfl) T.bu T.bu.me.2.2.2.2.2.2.2.2.2.1 (iJ T) T.fV hr (aa (pv 1) ak aj)))
   (au (sN sc 3 (wQ (pv 0) T.aU T.aU.me.2.2.2.2.2.1 (vW T) T.nY hr (aa (pv 2) ak aj)))
   (au (sN sc 4 (zc (CX:=CP) (k:=1) (E:=E0) (pv 2) (hr.mono (by decide)) iy (aa (pv 3) ak aj)))
   (au (mH (i:=5) [3] ql (bc (inClass (top 15) 9)) rfl sc.nd rfl (b8 (pv 4)) (fun _ _ _ _ _=>jr) (fun _ _ _ _ _=>(aR (J1 (K:=K) rfl) (pv 1) (pv 0) (fun _ _=>rfl))))
   (au (fu (bR (il (zQ hr.u1 (pv 1) (bh (pv 0) rfl)))
    (aA (sN sc 5 (bw (aa (aR aO (bV hr.u1 (bh (pv 0) rfl) (pv 1) (fun _ _=>rfl)) (bV hr.u1 (bh (pv 0) rfl) (pv 1) (fun _ _=>rfl)) (fun _ _=>rfl)) ak aD))))
    aZ))
   (au (sN sc 6 (zc (CX:=CP) (k:=2) (E:=E0) (pv 2) (hr.mono (by decide)) iy (aa (pv 5) (aa (bV hr.u1 (bh (pv 0) rfl) (pv 1) (fun _ _=>rfl)) ak aD) aj)))
   (au (QB (i:=7) ["place", "value"] [2] ql (bc (inClass (top 15) 9)) rfl sc.nd rfl (b8 (aR cC (pv 6) aq (fun _ _=>rfl))) (fun _ _ _ _ _=>BP (K:=K) (n:=2) rfl rfl (bD (lA (i:=0) (show(["place", "value", "part"]:List Str).Nodup by decide +kernel) rfl (Or.inl rfl) (.inr rfl)) (bD (lA (i:=1) (show(["place", "value", "part"]:List Str).Nodup by decide +kernel) rfl (Or.inl rfl) (.inr rfl)) fQ))) (fun _ _ _ _ _=>jr) (fun _ _ _ _ _=>(bU (aa (aR (rQ (K:=K) rfl) (Il (K:=K) rfl (pv 2) rfl) (pv 0) (fun _ _=>rfl)) (aa (pv 1) ak aj) aD))))
   (aA (aN (bU (aa (iT [2] ql (bc (inClass (top 15) 9)) rfl (b8 (pv 4)) (fun _ _ _ _ _=>jr) (fun _ _ _ _ _=>(aR (rQ (K:=K) rfl) (Il (K:=K) rfl (pv 1) rfl) (pv 0) (fun _ _=>rfl)))) (aa (pv 7) (aa (aR cC (pv 6) aq (fun _ _=>rfl)) ak aD) aj) fU)))))))))))),?_⟩
  obtain⟨dxn,fsn,R,F,Pd,Gn,Tk,FL,PL,Wn⟩:=id N
  have F:=Wn.fit
  obtain⟨dx,fs,h1,h2⟩:=id W.at'.ex
  have ok:=F.pok p hp
  have hO:=ph S p ok
  have hI:=ok.2.2.1
  have hh1:∀{H':Hp},aM H H'->(∀x∈p.ins,∃(l:Addr) (vs':List V) (g:Nat),cg (Kw A.ea ls) (Sum.inr x)=some (.ref l)/\cg (dC S.g ls) (Sum.inr x)=some (.int g)/\bI K H' l vs'/\jc S x=(vs'[g]?).getD .non):=fun s x hx=>by
   obtain⟨l,hl,rfl⟩:=F.inL hp (List.mem_append.mpr (.inl hx))
   exact⟨A.ea l.name,_,S.g l.name,jA F.whole.nod hl,oN F.whole.nod hl,bI.of (s _ _ (W.lists l hl)),by unfold jc;rw [List.getElem?_map]⟩
  have hz:sizeLine=16777216:=sizeLine_eq
  have hpl:(places p.kind (aQ S p)).length<=3:=places_len hO
  refine⟨_,rfl,A.f,dx,fs,rfl,h1,h2.no _ (by decide +kernel),_,rfl,A,ls,ps,S,p,rfl,N,W,hp,fun H1 s1=>?_⟩
  by_cases hlk:fM p.kind p.ins (aQ S p)≠.non
  ·have e:(!decide (fM p.kind p.ins (aQ S p)=V.non))=true:=by simp [hlk]
   refine⟨_,rfl,?_⟩
   rw [e]
   exact gj (gj (kn (Dd hlk) H1 s1))
  have hlk:=Classical.not_not.mp hlk
  rw [hlk]
  have W1:=W.same s1
  refine⟨_,rfl,dz ⟨_,rfl,A.f,dx,fs,rfl,s1 _ _ h1,h2.no _ (by decide +kernel),_,rfl,?_⟩⟩
  have vd:=lg (k:=fun x=>(S.d x:Int)) F.pnd hp
  cases he:vO S p with
  | true=>
   have h0:p.kind=0/\S.d p.name=(S.r p.name).length:=by unfold vO at he;simpa using he
   refine Vn W1.at' W1.rows W1.done (.inr ⟨_,_,S.d p.name,Dg F.pnd hp h0.1,vd,bI.of (W1.rlst p hp h0.1),?_⟩)
   rw [decide_eq_true (by rw [lM];exact h0.2)]
   exact⟨_,rfl,gj (kn (Fx he) H1 s1)⟩
  | false=>
  obtain⟨lw,hB,hv,hw0⟩:=NT F O hp hlk he
  have k':=k _ (show dY S p=some _ by unfold dY;rw [if_neg (by simp [hlk]),if_neg (by simp [he])])
  have hwl:=BR (show p.kind<=10 by have:=ok.1;omega) p.nums (pO S p) (S.k p.name)
  have hw2:=yS p.kind p.nums (pO S p) (S.k p.name)
  have pick:∀(Q':VK) (E':XK),Q' (.bl false) H1->eE K t [.ref A.f,.str p.name] H1 Q' E':=by
   intro Q' E' z
   refine Vn W1.at' W1.rows W1.done ?_
   by_cases h0:p.kind=0
   ·refine .inr ⟨_,_,S.d p.name,Dg F.pnd hp h0,vd,bI.of (W1.rlst p hp h0),?_⟩
    obtain⟨w,ew,_⟩:=hw0 h0
    have:=(List.getElem?_eq_some_iff.mp ew).1
    rw [decide_eq_false (by rw [lM];omega)]
    exact z
   ·exact .inl ⟨Ni F.pnd hp h0,z⟩
  refine pick _ _ ?_
  clear pick
  refine⟨_,rfl,dz ?_⟩
  have Wn1:=Wn.same s1
  refine⟨_,rfl,A.f,_,dx,fs,_,rfl,s1 _ _ h1,T.aU.c,T.aU.na.1,h2.has ("net",.ref A.n) (by simp),A.n,dxn,fsn,rfl,Wn1.obj,Wn1.fl.no _ (by decide +kernel),_,rfl,A.n,ls,ps,p.name,rfl,Wn1.s,.inl ⟨p,hp,rfl,fun H2 q s2' hP=>?_⟩⟩
  have s2:=s1.trans s2'
  have W2:=W.same s2
  obtain⟨dxp,tn,ti,to,p1,p2,p3,p4⟩:=id hP.ex
  clear s2' W1 Wn1
  refine⟨_,rfl,A.f,dx,fs,rfl,s2 _ _ h1,h2.no _ (by decide +kernel),_,rfl,A.f,A.n,A.E,A.G,A.Kp,A.D,A.Rw,q,_,_,p.kind,_,_,_,p.ins,jc S,rfl,W2.at',W2.ever,W2.gone,hP,(by have:=vV p.kind;omega),hh1 s2,fun d hd=>?_⟩
  have s3':=aB (o:=.lst (aQ S p)) hd
  have ed3:(upd H2 d (.lst (p.ins.map (jc S)))) d=some (.lst (aQ S p)):=az
  change aM H2 (upd H2 d (.lst (p.ins.map (jc S)))) at s3'
  generalize upd H2 d (.lst (p.ins.map (jc S)))=H3 at s3' ed3 ⊢
  have s3:=s2.trans s3'
  refine⟨_,rfl,q,cls t p.kind,dxp,_,oR K t p.kind,rfl,s3' _ _ p1,vH _ _ _ _ (by decide +kernel) (by decide +kernel) (by decide +kernel) (by decide +kernel),Fv T p.kind,_,rfl,q,d,_,_,_,_,aQ S p,rfl,hP.same s3',by rw [lM];exact hI,bI.of ed3,hO,fun H4 L s4' nL eL=>?_⟩
  have s24:=s3'.trans s4'
  have s4:=s3.trans s4'
  have ed4:=s4' _ _ ed3
  refine⟨_,rfl,L,rfl,⟨_,bI.of eL⟩,jd (K:=K) (a:=L) (xs:=(places p.kind (aQ S p)).map nV) (fun j ys H'=>H'=H4/\ys=((places p.kind (aQ S p)).take j).map (fun q=>((aQ S p)[q]?).getD .non)) (by rw [lM];omega) ⟨rfl,rfl⟩ (fun j ys H' ⟨_,e⟩=>by rw [e,lM,List.length_take];omega) (fun j ys H' _ ⟨e,_⟩=>by rw [e];exact bI.of eL) ?_ ?_⟩
  ·rintro j v ys H' hv' ⟨e',rfl⟩
   subst e'
   rw [List.getElem?_map] at hv'
   obtain⟨r,hr',rfl⟩:=Option.map_eq_some_iff.mp hv'
   have hql:r <(aQ S p).length:=f9 hO r (List.mem_of_getElem? hr')
   refine yes ⟨_,rfl,_,rfl,d,aQ S p,r,_,rfl,rfl,bI.of ed4,aK (j:=r) (List.getElem?_eq_getElem hql),rfl,?_⟩
   rw [List.take_succ,hr',Option.toList_some,List.map_append,List.map_cons,List.map_nil,List.getElem?_eq_getElem hql]
   rfl
  rintro ys H' ⟨e',rfl⟩ V1 hV1
  subst e'
  rw [lM,List.take_length]
  have s5':=aB (o:=.lst ((places p.kind (aQ S p)).map fun q=>((aQ S p)[q]?).getD .non)) hV1
  have eV:(upd H' V1 (.lst ((places p.kind (aQ S p)).map fun q=>((aQ S p)[q]?).getD .non))) V1=some (.lst ((places p.kind (aQ S p)).map fun q=>((aQ S p)[q]?).getD .non)):=az
  generalize upd H' V1 (.lst ((places p.kind (aQ S p)).map fun q=>((aQ S p)[q]?).getD .non))=H5 at s5' eV ⊢
  have s25:=s24.trans s5'
  have s5:=s4.trans s5'
  have W5:=W.same s5
  refine⟨fun σ' H6=>∃V2,aM H H6/\aM H2 H6/\aM H' H6/\σ'=[some (.ref A.f),some (.str p.name),some (.ref q),some (.ref d),some (.ref L),some (.ref V2),none,none]/\H6 V2=some (.lst ((pO S p).map V.int)),?_,?_⟩
  ·refine⟨_,rfl,_,rfl,A.f,_,dx,fs,_,rfl,s5 _ _ h1,T.aU.c,T.aU.na.2.2.2.2.2.1,h2.has ("rows",.ref A.Rw) (by simp),A.Rw,_,rfl,d7.k (k:=Sum.inr p.name) W5.rows,?_⟩
   by_cases h0:p.kind=0
   ·obtain⟨w,ew,eW⟩:=hw0 h0
    have v1:=Dg (ra:=A.ra) F.pnd hp h0
    rw [v1,eW]
    refine⟨_,rfl,gj ?_⟩
    refine⟨_,rfl,A.f,_,dx,fs,_,rfl,s5 _ _ h1,T.aU.c,T.aU.na.2.2.2.2.2.1,h2.has ("rows",.ref A.Rw) (by simp),_,rfl,A.Rw,_,rfl,(by rw [<-v1];exact d7.k (k:=Sum.inr p.name) W5.rows),?_⟩
    refine⟨_,rfl,A.f,_,dx,fs,_,rfl,s5 _ _ h1,T.aU.c,T.aU.na.2.2.2.2.1,h2.has ("done",.ref A.D) (by simp),_,rfl,A.D,_,rfl,(by rw [<-vd];exact d7.k (k:=Sum.inr p.name) W5.done),?_⟩
    refine⟨A.ra p.name,_,S.d p.name,_,rfl,rfl,bI.of (W5.rlst p hp h0),aK (j:=S.d p.name) (by rw [List.getElem?_map,ew];rfl),jl,fun V2 hV2=>?_⟩
    exact⟨V2,s5.trans (aB hV2),s25.trans (aB hV2),s5'.trans (aB hV2),rfl,az⟩
   ·rw [Ni F.pnd hp h0]
    exact⟨_,rfl,dz ⟨V1,s5,s25,s5',rfl,by rw [<-hv h0];exact eV⟩⟩
  rintro σ' H6 ⟨V2,s6,s26,s46,rfl,eV2⟩
  clear W5 W2 s25 s24 s5 s5' s4 s3 s3' eV ed4 ed3
  have W6:=W.same s6
  have hkp:=lg (k:=S.k) F.pnd hp
  refine⟨_,rfl,q,cls t p.kind,dxp,_,eG K t p.kind,rfl,s26 _ _ p1,vH _ _ _ _ (by decide +kernel) (by decide +kernel) (by decide +kernel) (by decide +kernel),N8 T ok.1,_,rfl,_,rfl,A.f,_,dx,fs,_,rfl,s6 _ _ h1,T.aU.c,T.aU.na.2.2.2.1,h2.has ("kept",.ref A.Kp) (by simp),_,rfl,A.Kp,_,rfl,(by rw [<-hkp];exact d7.k (k:=Sum.inr p.name) W6.kept),?_⟩
  refine⟨q,V2,_,p.nums,_,_,pO S p,S.k p.name,rfl,hP.same s26,ok.2.1,bI.of eV2,lw,hB,fun H7 U0 L0 rs s7 nL0 eU0 eL0 tU=>?_⟩
  have s57:=s6.trans s7
  have s27:=s26.trans s7
  have eL7:=s7 _ _ (s46 _ _ eL)
  have hlr:rs.length=(cz p.kind p.nums (pO S p) (S.k p.name)).length:=by have:=Paired.length tU;unfold BK at this;rw [lM] at this;exact this
  clear W6
  refine⟨_,rfl,U0,_,0,_,rfl,rfl,eQ.of eU0,aK (j:=0) rfl,L0,rfl,⟨_,bI.of eL0⟩,?_⟩
  refine CJ (K:=K) (a:=L0) (xs:=rs.map V.ref) (fun j ys H8=>aM H7 H8/\∃qs:List Addr,ys=qs.map V.ref/\gB H8 qs (((cz p.kind p.nums (pO S p) (S.k p.name)).take j).map fun pv=>[.str (strAt p.outs pv.1.toNat),.int pv.2])) (by rw [lM];omega) ⟨aM.refl _,[],rfl,.nil⟩ ?_ (fun j ys H8 _ ⟨e,_⟩=>e.seq (bI.of eL0)) ?_ ?_
  ·rintro j ys H8 ⟨_,qs,rfl,tq⟩
   have:=Paired.length tq
   rw [lM,List.length_take] at this
   rw [lM]
   omega
  ·rintro j v ys H8 hj ⟨s8,qs,rfl,tq⟩
   rw [List.getElem?_map] at hj
   obtain⟨r,hr',rfl⟩:=Option.map_eq_some_iff.mp hj
   have hjl:j <(cz p.kind p.nums (pO S p) (S.k p.name)).length:=by have:=(List.getElem?_eq_some_iff.mp hr').1;omega
   obtain⟨pv,hpv⟩:∃pv,(cz p.kind p.nums (pO S p) (S.k p.name))[j]?=some pv:=⟨_,List.getElem?_eq_getElem hjl⟩
   have hr2:H7 r=some (.tup [.int pv.1,.int pv.2]):=by
    obtain⟨vs2,z1,z2⟩:=uv tU hr'
    unfold BK at z1
    rw [List.getElem?_map,hpv] at z1
    cases z1
    exact z2
   obtain⟨o,ho1,ho2⟩:=hwl _ (List.mem_of_getElem? hpv)
   have ho3:o <p.outs.length:=by rw [ok.2.2.2.1];exact ho2
   have hn:strAt p.outs o=p.outs[o]:=by unfold strAt;rw [List.getElem?_eq_getElem ho3];rfl
   refine⟨r,_,rfl,eQ.of (s8 _ _ hr2),rfl,_,_,rfl,_,_,rfl,rfl,rfl,?_⟩
   refine yes ⟨_,rfl,q,_,dxp,_,_,rfl,s8 _ _ (s27 _ _ p1),ir T p.kind,Ib T p.kind,GP _ _ _ _,_,rfl,to,p.outs.map V.str,_,.str (strAt p.outs o),rfl,rfl,s8.seqT (s27.seqT p4),?_,_,rfl,jl,fun u hu=>⟨s8.trans (aB hu),qs ++ [u],by simp,?_⟩⟩
   ·rw [ho1,hn]
    exact aK (j:=o) (by rw [List.getElem?_map,List.getElem?_eq_getElem ho3];rfl)
   ·rw [List.take_succ,hpv,Option.toList_some,List.map_append]
    refine(gB.same (aB hu) tq).append (.cons ?_ .nil)
    show upd H8 u _ u=some (HO.tup [V.str (strAt p.outs pv.1.toNat),V.int pv.2])
    rw [ho1,Int.toNat_natCast]
    exact az
  rintro ys H8 ⟨s8,qs,rfl,tq⟩ Lg hLg
  rw [lM,hlr,List.take_length] at tq
  have t9:=aB (o:=.lst (qs.map V.ref)) hLg
  have s9':=s8.trans t9
  have tq9:=gB.same t9 tq
  have eLg:(upd H8 Lg (.lst (qs.map V.ref))) Lg=some (.lst (qs.map V.ref)):=az
  generalize upd H8 Lg (.lst (qs.map V.ref))=H9 at t9 s9' tq9 eLg ⊢
  have s9:=s57.trans s9'
  have s29:=s27.trans s9'
  have eL9:=s9' _ _ eL7
  have eU9:=s9' _ _ eU0
  refine⟨_,rfl,L,rfl,⟨_,bI.of eL9⟩,jd (K:=K) (a:=L) (xs:=(places p.kind (aQ S p)).map nV) (fun j ys H'=>H'=H9/\ys=((places p.kind (aQ S p)).take j).map (fun q=>V.str (strAt p.ins q))) (by rw [lM];omega) ⟨rfl,rfl⟩ (fun j ys H' ⟨_,e⟩=>by rw [e,lM,List.length_take];omega) (fun j ys H' _ ⟨e,_⟩=>by rw [e];exact bI.of eL9) ?_ ?_⟩
  ·rintro j v ys HX hv' ⟨e',rfl⟩
   subst e'
   rw [List.getElem?_map] at hv'
   obtain⟨r,hr',rfl⟩:=Option.map_eq_some_iff.mp hv'
   have hql:r <p.ins.length:=by have:=f9 hO r (List.mem_of_getElem? hr');unfold aQ at this;rwa [lM] at this
   have hn:strAt p.ins r=p.ins[r]:=by unfold strAt;rw [List.getElem?_eq_getElem hql];rfl
   refine yes ⟨_,rfl,q,_,dxp,_,_,rfl,s29 _ _ p1,ir T p.kind,xn T p.kind,rG _ _ _ _,_,rfl,ti,p.ins.map V.str,r,.str (strAt p.ins r),rfl,rfl,s29.seqT p3,by rw [hn];exact aK (j:=r) (by rw [List.getElem?_map,List.getElem?_eq_getElem hql];rfl),rfl,?_⟩
   rw [List.take_succ,hr',Option.toList_some,List.map_append]
   rfl
  rintro ys H10 ⟨e',rfl⟩ La hLa
  subst e'
  rw [lM,List.take_length]
  have s10':=aB (o:=.lst ((places p.kind (aQ S p)).map fun q=>V.str (strAt p.ins q))) hLa
  refine⟨_,rfl,_,rfl,U0,_,1,_,rfl,rfl,eQ.of (s10' _ _ eU9),aK (j:=1) rfl,jl,fun U hU=>?_⟩
  refine k' _ U ((s9.trans s10').trans (aB hU)) ((s9.trans s10').free hU) ⟨La,Lg,qs,az,?_,aB hU _ _ (s10' _ _ eLg),?_,W.cell (s9.free hLa),W.cell ((s57.trans s8).free hLg)⟩
  ·rw [List.map_map]
   exact aB hU _ _ az
  ·rw [List.map_map]
   exact gB.same (s10'.trans (aB hU)) tq9
theorem O7 (g:Str->Nat) {ls:List aG} {x:Str} (hx:x∈ls.map (·.name)) (v:Nat):putK (dC g ls) (Sum.inr x) (.int (v:Nat))=dC (fun y=>if y=x then v else g y) ls:=by
 unfold putK
 rw [if_pos (by
  obtain⟨l,hl,rfl⟩:=List.mem_map.mp hx
  exact List.any_eq_true.mpr ⟨_,List.mem_map.mpr ⟨l,hl,rfl⟩,by simp⟩)]
 unfold dC
 rw [List.map_map]
 refine List.map_congr_left fun l _=>?_
 by_cases h:l.name=x
 ·simp [h]
 ·simp [h]
theorem vy (g:Str->Int) {ps:List PD} {x:Str} (hx:x∈ps.map (·.name)) (v:Int):putK (bG g ps) (Sum.inr x) (.int v)=bG (fun y=>if y=x then v else g y) ps:=by
 unfold putK
 rw [if_pos (by
  obtain⟨l,hl,rfl⟩:=List.mem_map.mp hx
  exact List.any_eq_true.mpr ⟨_,List.mem_map.mpr ⟨l,hl,rfl⟩,by simp⟩)]
 unfold bG
 rw [List.map_map]
 refine List.map_congr_left fun l _=>?_
 by_cases h:l.name=x
 ·simp [h]
 ·simp [h]
noncomputable def ju (S:FS) (x:Str) (dd:gK):FS:=⟨fun y=>S.ev y ++ (dd.gv.filter fun q=>decide (q.1=y)).map (·.2),fun y=>if y∈dd.tk then S.g y+1 else S.g y,fun y=>if y=x then dd.kv else S.k y,fun y=>if y=x then S.d y+1 else S.d y,S.r⟩
noncomputable def Ey (M:List Addr) (H H':Hp):Prop:=∀b,b∉M->H' b=H b
structure G9 (ls:List aG) (dd:gK):Prop where
 ntk:dd.tk.Nodup
 tin:∀x∈dd.tk,x∈ls.map (·.name)
 gin:∀q∈dd.gv,q.1∈ls.map (·.name)
 g2:dd.gv.length<=2
inductive Bc (K:PySem.W.Frag) (t:jN) (vs:List V) (H:Hp) (Q:VK):Prop where
 | mk:∀(b:Nat) (A:pN) (ls:List aG) (ps:List PD) (S:FS) (p:PD) (U:Addr) (dd:gK),vs=[.ref A.f,.str p.name,.ref U]->vh ls ps->eN K t H A ls ps S->p∈ps->((∀l∈ls,(S.ev l.name).length<=b))->b<=100000->m9 (A.cells ls ps) H U dd->G9 ls dd->(∀H',Ey (A.cells ls ps) H H'->eN K t H' A ls ps (ju S p.name dd)->Q .non H')->Bc K t vs H Q
@[irreducible] noncomputable def pL (K:PySem.W.Frag) (t:jN):Sp:=fun vs H Q _=>Bc K t vs H Q
theorem Mh (T:Txt w K mg t):FO P w K mg base 1 t.zU ["self", "name", "deed"] (pL K t):=by
 have sc:=T.zy.sc ["self", "name", "deed", "lane", "value"]
 refine T.zy.F.ok sc (fun vs H Q E h=>?_) (fun cdv A outer s H vs Q E hr h=>?_)
 ·unfold pL at h
  obtain⟨b,A,ls,ps,S,p,U,dd,rfl,_⟩:=h
  rfl
 ·unfold pL at h
  obtain⟨b,A,ls,ps,S,p,U,dd,rfl,F,W,hp,O,hb,⟨La,Lg,rs,hU,hLa,hLg,hT,na,ng⟩,⟨ntk,hin,hout,hg2⟩,k⟩:=h
  refine⟨_,(au (dD PassesOwn.never rfl (b8 (aR cC (pv 2) aq (fun _ _=>rfl))) (gN sc 3)
    (aA (Ip hr.u1 (bh (pv 0) rfl) (pv 3) aq By (fun _ _ _=>rfl))))
   (au (dD PassesOwn.never rfl (b8 (aR cC (pv 2) aq (fun _ _=>rfl))) (jT rfl (bD (gN sc 3) (bD (gN sc 4) fQ)))
    (aA (bL (Hx (bV hr.u1 (bh (pv 0) rfl) (pv 3) (fun _ _=>rfl)) (aa (pv 4) ak aj)))))
   (au (fD hr.u1 (bh (pv 0) rfl) (pv 1) (aR cC (pv 2) aq (fun _ _=>rfl)) rfl)
   (aA (Ip hr.u1 (bh (pv 0) rfl) (pv 1) aq By (fun _ _ _=>rfl)))))),?_⟩
  have hl:sizeLine=16777216:=sizeLine_eq
  have l24:=F.l24
  have p16:=F.p16
  obtain⟨dx,fs,h1,h2⟩:=id W.at'.ex
  have hG:=W.gone
  have hn:=W.nod
  unfold pN.cells at hn na ng
  simp only [List.nodup_cons,List.mem_cons,List.mem_append,not_or] at hn na ng
  obtain⟨⟨nEG,nEK,nED,nER,nEE,nE2⟩,⟨nGK,nGD,nGR,nGE,nG2⟩,⟨nKD,nKR,nKE,nK2⟩,⟨nDR,nDE,nD2⟩,⟨nRE,nR2⟩,nA⟩:=hn
  obtain⟨nE1,nR1,nER1⟩:=List.nodup_append.mp nA
  refine⟨_,rfl,U,_,0,_,rfl,rfl,eQ.of hU,aK (j:=0) rfl,La,rfl,⟨_,bI.of hLa⟩,cU (K:=K) (a:=La) (xs:=dd.tk.map V.str) (fun j σ H'=>H'=upd H A.G (.dK (dC (fun x=>if x∈dd.tk.take j then S.g x+1 else S.g x) ls))/\∃v3,σ=[some (.ref A.f),some (.str p.name),some (.ref U),v3,none]) ⟨?_,none,rfl⟩ ?_ ?_ ?_⟩
  ·have:dC (fun x=>if x∈dd.tk.take 0 then S.g x+1 else S.g x) ls=dC S.g ls:=by simp
   rw [this,Jh hG]
  ·rintro j σ H' _ ⟨rfl,_⟩
   exact bI.of (jK hG hLa (by intro _ z;cases z))
  ·rintro j x σ H' hx ⟨rfl,v3,rfl⟩
   rw [List.getElem?_map] at hx
   obtain⟨y,hy,rfl⟩:=Option.map_eq_some_iff.mp hx
   have hym:=hin y (List.mem_of_getElem? hy)
   have nin:y∉dd.tk.take j:=by
    have:=mq (f:=id) (xs:=dd.tk) (by rw [List.map_id];exact ntk) hy
    rwa [List.map_id] at this
   have vg:cg (dC (fun x=>if x∈dd.tk.take j then S.g x+1 else S.g x) ls) (Sum.inr y)=some (.int ((S.g y:Nat):Int)):=by
    obtain⟨l,hl',rfl⟩:=List.mem_map.mp hym
    rw [oN F.whole.nod hl',if_neg nin]
   refine⟨_,rfl,A.f,_,dx,fs,_,rfl,jK hG h1 (by intro _ z;cases z),T.aU.c,T.aU.na.2.2.1,h2.has ("gone",.ref A.G) (by simp),_,rfl,A.G,.int ((S.g y:Nat):Int),rfl,(by rw [<-vg];exact d7.k (k:=Sum.inr y) az),_,_,rfl,rfl,_,j7.k (k:=Sum.inr y) az (by unfold dC;rw [lM];omega),?_,_,rfl⟩
   rw [sZ]
   show upd H A.G (.dK (putK _ (Sum.inr y) (.int ((S.g y+1:Nat):Int))))=_
   rw [O7 _ hym (S.g y+1)]
   have:(fun z=>if z=y then S.g y+1 else if z∈dd.tk.take j then S.g z+1 else S.g z)=fun z=>if z∈dd.tk.take (j+1) then S.g z+1 else S.g z:=by
    funext z
    simp only [List.take_succ,hy,Option.toList_some,List.mem_append,List.mem_singleton]
    by_cases h3:z=y <;> by_cases h4:z∈dd.tk.take j <;> simp [h3,h4]
   rw [this]
  rintro σ H' ⟨rfl,v3,rfl⟩
  rw [lM,List.take_length]
  have m1:Ey [A.G] H (upd H A.G (.dK (dC (ju S p.name dd).g ls))):=fun b hb=>aH (by simpa using hb)
  have gG:upd H A.G (.dK (dC (ju S p.name dd).g ls)) A.G=some (.dK (dC (ju S p.name dd).g ls)):=az
  change yP _ _ _ _ (upd H A.G (.dK (dC (ju S p.name dd).g ls)))
  generalize upd H A.G (.dK (dC (ju S p.name dd).g ls))=H1 at m1 gG ⊢
  have g1:∀{b:Addr} {u:HO},H b=some u->(∀ks,u≠.dK ks)->H1 b=some u:=fun {b u} h hu=>by
   rw [m1 b (by rw [List.mem_singleton];rintro rfl;rw [hG] at h;exact hu _ (Option.some.inj h).symm)]
   exact h
  have hlr:rs.length=dd.gv.length:=by have:=Paired.length hT;rw [lM] at this;exact this
  have eE1:H1 A.E=some (.dK (Kw A.ea ls)):=by rw [m1 A.E (by simpa using nEG)];exact W.ever
  have lists1:∀l∈ls,H1 (A.ea l.name)=some (.lst ((S.ev l.name).map V.int)):=fun l hl=>g1 (W.lists l hl) (by intro _ z;cases z)
  have nM:∀{b:Addr} {u:HO},H1 b=some u->(∀ks,u≠.lst ks)->b∉ls.map (fun l=>A.ea l.name):=fun {b u} h hu hm=>by
   obtain⟨l,hl,rfl⟩:=List.mem_map.mp hm
   rw [lists1 l hl] at h
   exact hu _ (Option.some.inj h).symm
  refine⟨_,rfl,U,_,1,_,rfl,rfl,eQ.of (g1 hU (by intro _ z;cases z)),aK (j:=1) rfl,Lg,rfl,⟨_,bI.of (g1 hLg (by intro _ z;cases z))⟩,cU (K:=K) (a:=Lg) (xs:=rs.map V.ref) (fun j σ H'=>(Ey (ls.map (fun l=>A.ea l.name)) H1 H'/\∀l∈ls,H' (A.ea l.name)=some (.lst ((S.ev l.name ++ ((dd.gv.take j).filter fun q=>decide (q.1=l.name)).map (·.2)).map V.int)))/\∃v3 v4,σ=[some (.ref A.f),some (.str p.name),some (.ref U),v3,v4]) ⟨⟨fun _ _=>rfl,fun l hl=>?_⟩,v3,none,rfl⟩ ?_ ?_ ?_⟩
  ·rw [lists1 l hl]
   simp
  ·rintro j σ H' _ ⟨⟨m2,_⟩,_⟩
   exact bI.of (by rw [m2 Lg ng.2.2.2.2.2.1];exact g1 hLg (by intro _ z;cases z))
  ·rintro j x σ H' hx ⟨⟨m2,l2⟩,v3,v4,rfl⟩
   rw [List.getElem?_map] at hx
   obtain⟨r,hr',rfl⟩:=Option.map_eq_some_iff.mp hx
   obtain⟨vs2,z1,z2⟩:=uv hT hr'
   rw [List.getElem?_map] at z1
   obtain⟨w,ew,rfl⟩:=Option.map_eq_some_iff.mp z1
   have hj:=(List.getElem?_eq_some_iff.mp ew).1
   have er:=g1 z2 (by intro _ z;cases z)
   have er':H' r=some (.tup [.str w.1,.int w.2]):=by rw [m2 r (nM er (by intro _ z;cases z))];exact er
   have fe:H' A.f=some (.ins t.cB dx fs):=by
    have e1:=g1 h1 (by intro _ z;cases z)
    rw [m2 A.f (nM e1 (by intro _ z;cases z))]
    exact e1
   have ee:H' A.E=some (.dK (Kw A.ea ls)):=by rw [m2 A.E nEE];exact eE1
   obtain⟨l,hl',hln⟩:=List.mem_map.mp (hout w (List.mem_of_getElem? ew))
   have va:=jA (ea:=A.ea) F.whole.nod hl'
   have ea:=l2 _ hl'
   rw [hln] at va
   refine⟨r,_,rfl,eQ.of er',rfl,_,_,rfl,_,_,rfl,rfl,?_⟩
   refine⟨_,rfl,A.f,_,dx,fs,_,rfl,fe,T.aU.c,T.aU.na.2.1,h2.has ("ever",.ref A.E) (by simp),_,rfl,A.E,.ref (A.ea w.1),rfl,(by rw [<-va];exact d7.k (k:=Sum.inr w.1) ee),.inl ⟨rfl,_,bI.of (by rw [<-hln];exact ea)⟩,?_⟩
   refine⟨_,rfl,A.ea w.1,_,.int w.2,rfl,rfl,by rw [<-hln];exact ea,?_,⟨fun b hb=>?_,fun l1 hl1=>?_⟩,some (.str w.1),some (.int w.2),rfl⟩
   ·have h3:=O l hl'
    have h4:=List.length_filter_le (fun q:Str×Int=>decide (q.1=l.name)) (dd.gv.take j)
    rw [List.length_take] at h4
    rw [lM,lP,lM]
    omega
   ·rw [aH (fun z=>hb (by rw [z,<-hln];exact List.mem_map.mpr ⟨l,hl',rfl⟩))]
    exact m2 b hb
   ·rw [List.take_succ,ew,Option.toList_some,List.filter_append,List.map_append]
    by_cases h:w.1=l1.name
    ·have e:l1=l:=by
      have a1:=find_name F.whole.nod hl1
      have a2:=find_name F.whole.nod hl'
      rw [<-h,<-hln,a2] at a1
      exact(Option.some.inj a1).symm
     subst e
     rw [<-hln,az]
     simp [h]
    ·have hne:A.ea l1.name≠A.ea w.1:=fun z=>by
      rw [<-hln] at z
      have:=jn nE1 hl1 hl' z
      exact h (by rw [this,hln])
     rw [aH hne,l2 l1 hl1]
     simp [h]
  rintro σ H2 ⟨⟨m2,l2⟩,v5,v6,rfl⟩
  rw [lM,hlr,List.take_length] at l2
  have fe:H2 A.f=some (.ins t.cB dx fs):=by
   have e1:=g1 h1 (by intro _ z;cases z)
   rw [m2 A.f (nM e1 (by intro _ z;cases z))]
   exact e1
  have uE:H2 U=some (.tup [.ref La,.ref Lg,.int dd.kv]):=by
   have e1:=g1 hU (by intro _ z;cases z)
   rw [m2 U (nM e1 (by intro _ z;cases z))]
   exact e1
  have kE:H2 A.Kp=some (.dK (bG S.k ps)):=by rw [m2 A.Kp nKE,m1 A.Kp (by simpa using Ne.symm nGK)];exact W.kept
  have dE:H2 A.D=some (.dK (bG (fun x=>(S.d x:Int)) ps)):=by rw [m2 A.D nDE,m1 A.D (by simpa using Ne.symm nGD)];exact W.done
  have lk:∀k1:Str->Int,(bG k1 ps).length <sizeLine:=fun k1=>by unfold bG;rw [lM];omega
  have hpn:p.name∈ps.map (·.name):=List.mem_map.mpr ⟨p,hp,rfl⟩
  refine⟨_,rfl,U,_,2,_,rfl,rfl,eQ.of uE,aK (j:=2) rfl,_,rfl,A.f,_,dx,fs,_,rfl,fe,T.aU.c,T.aU.na.2.2.2.1,h2.has ("kept",.ref A.Kp) (by simp),_,rfl,A.Kp,_,rfl,j7.k (k:=Sum.inr p.name) kE (lk _),?_⟩
  rw [vy S.k hpn]
  have m3:Ey [A.Kp] H2 (upd H2 A.Kp (.dK (bG (fun y=>if y=p.name then dd.kv else S.k y) ps))):=fun b hb=>aH (by simpa using hb)
  have kE3:upd H2 A.Kp (.dK (bG (fun y=>if y=p.name then dd.kv else S.k y) ps)) A.Kp=some (.dK (bG (fun y=>if y=p.name then dd.kv else S.k y) ps)):=az
  generalize upd H2 A.Kp (.dK (bG (fun y=>if y=p.name then dd.kv else S.k y) ps))=H3 at m3 kE3 ⊢
  have fe3:H3 A.f=some (.ins t.cB dx fs):=by rw [m3 A.f (by simpa using vZ fe kE (by intro z;cases z))];exact fe
  have dE3:H3 A.D=some (.dK (bG (fun x=>(S.d x:Int)) ps)):=by rw [m3 A.D (by simpa using Ne.symm nKD)];exact dE
  have vd:=lg (k:=fun x=>(S.d x:Int)) F.pnd hp
  refine⟨_,rfl,A.f,_,dx,fs,_,rfl,fe3,T.aU.c,T.aU.na.2.2.2.2.1,h2.has ("done",.ref A.D) (by simp),_,rfl,A.D,.int (S.d p.name:Int),rfl,(by rw [<-vd];exact d7.k (k:=Sum.inr p.name) dE3),_,_,rfl,rfl,_,j7.k (k:=Sum.inr p.name) dE3 (lk _),?_⟩
  rw [vy (fun x=>(S.d x:Int)) hpn]
  have eD:(fun y=>if y=p.name then(S.d p.name:Int)+1 else(S.d y:Int))=fun x=>(((ju S p.name dd).d x:Nat):Int):=by
   funext y
   unfold ju
   by_cases h:y=p.name
   ·subst h;simp
   ·simp [h]
  change Q .non (upd H3 A.D (.dK (bG (fun y=>if y=p.name then(S.d p.name:Int)+1 else(S.d y:Int)) ps)))
  rw [eD]
  have m4:Ey [A.D] H3 (upd H3 A.D (.dK (bG (fun x=>(((ju S p.name dd).d x:Nat):Int)) ps))):=fun b hb=>aH (by simpa using hb)
  have dE4:upd H3 A.D (.dK (bG (fun x=>(((ju S p.name dd).d x:Nat):Int)) ps)) A.D=some (.dK (bG (fun x=>(((ju S p.name dd).d x:Nat):Int)) ps)):=az
  generalize upd H3 A.D (.dK (bG (fun x=>(((ju S p.name dd).d x:Nat):Int)) ps))=H4 at m4 dE4 ⊢
  have mv:∀b,b≠A.D->b≠A.Kp->H4 b=H2 b:=fun b a1 a2=>by rw [m4 b (by simpa using a1),m3 b (by simpa using a2)]
  have fe4:H4 A.f=some (.ins t.cB dx fs):=by rw [m4 A.f (by simpa using vZ fe3 dE3 (by intro z;cases z))];exact fe3
  refine k H4 (fun b hb=>?_) ⟨⟨dx,fs,fe4,h2⟩,?_,?_,?_,?_,dE4,?_,?_,W.nod⟩
  ·unfold pN.cells at hb
   simp only [List.mem_cons,List.mem_append,not_or] at hb
   rw [mv b hb.2.2.2.1 hb.2.2.1,m2 b hb.2.2.2.2.2.1,m1 b (by simpa using hb.2.1)]
  ·rw [mv A.E nED nEK,m2 A.E nEE,eE1]
  ·intro l hl
   have a2:=l2 l hl
   rw [mv _ (vZ a2 dE (by intro z;cases z)) (vZ a2 kE (by intro z;cases z))]
   exact a2
  ·rw [mv A.G nGD nGK,m2 A.G nGE,gG]
  ·rw [m4 A.Kp (by simpa using nKD)]
   exact kE3
  ·rw [mv A.Rw (Ne.symm nDR) (Ne.symm nKR),m2 A.Rw nRE,m1 A.Rw (by simpa using Ne.symm nGR)]
   exact W.rows
  ·intro p' hp' h0
   have hm:A.ra p'.name∈(qJ ps).map (fun p=>A.ra p.name):=List.mem_map.mpr ⟨p',List.mem_filter.mpr ⟨hp',by simp [h0]⟩,rfl⟩
   rw [mv _ (fun z=>nD2 (by rw [<-z];exact hm)) (fun z=>nK2 (by rw [<-z];exact hm)),m2 _ (fun z=>nER1 _ z _ hm rfl),m1 _ (by simpa using fun z=>nG2 (by rw [<-z];exact hm))]
   exact W.rlst p' hp' h0
theorem Rj (T:Txt w K mg t) (i:Nat):MethAt P w K mg base CP 1 (cls t i) "start" (uh K t i):=match i with
 | 0=>⟨_,_,_,T.iH.c,(T.bM.me T.iH.me.2.2.2.2.2.1),T.bM.b,(dM T).imp fun _ _ _ _ h=>⟨_,by omega,h⟩⟩
 | 1=>⟨_,_,_,T.iD.c,(T.bM.me T.iD.me.2.2.2.2.2.1),T.bM.b,(dM T).imp fun _ _ _ _ h=>⟨_,by omega,h⟩⟩
 | 2=>⟨_,_,_,T.iV.c,(T.bM.me T.iV.me.2.2.2.2.2.1),T.bM.b,(dM T).imp fun _ _ _ _ h=>⟨_,by omega,h⟩⟩
 | 3=>⟨_,_,_,T.iG.c,(T.bM.me T.iG.me.2.2.2.2.2.1),T.bM.b,(dM T).imp fun _ _ _ _ h=>⟨_,by omega,h⟩⟩
 | 4=>⟨_,_,_,T.iY.c,(T.bM.me T.iY.me.2.2.2.2.2.1),T.bM.b,(dM T).imp fun _ _ _ _ h=>⟨_,by omega,h⟩⟩
 | 5=>⟨_,_,_,T.iI.c,(T.nW.me T.iI.me.2.2.2.2.2.1),T.nW.b,Fl T⟩
 | 6=>⟨_,_,_,T.mC.c,(T.bM.me T.mC.me.2.2.2.2.2.1),T.bM.b,(dM T).imp fun _ _ _ _ h=>⟨_,by omega,h⟩⟩
 | 7=>⟨_,_,_,T.iW.c,(T.bM.me T.iW.me.2.2.2.2.2.1),T.bM.b,(dM T).imp fun _ _ _ _ h=>⟨_,by omega,h⟩⟩
 | 8=>⟨_,_,_,T.fK.c,(T.bM.me T.fK.me.2.2.2.2.2.1),T.bM.b,(dM T).imp fun _ _ _ _ h=>⟨_,by omega,h⟩⟩
 | 9=>⟨_,_,_,T.d8.c,(T.bM.me T.d8.me.2.2.2.2.2.1),T.bM.b,(dM T).imp fun _ _ _ _ h=>⟨_,by omega,h⟩⟩
 | n+10=>⟨_,_,_,T.fO.c,(T.bM.me T.fO.me.2.2.2.2.2.1),T.bM.b,(dM T).imp fun _ _ _ _ h=>⟨_,by omega,h⟩⟩
theorem Ut:∀i,i <11->cL i= "give" ->i=0:=by decide +kernel
theorem Oh (p:PD) (h:m5 p):G7 p.kind (p.nums.map V.int)=.int (Hw p):=by
 unfold G7 Hw
 by_cases h5:p.kind=5
 ·rw [if_pos h5,if_pos h5]
  have hl:p.nums.length=1:=by rw [h.2.1,h5];rfl
  match p.nums,hl with
  | [m],_=>rfl
 ·rw [if_neg h5,if_neg h5]
noncomputable def JS (ls:List aG) (x:Str):List Int:=((ls.find? fun l=>decide (l.name=x)).map (·.first)).getD []
theorem ud {ls:List aG} (nd:(ls.map (·.name)).Nodup) {l:aG} (hl:l∈ls):JS ls l.name=l.first:=by
 unfold JS
 rw [find_name nd hl]
 rfl
noncomputable def jP (RW:List (Str×Addr×List Int)):List (Key×V):=RW.map fun q=>((Sum.inr q.1:Key),V.ref q.2.1)
noncomputable def rE (RW:List (Str×Addr×List Int)) (x:Str):List Int:=((RW.find? fun q=>decide (q.1=x)).map (·.2.2)).getD []
structure jX (H:Hp) (rw:Addr) (RW:List (Str×Addr×List Int)):Prop where
 dict:H rw=some (.dK (jP RW))
 lists:∀q∈RW,H q.2.1=some (.lst (q.2.2.map V.int))
 nd:(RW.map (·.1)).Nodup
 len:∀q∈RW,q.2.2.length<=300
theorem jX.same {H H':Hp} {rw:Addr} {RW:List (Str×Addr×List Int)} (h:jX H rw RW) (s:aM H H'):jX H' rw RW:=⟨s _ _ h.dict,fun q hq=>s _ _ (h.lists q hq),h.nd,h.len⟩
theorem xj (RW:List (Str×Addr×List Int)):(jP RW).map (·.1)=(RW.map (·.1)).map (fun x=>(Sum.inr x:Key)):=by unfold jP;rw [List.map_map,List.map_map];rfl
theorem jX.get {H:Hp} {rw:Addr} {RW:List (Str×Addr×List Int)} (h:jX H rw RW) (x:Str):(cg (jP RW) (Sum.inr x)=none/\rE RW x=[])∨∃a,cg (jP RW) (Sum.inr x)=some (.ref a)/\H a=some (.lst ((rE RW x).map V.int))/\(rE RW x).length<=300:=by
 by_cases hx:x∈RW.map (·.1)
 ·obtain⟨q,hq,rfl⟩:=List.mem_map.mp hx
  have e:rE RW q.1=q.2.2:=by unfold rE;rw [find_name (f:=fun q:Str×Addr×List Int=>q.1) h.nd hq];rfl
  refine .inr ⟨q.2.1,gZ (by rw [xj];exact fJ h.nd) (List.mem_map.mpr ⟨q,hq,rfl⟩),?_,?_⟩
  ·rw [e];exact h.lists q hq
  ·rw [e];exact h.len q hq
 ·refine .inl ⟨fL (by rw [xj];intro z;obtain⟨b,hb,e⟩:=List.mem_map.mp z;cases e;exact hx hb),?_⟩
  unfold rE
  rw [List.find?_eq_none.mpr fun q hq=>by simpa using fun e=>hx (List.mem_map.mpr ⟨q,hq,e⟩)]
  rfl
noncomputable def cG (ls:List aG) (ps:List PD) (RW:List (Str×Addr×List Int)):FS:=⟨JS ls,fun _=>0,fC ps,fun _=>0,rE RW⟩
noncomputable def JR (RW:List (Str×Addr×List Int)) (RL:List (PD×Addr)):List (Addr×HO):=RL.map fun q=>(q.2,HO.lst ((rE RW q.1.name).map V.int))
theorem QG {ps:List PD} (h:∀p∈ps,m5 p):(ps.filter fun p=>decide (cL p.kind= "give"))=qJ ps:=by
 unfold qJ
 refine List.filter_congr fun p hp=>?_
 by_cases h0:p.kind=0
 ·rw [h0];rfl
 ·have:¬cL p.kind= "give" :=fun z=>h0 (Ut _ (h p hp).1 z)
  simp [h0,this]
noncomputable def gY {α:Type} (f:α->Str) (L:List (α×Addr)) (x:Str):Addr:=((L.find? fun q=>decide (f q.1=x)).map (·.2)).getD 0
theorem jY {α:Type} {f:α->Str} {L:List (α×Addr)} (nd:(L.map fun q=>f q.1).Nodup) {q:α×Addr} (hq:q∈L):gY f L (f q.1)=q.2:=by
 unfold gY
 rw [find_name (f:=fun q:α×Addr=>f q.1) nd hq]
 rfl
theorem vz {α:Type} {f:α->Str} {L:List (α×Addr)} (nd:(L.map fun q=>f q.1).Nodup):(L.map (·.1)).map (fun a=>gY f L (f a))=L.map (·.2):=by
 rw [List.map_map]
 exact List.map_congr_left fun q hq=>jY nd hq
inductive qj (K:PySem.W.Frag) (t:jN) (vs:List V) (H:Hp) (Q:VK):Prop where
 | mk:∀(H0:Hp) (f dx n rw:Addr) (ls:List aG) (ps:List PD) (RW:List (Str×Addr×List Int)),vs=[.ref f,.ref n,.ref rw]->H f=some (.ins t.cB dx [])->aM H0 H->H0 f=none->iK K t H0 n ls ps->jX H0 rw RW->(∀H' A,A.f=f->A.n=n->lQ f H H'->eN K t H' A ls ps (cG ls ps RW)->(∀a∈A.cells ls ps,H a=none)->Q .non H')->qj K t vs H Q
@[irreducible] noncomputable def gh (K:PySem.W.Frag) (t:jN):Sp:=fun vs H Q _=>qj K t vs H Q
theorem zN (T:Txt w K mg t):FO P w K mg base 4 t.mQ ["self", "net", "rows"] (gh K t):=by
 have sc:=T.jC.sc ["self", "net", "rows", "lane", "name", "door"]
 refine T.jC.F.ok sc (fun vs H Q E h=>?_) (fun cdv A outer s H vs Q E hr h=>?_)
 ·unfold gh at h
  obtain⟨H0,f,dx,n,rw,ls,ps,RW,rfl,_⟩:=h
  rfl
 ·unfold gh at h
  obtain⟨H0,f,dx,n,rw,ls,ps,RW,rfl,hf,s0,nf0,N,hrw,k⟩:=h
  refine⟨_,(au (ik (pv 0) (pv 1) rfl)
   (au (ik (pv 0) eY rfl)
   (au (ik (pv 0) eY rfl)
   (au (dD PassesOwn.never rfl (b8 (Sd (pv 1) T.bu T.bu.me.2.1 (qp T) T.ji hr)) (gN sc 3)
    (au (fD hr.u1 (bh (pv 0) rfl) (pv 3) (wQ (pv 1) T.bu T.bu.me.2.2.2.2.2.2.2.2.1 (Bq T) T.pI hr (aa (pv 3) ak aj)) rfl)
    (aA (fD hr.u1 (bh (pv 0) rfl) (pv 3) aq rfl))))
   (au (ik (pv 0) eY rfl)
   (au (ik (pv 0) eY rfl)
   (au (dD PassesOwn.never rfl (b8 (Sd (pv 1) T.bu T.bu.me.2.2.1 (jR T) T.gf hr)) (gN sc 4)
    (au (fD hr.u1 (bh (pv 0) rfl) (pv 4) (Gq (CX:=CP) (k:=1) (E:=E0) (wQ (pv 1) T.bu T.bu.me.2.2.2.2.2.2.2.2.2.1 (iJ T) T.fV hr (aa (pv 4) ak aj)) (hr.mono (by decide)) iy) rfl)
    (aA (fD hr.u1 (bh (pv 0) rfl) (pv 4) aq rfl))))
   (au (ik (pv 0) eY rfl)
   (aA (dD PassesOwn.never rfl (b8 (Sd (pv 1) T.bu T.bu.me.2.2.2.2.1 (rY T) T.lX hr)) (gN sc 5)
    (aA (fD hr.u1 (bh (pv 0) rfl) (pv 5) (dg jU (by rfl) T.pB j0 (aa (Kg hr.u1 (pv 2) (pv 5) (bw ak) ⟨rfl,rfl,rfl,rfl⟩) ak aY)) rfl)))))))))))),?_⟩
  obtain⟨dxn,fsn,R,F,Pd,Gn,Tk,FL,PL,W⟩:=id N
  have hl:sizeLine=16777216:=sizeLine_eq
  have l24:=W.fit.l24
  have p16:=W.fit.p16
  have sk:∀{Hk:Hp},lQ f H Hk->aM H0 Hk:=fun b x o e=>b x o (aF e nf0) (s0 x o e)
  have T0:=Tr.start hf
  refine⟨_,rfl,_,rfl,f,_,dx,[],rfl,hf,T.aU.c,T.aU.na.1,by show 0 <1000;decide,?_⟩
  have T1:=T0.put (L1:=[]) (L2:=[]) (o':=.ins t.cB dx (aJ "net" (.ref n) []))
  generalize upd H f (.ins t.cB dx (aJ "net" (.ref n) []))=H1 at T1 ⊢
  refine fun E nE=>?_
  have T2:=T1.new (o:=.dK []) nE
  generalize upd H1 E (.dK [])=H2 at T2 ⊢
  refine⟨_,rfl,f,_,dx,_,rfl,T2.all (f,_) (.head _),T.aU.c,T.aU.na.2.1,Nat.lt_of_le_of_lt (ie (Nat.zero_le 0)) (by decide),?_⟩
  have T3:=T2.put (L1:=[]) (o':=.ins t.cB dx (aJ "ever" (.ref E) (aJ "net" (.ref n) [])))
  generalize upd H2 f (.ins t.cB dx (aJ "ever" (.ref E) (aJ "net" (.ref n) [])))=H3 at T3 ⊢
  refine fun G nG=>?_
  have T4:=T3.new (o:=.dK []) nG
  generalize upd H3 G (.dK [])=H4 at T4 ⊢
  refine⟨_,rfl,f,_,dx,_,rfl,T4.all (f,_) (.head _),T.aU.c,T.aU.na.2.2.1,Nat.lt_of_le_of_lt (ie (ie (Nat.zero_le 0))) (by decide),?_⟩
  have T5:=T4.put (L1:=[]) (o':=.ins t.cB dx (aJ "gone" (.ref G) (aJ "ever" (.ref E) (aJ "net" (.ref n) []))))
  generalize upd H4 f (.ins t.cB dx (aJ "gone" (.ref G) (aJ "ever" (.ref E) (aJ "net" (.ref n) []))))=H5 at T5 ⊢
  have W5:=W.same (sk T5.but)
  refine⟨_,rfl,n,dxn,fsn,rfl,W5.obj,W5.fl.no _ (by decide +kernel),n,ls,ps,rfl,W5.s,fun l nl=>?_⟩
  have T6:Tr H f ((f,.ins t.cB dx (aJ "gone" (.ref G) (aJ "ever" (.ref E) (aJ "net" (.ref n) [])))):: (E,.dK (bz [])):: (G,.dK (dC (fun _=>0) [])):: (l,.lst (ls.map fun x:aG=>V.str x.name)):: fX []) (upd H5 l (.lst (ls.map fun x:aG=>V.str x.name))):=T5.new nl
  generalize upd H5 l (.lst (ls.map fun x:aG=>V.str x.name))=H6 at T6 ⊢
  clear T0 T1 T2 T3 T4 T5 W5
  refine⟨l,rfl,⟨_,bI.of (T6.all (l,.lst (ls.map fun x:aG=>V.str x.name)) (by simp))⟩,cU (K:=K) (a:=l) (xs:=ls.map fun x:aG=>V.str x.name) (fun j σ H'=>(∃v3,σ=[some (.ref f),some (.ref n),some (.ref rw),v3,none,none])/\∃EL:List (aG×Addr),EL.map (·.1)=ls.take j/\Tr H f ((f,.ins t.cB dx (aJ "gone" (.ref G) (aJ "ever" (.ref E) (aJ "net" (.ref n) [])))):: (E,.dK (bz EL)):: (G,.dK (dC (fun _=>0) (ls.take j))):: (l,.lst (ls.map fun x:aG=>V.str x.name)):: fX EL) H') ⟨⟨none,rfl⟩,[],rfl,T6⟩ (fun j σ H' _ ⟨_,_,_,T'⟩=>bI.of (T'.all (l,.lst (ls.map fun x:aG=>V.str x.name)) (by simp))) ?_ ?_⟩
  ·rintro j x σ H' hx ⟨⟨v3,rfl⟩,EL,eEL,T7⟩
   rw [List.getElem?_map] at hx
   obtain⟨ln,hlj,rfl⟩:=Option.map_eq_some_iff.mp hx
   have hm:=List.mem_of_getElem? hlj
   have hj:=(List.getElem?_eq_some_iff.mp hlj).1
   have nin:=mq W.fit.whole.nod hlj
   have vE:cg (bz EL) (Sum.inr ln.name)=none:=fL (by rw [nH,eEL];intro z;obtain⟨b,hb,e⟩:=List.mem_map.mp z;cases e;exact nin hb)
   have vG:cg (dC (fun _=>0) (ls.take j)) (Sum.inr ln.name)=none:=fL (by rw [Ds];intro z;obtain⟨b,hb,e⟩:=List.mem_map.mp z;cases e;exact nin hb)
   have tk:ls.take (j+1)=ls.take j ++ [ln]:=by rw [List.take_succ,hlj];rfl
   have lEL:EL.length<=24:=by have:=congrArg List.length eEL;rw [lM,List.length_take] at this;omega
   have W7:=W.same (sk T7.but)
   refine⟨_,rfl,n,dxn,fsn,rfl,W7.obj,W7.fl.no _ (by decide +kernel),_,rfl,n,ls,ps,ln.name,rfl,W7.s,.inl ⟨ln,hm,rfl,fun H8 le s8 nle ele=>?_⟩⟩
   have T8:Tr H f ((f,.ins t.cB dx (aJ "gone" (.ref G) (aJ "ever" (.ref E) (aJ "net" (.ref n) [])))):: (E,.dK (bz EL)):: (G,.dK (dC (fun _=>0) (ls.take j))):: (l,.lst (ls.map fun x:aG=>V.str x.name)):: fX (EL ++ [(ln,le)])) H8:=by
    unfold fX
    rw [List.map_append]
    exact T7.got s8 nle ele
   refine⟨_,rfl,f,_,dx,_,_,rfl,T8.all (f,_) (.head _),T.aU.c,T.aU.na.2.1,(by (repeat first | (rw [aC,if_pos rfl];done) | rw [aC,if_neg (by decide +kernel)])),_,rfl,E,_,rfl,j7.k (k:=Sum.inr ln.name) (T8.all (E,.dK (bz EL)) (by simp)) (by unfold bz;rw [lM];omega),?_⟩
   have e8:putK (bz EL) (Sum.inr ln.name) (.ref le)=bz (EL ++ [(ln,le)]):=by rw [gQ _ vE];unfold bz;rw [List.map_append];rfl
   rw [e8]
   have T9:=T8.put (L1:=[_]) (o':=.dK (bz (EL ++ [(ln,le)])))
   generalize upd H8 E (.dK (bz (EL ++ [(ln,le)])))=H9 at T9 ⊢
   refine⟨_,rfl,f,_,dx,_,_,rfl,T9.all (f,_) (.head _),T.aU.c,T.aU.na.2.2.1,(by (repeat first | (rw [aC,if_pos rfl];done) | rw [aC,if_neg (by decide +kernel)])),_,rfl,G,_,rfl,j7.k (k:=Sum.inr ln.name) (T9.all (G,.dK (dC (fun _=>0) (ls.take j))) (by simp)) (by unfold dC;rw [lM,List.length_take];omega),?_⟩
   have e9:putK (dC (fun _=>0) (ls.take j)) (Sum.inr ln.name) (.int 0)=dC (fun _=>0) (ls.take (j+1)):=by rw [gQ _ vG,tk];unfold dC;rw [List.map_append];rfl
   rw [e9]
   have TA:=T9.put (L1:=[_,_]) (o':=.dK (dC (fun _=>0) (ls.take (j+1))))
   exact⟨⟨_,rfl⟩,EL ++ [(ln,le)],by rw [List.map_append,eEL,tk];rfl,TA⟩
  rintro σ H7 ⟨⟨v3,rfl⟩,EL,eEL,T7⟩
  rw [lM,List.take_length] at eEL T7
  have T7:Tr H f ((f,.ins t.cB dx (aJ "gone" (.ref G) (aJ "ever" (.ref E) (aJ "net" (.ref n) [])))):: (E,.dK (bz EL)):: (G,.dK (dC (fun _=>0) ls)):: fX EL) H7:=T7.sub (.cons₂ _ (.cons₂ _ (.cons₂ _ (.cons _ (List.Sublist.refl _))))) ⟨_,.head _⟩
  clear T6
  refine fun Kp nKp=>?_
  have T8:Tr H f ((f,.ins t.cB dx (aJ "gone" (.ref G) (aJ "ever" (.ref E) (aJ "net" (.ref n) [])))):: (E,.dK (bz EL)):: (G,.dK (dC (fun _=>0) ls)):: (Kp,.dK []):: fX EL) (upd H7 Kp (.dK [])):=(T7.new nKp).perm (.cons _ (.cons _ (.cons _ (List.perm_append_singleton _ _))))
  generalize upd H7 Kp (.dK [])=H8 at T8 ⊢
  refine⟨_,rfl,f,_,dx,_,rfl,T8.all (f,_) (.head _),T.aU.c,T.aU.na.2.2.2.1,Nat.lt_of_le_of_lt (ie (ie (ie (Nat.zero_le 0)))) (by decide),?_⟩
  have T9:=T8.put (L1:=[]) (o':=.ins t.cB dx (aJ "kept" (.ref Kp) (aJ "gone" (.ref G) (aJ "ever" (.ref E) (aJ "net" (.ref n) [])))))
  generalize upd H8 f (.ins t.cB dx (aJ "kept" (.ref Kp) (aJ "gone" (.ref G) (aJ "ever" (.ref E) (aJ "net" (.ref n) [])))))=H9 at T9 ⊢
  refine fun D nD=>?_
  have TA:Tr H f ((f,.ins t.cB dx (aJ "kept" (.ref Kp) (aJ "gone" (.ref G) (aJ "ever" (.ref E) (aJ "net" (.ref n) []))))):: (E,.dK (bz EL)):: (G,.dK (dC (fun _=>0) ls)):: (Kp,.dK []):: (D,.dK []):: fX EL) (upd H9 D (.dK [])):=(T9.new nD).perm (.cons _ (.cons _ (.cons _ (.cons _ (List.perm_append_singleton _ _)))))
  generalize upd H9 D (.dK [])=HA at TA ⊢
  refine⟨_,rfl,f,_,dx,_,rfl,TA.all (f,_) (.head _),T.aU.c,T.aU.na.2.2.2.2.1,Nat.lt_of_le_of_lt (ie (ie (ie (ie (Nat.zero_le 0))))) (by decide),?_⟩
  have TB:=TA.put (L1:=[]) (o':=.ins t.cB dx (aJ "done" (.ref D) (aJ "kept" (.ref Kp) (aJ "gone" (.ref G) (aJ "ever" (.ref E) (aJ "net" (.ref n) []))))))
  generalize upd HA f (.ins t.cB dx (aJ "done" (.ref D) (aJ "kept" (.ref Kp) (aJ "gone" (.ref G) (aJ "ever" (.ref E) (aJ "net" (.ref n) []))))))=HB at TB ⊢
  have WB:=W.same (sk TB.but)
  refine⟨_,rfl,n,dxn,fsn,rfl,WB.obj,WB.fl.no _ (by decide +kernel),n,ls,ps,rfl,WB.s,fun m nm=>?_⟩
  have TC:Tr H f ((f,.ins t.cB dx (aJ "done" (.ref D) (aJ "kept" (.ref Kp) (aJ "gone" (.ref G) (aJ "ever" (.ref E) (aJ "net" (.ref n) [])))))):: (E,.dK (bz EL)):: (G,.dK (dC (fun _=>0) ls)):: (Kp,.dK (bG (fC ps) [])):: (D,.dK (bG (fun _=>0) [])):: (m,.lst (ps.map fun x:PD=>V.str x.name)):: fX EL) (upd HB m (.lst (ps.map fun x:PD=>V.str x.name))):=(TB.new nm).perm (.cons _ (.cons _ (.cons _ (.cons _ (.cons _ (List.perm_append_singleton _ _))))))
  generalize upd HB m (.lst (ps.map fun x:PD=>V.str x.name))=HC at TC ⊢
  clear T7 T8 T9 TA TB WB
  refine⟨m,rfl,⟨_,bI.of (TC.all (m,.lst (ps.map fun x:PD=>V.str x.name)) (by simp))⟩,cU (K:=K) (a:=m) (xs:=ps.map fun x:PD=>V.str x.name) (fun j σ H'=>(∃v4,σ=[some (.ref f),some (.ref n),some (.ref rw),v3,v4,none])/\Tr H f ((f,.ins t.cB dx (aJ "done" (.ref D) (aJ "kept" (.ref Kp) (aJ "gone" (.ref G) (aJ "ever" (.ref E) (aJ "net" (.ref n) [])))))):: (E,.dK (bz EL)):: (G,.dK (dC (fun _=>0) ls)):: (Kp,.dK (bG (fC ps) (ps.take j))):: (D,.dK (bG (fun _=>0) (ps.take j))):: (m,.lst (ps.map fun x:PD=>V.str x.name)):: fX EL) H') ⟨⟨none,rfl⟩,TC⟩ (fun j σ H' _ ⟨_,T'⟩=>bI.of (T'.all (m,.lst (ps.map fun x:PD=>V.str x.name)) (by simp))) ?_ ?_⟩
  ·rintro j x σ H' hx ⟨⟨v4,rfl⟩,T7⟩
   rw [List.getElem?_map] at hx
   obtain⟨p,hpj,rfl⟩:=Option.map_eq_some_iff.mp hx
   have hm:=List.mem_of_getElem? hpj
   have hj:=(List.getElem?_eq_some_iff.mp hpj).1
   have nin:=mq W.fit.pnd hpj
   have vK:∀k0:Str->Int,cg (bG k0 (ps.take j)) (Sum.inr p.name)=none:=fun k0=>fL (by rw [xg];intro z;obtain⟨b,hb,e⟩:=List.mem_map.mp z;cases e;exact nin hb)
   have tk:ps.take (j+1)=ps.take j ++ [p]:=by rw [List.take_succ,hpj];rfl
   have so:fC ps p.name=Hw p:=by unfold fC Hw;rw [find_name W.fit.pnd hm];rfl
   have W7:=W.same (sk T7.but)
   refine⟨_,rfl,n,dxn,fsn,rfl,W7.obj,W7.fl.no _ (by decide +kernel),_,rfl,n,ls,ps,p.name,rfl,W7.s,.inl ⟨p,hm,rfl,fun H8 q s8 P8=>?_⟩⟩
   have T8:=T7.same s8
   obtain⟨dxp,tn,ti,to,p1,p2,p3,p4⟩:=id P8.ex
   refine⟨q,cls t p.kind,dxp,_,uh K t p.kind,rfl,p1,vH _ _ _ _ (by decide +kernel) (by decide +kernel) (by decide +kernel) (by decide +kernel),Rj T p.kind,q,_,_,_,_,rfl,P8,by rw [lM];exact(W.fit.pok p hm).2.1,?_⟩
   rw [Oh p (W.fit.pok p hm),<-so]
   refine⟨_,rfl,f,_,dx,_,_,rfl,T8.all (f,_) (.head _),T.aU.c,T.aU.na.2.2.2.1,(by (repeat first | (rw [aC,if_pos rfl];done) | rw [aC,if_neg (by decide +kernel)])),_,rfl,Kp,_,rfl,j7.k (k:=Sum.inr p.name) (T8.all (Kp,.dK (bG (fC ps) (ps.take j))) (by simp)) (by unfold bG;rw [lM,List.length_take];omega),?_⟩
   have e8:∀k0:Str->Int,putK (bG k0 (ps.take j)) (Sum.inr p.name) (.int (k0 p.name))=bG k0 (ps.take (j+1)):=fun k0=>by rw [gQ _ (vK k0),tk];unfold bG;rw [List.map_append];rfl
   rw [e8]
   have T9:=T8.put (L1:=[_,_,_]) (o':=.dK (bG (fC ps) (ps.take (j+1))))
   generalize upd H8 Kp (.dK (bG (fC ps) (ps.take (j+1))))=H9 at T9 ⊢
   refine⟨_,rfl,f,_,dx,_,_,rfl,T9.all (f,_) (.head _),T.aU.c,T.aU.na.2.2.2.2.1,(by (repeat first | (rw [aC,if_pos rfl];done) | rw [aC,if_neg (by decide +kernel)])),_,rfl,D,_,rfl,j7.k (k:=Sum.inr p.name) (T9.all (D,.dK (bG (fun _=>0) (ps.take j))) (by simp)) (by unfold bG;rw [lM,List.length_take];omega),?_⟩
   rw [e8 fun _=>0]
   exact⟨⟨_,rfl⟩,T9.put (L1:=[_,_,_,_])⟩
  rintro σ HD ⟨⟨v4,rfl⟩,TD⟩
  rw [lM,List.take_length] at TD
  have TD:Tr H f ((f,.ins t.cB dx (aJ "done" (.ref D) (aJ "kept" (.ref Kp) (aJ "gone" (.ref G) (aJ "ever" (.ref E) (aJ "net" (.ref n) [])))))):: (E,.dK (bz EL)):: (G,.dK (dC (fun _=>0) ls)):: (Kp,.dK (bG (fC ps) ps)):: (D,.dK (bG (fun _=>0) ps)):: fX EL) HD:=TD.sub (.cons₂ _ (.cons₂ _ (.cons₂ _ (.cons₂ _ (.cons₂ _ (.cons _ (List.Sublist.refl _))))))) ⟨_,.head _⟩
  clear TC
  refine fun Rw nRw=>?_
  have TE:Tr H f ((f,.ins t.cB dx (aJ "done" (.ref D) (aJ "kept" (.ref Kp) (aJ "gone" (.ref G) (aJ "ever" (.ref E) (aJ "net" (.ref n) [])))))):: (E,.dK (bz EL)):: (G,.dK (dC (fun _=>0) ls)):: (Kp,.dK (bG (fC ps) ps)):: (D,.dK (bG (fun _=>0) ps)):: (Rw,.dK []):: fX EL) (upd HD Rw (.dK [])):=(TD.new nRw).perm (.cons _ (.cons _ (.cons _ (.cons _ (.cons _ (List.perm_append_singleton _ _))))))
  generalize upd HD Rw (.dK [])=HE at TE ⊢
  refine⟨_,rfl,f,_,dx,_,rfl,TE.all (f,_) (.head _),T.aU.c,T.aU.na.2.2.2.2.2.1,Nat.lt_of_le_of_lt (ie (ie (ie (ie (ie (Nat.zero_le 0)))))) (by decide),?_⟩
  have TF:=TE.put (L1:=[]) (o':=.ins t.cB dx (aJ "rows" (.ref Rw) (aJ "done" (.ref D) (aJ "kept" (.ref Kp) (aJ "gone" (.ref G) (aJ "ever" (.ref E) (aJ "net" (.ref n) [])))))))
  generalize upd HE f (.ins t.cB dx (aJ "rows" (.ref Rw) (aJ "done" (.ref D) (aJ "kept" (.ref Kp) (aJ "gone" (.ref G) (aJ "ever" (.ref E) (aJ "net" (.ref n) [])))))))=HF at TF ⊢
  have WF:=W.same (sk TF.but)
  refine⟨_,rfl,n,dxn,fsn,rfl,WF.obj,WF.fl.no _ (by decide +kernel),n,ls,ps,rfl,WF.s,fun d nd=>?_⟩
  have TG:Tr H f ((f,.ins t.cB dx (aJ "rows" (.ref Rw) (aJ "done" (.ref D) (aJ "kept" (.ref Kp) (aJ "gone" (.ref G) (aJ "ever" (.ref E) (aJ "net" (.ref n) []))))))):: (E,.dK (bz EL)):: (G,.dK (dC (fun _=>0) ls)):: (Kp,.dK (bG (fC ps) ps)):: (D,.dK (bG (fun _=>0) ps)):: (Rw,.dK []):: (d,.lst (dF ps "give")):: fX EL) (upd HF d (.lst (dF ps "give"))):=(TF.new nd).perm (.cons _ (.cons _ (.cons _ (.cons _ (.cons _ (.cons _ (List.perm_append_singleton _ _)))))))
  generalize upd HF d (.lst (dF ps "give"))=HG at TG ⊢
  clear TD TE TF WF
  have lgv:=rD ps "give"
  have ndg:((ps.filter fun p=>decide (cL p.kind= "give")).map (·.name)).Nodup:=W.fit.pnd.sublist ((List.filter_sublist).map _)
  rw [QG W.fit.pok] at ndg
  have ePg:dF ps "give" =(qJ ps).map fun p=>V.str p.name:=by unfold dF;rw [QG W.fit.pok]
  rw [ePg] at TG
  have lgP:(qJ ps).length<=16:=by have:=List.length_filter_le (fun p:PD=>decide (p.kind=0)) ps;unfold qJ;omega
  have TG:Tr H f ((f,.ins t.cB dx (aJ "rows" (.ref Rw) (aJ "done" (.ref D) (aJ "kept" (.ref Kp) (aJ "gone" (.ref G) (aJ "ever" (.ref E) (aJ "net" (.ref n) []))))))):: (E,.dK (bz EL)):: (G,.dK (dC (fun _=>0) ls)):: (Kp,.dK (bG (fC ps) ps)):: (D,.dK (bG (fun _=>0) ps)):: (Rw,.dK []):: (d,.lst ((qJ ps).map fun p=>V.str p.name)):: (fX EL ++ JR RW [])) HG:=by
   unfold JR
   rw [List.map_nil,List.append_nil]
   exact TG
  refine⟨d,rfl,⟨_,bI.of (TG.all (d,.lst ((qJ ps).map fun p=>V.str p.name)) (by simp))⟩,cU (K:=K) (a:=d) (xs:=(qJ ps).map fun p=>V.str p.name) (fun j σ H'=>(∃v5,σ=[some (.ref f),some (.ref n),some (.ref rw),v3,v4,v5])/\∃RL:List (PD×Addr),RL.map (·.1)=(qJ ps).take j/\Tr H f ((f,.ins t.cB dx (aJ "rows" (.ref Rw) (aJ "done" (.ref D) (aJ "kept" (.ref Kp) (aJ "gone" (.ref G) (aJ "ever" (.ref E) (aJ "net" (.ref n) []))))))):: (E,.dK (bz EL)):: (G,.dK (dC (fun _=>0) ls)):: (Kp,.dK (bG (fC ps) ps)):: (D,.dK (bG (fun _=>0) ps)):: (Rw,.dK (RL.map fun q=>((Sum.inr q.1.name:Key),V.ref q.2))):: (d,.lst ((qJ ps).map fun p=>V.str p.name)):: (fX EL ++ JR RW RL)) H') ⟨⟨none,rfl⟩,[],rfl,TG⟩ (fun j σ H' _ ⟨_,_,_,T7⟩=>bI.of (T7.all (d,.lst ((qJ ps).map fun p=>V.str p.name)) (by simp))) ?_ ?_⟩
  ·rintro j x σ H' hx ⟨⟨v5,rfl⟩,RL,eRL,T7⟩
   rw [List.getElem?_map] at hx
   obtain⟨p,hpj,rfl⟩:=Option.map_eq_some_iff.mp hx
   have nin:=mq ndg hpj
   have tk:(qJ ps).take (j+1)=(qJ ps).take j ++ [p]:=by rw [List.take_succ,hpj];rfl
   have vR:cg (RL.map fun q=>((Sum.inr q.1.name:Key),V.ref q.2)) (Sum.inr p.name)=none:=fL (by
    rw [List.map_map]
    intro z
    obtain⟨q,hq,e⟩:=List.mem_map.mp z
    have hm:q.1∈RL.map (·.1):=List.mem_map.mpr ⟨q,hq,rfl⟩
    rw [eRL] at hm
    exact nin (List.mem_map.mpr ⟨q.1,hm,by injection e⟩))
   have lRL:RL.length<=16:=by
    have:=congrArg List.length eRL
    rw [lM,List.length_take] at this
    omega
   have rw7:=hrw.same (sk T7.but)
   refine⟨_,rfl,rw,rfl,.inl ⟨_,.inl rw7.dict⟩,_,rfl,jl,fun u nu=>?_⟩
   have tu:=aB (o:=.lst []) nu
   have xu:upd H' u (.lst []) u=some (.lst []):=az
   generalize upd H' u (.lst [])=H8 at tu xu ⊢
   have rw8:=rw7.same tu
   refine⟨_,d7.k (k:=Sum.inr p.name) rw8.dict,?_⟩
   obtain⟨y,ey,hy⟩:∃y:Addr,(cg (jP RW) (Sum.inr p.name)).getD (V.ref u)=.ref y/\H8 y=some (.lst ((rE RW p.name).map V.int)):=by
    rcases rw8.get p.name with ⟨e1,e2⟩ | ⟨a,e1,e2,_⟩
    ·rw [e1,e2]
     exact⟨u,rfl,xu⟩
    ·rw [e1]
     exact⟨a,rfl,e2⟩
   refine⟨y,(rE RW p.name).map V.int,by rw [ey],.inl (bI.of hy),fun r nr=>?_⟩
   have T9:Tr H f ((f,.ins t.cB dx (aJ "rows" (.ref Rw) (aJ "done" (.ref D) (aJ "kept" (.ref Kp) (aJ "gone" (.ref G) (aJ "ever" (.ref E) (aJ "net" (.ref n) []))))))):: (E,.dK (bz EL)):: (G,.dK (dC (fun _=>0) ls)):: (Kp,.dK (bG (fC ps) ps)):: (D,.dK (bG (fun _=>0) ps)):: (Rw,.dK (RL.map fun q=>((Sum.inr q.1.name:Key),V.ref q.2))):: (d,.lst ((qJ ps).map fun p=>V.str p.name)):: (fX EL ++ JR RW (RL ++ [(p,r)]))) (upd H8 r (.lst ((rE RW p.name).map V.int))):=by
    unfold JR
    rw [List.map_append,<-List.append_assoc]
    exact(T7.same tu).new nr
   generalize upd H8 r (.lst ((rE RW p.name).map V.int))=H9 at T9 ⊢
   refine⟨_,rfl,f,_,dx,_,_,rfl,T9.all (f,_) (.head _),T.aU.c,T.aU.na.2.2.2.2.2.1,(by (repeat first | (rw [aC,if_pos rfl];done) | rw [aC,if_neg (by decide +kernel)])),_,rfl,Rw,_,rfl,j7.k (k:=Sum.inr p.name) (T9.all (Rw,.dK (RL.map fun q=>((Sum.inr q.1.name:Key),V.ref q.2))) (by simp)) (by rw [lM];omega),?_⟩
   rw [gQ _ vR]
   refine⟨⟨_,rfl⟩,RL ++ [(p,r)],by rw [List.map_append,eRL,tk];rfl,?_⟩
   rw [List.map_append]
   exact T9.put (L1:=[_,_,_,_,_])
  rintro σ HH ⟨⟨v5,rfl⟩,RL,eRL,TH⟩
  rw [lM,List.take_length] at eRL
  have eo:=TH.all (f,.ins t.cB dx (aJ "rows" (.ref Rw) (aJ "done" (.ref D) (aJ "kept" (.ref Kp) (aJ "gone" (.ref G) (aJ "ever" (.ref E) (aJ "net" (.ref n) []))))))) (.head _)
  have nod:=TH.nod
  have fre:=TH.fre
  have nE:(EL.map fun q=>q.1.name).Nodup:=by
   have:(EL.map (·.1)).map (·.name)=EL.map fun q=>q.1.name:=by rw [List.map_map];rfl
   rw [<-this,eEL]
   exact W.fit.whole.nod
  have nR:(RL.map fun q=>q.1.name).Nodup:=by
   have:(RL.map (·.1)).map (·.name)=RL.map fun q=>q.1.name:=by rw [List.map_map];rfl
   rw [<-this,eRL]
   exact ndg
  let A:pN:=⟨f,n,E,G,Kp,D,Rw,gY (·.name) EL,gY (·.name) RL⟩
  have mE:ls.map (fun l=>A.ea l.name)=EL.map (·.2):=by rw [<-eEL];exact vz nE
  have mR:(qJ ps).map (fun p=>A.ra p.name)=RL.map (·.2):=by rw [<-eRL];exact vz nR
  have eC:A.cells ls ps=E:: G:: Kp:: D:: Rw:: (EL.map (·.2) ++ RL.map (·.2)):=by unfold pN.cells;rw [mE,mR]
  have e2:(fX EL ++ JR RW RL).map Prod.fst=EL.map (·.2) ++ RL.map (·.2):=by unfold fX JR;rw [List.map_append,List.map_map,List.map_map];rfl
  refine k HH A rfl rfl TH.but ⟨⟨dx,_,eo,⟨?_,?_⟩⟩,?_,fun l hl=>?_,TH.all (G,.dK (dC (fun _=>0) ls)) (by simp),TH.all (Kp,.dK (bG (fC ps) ps)) (by simp),TH.all (D,.dK (bG (fun _=>0) ps)) (by simp),?_,fun p hp h0=>?_,?_⟩ ?_
  ·intro q hq
   simp only [List.mem_cons,List.not_mem_nil,or_false] at hq
   rcases hq with rfl | rfl | rfl | rfl | rfl | rfl <;> (dsimp only;(repeat first | (rw [aC,if_pos rfl];done) | rw [aC,if_neg (by decide +kernel)]))
  ·intro m hm
   have hne:∀m∈(["holds", "held_now", "gone_by", "row_left", "head", "heads", "lacking", "row_ended", "deed", "do"]:List Str),∀g∈(["rows", "done", "kept", "gone", "ever", "net"]:List Str),¬m=g:=by decide +kernel
   have h:=hne m hm
   rw [aC,if_neg (h _ (by simp)),aC,if_neg (h _ (by simp)),aC,if_neg (h _ (by simp)),aC,if_neg (h _ (by simp)),aC,if_neg (h _ (by simp)),aC,if_neg (h _ (by simp))]
   rfl
  ·have:Kw A.ea ls=bz EL:=by
    unfold Kw bz
    rw [<-eEL,List.map_map]
    refine List.map_congr_left fun q hq=>?_
    show((Sum.inr q.1.name:Key),V.ref (A.ea q.1.name))=_
    rw [show A.ea q.1.name=q.2 from jY nE hq]
   rw [this]
   exact TH.all (E,.dK (bz EL)) (by simp)
  ·rw [<-eEL] at hl
   obtain⟨q,hq,rfl⟩:=List.mem_map.mp hl
   rw [show A.ea q.1.name=q.2 from jY nE hq]
   have hm:q.1∈ls:=by rw [<-eEL];exact List.mem_map.mpr ⟨q,hq,rfl⟩
   show HH q.2=some (.lst ((JS ls q.1.name).map V.int))
   rw [ud W.fit.whole.nod hm]
   exact TH.all (q.2,.lst (q.1.first.map V.int)) (GC (List.mem_append.mpr (.inl (List.mem_map.mpr ⟨q,hq,rfl⟩))))
  ·have:Ml A.ra ps=RL.map fun q=>((Sum.inr q.1.name:Key),V.ref q.2):=by
    unfold Ml
    rw [<-eRL,List.map_map]
    refine List.map_congr_left fun q hq=>?_
    show((Sum.inr q.1.name:Key),V.ref (A.ra q.1.name))=_
    rw [show A.ra q.1.name=q.2 from jY nR hq]
   rw [this]
   exact TH.all (Rw,.dK (RL.map fun q=>((Sum.inr q.1.name:Key),V.ref q.2))) (by simp)
  ·have hm:p∈RL.map (·.1):=by rw [eRL];exact List.mem_filter.mpr ⟨hp,by simp [h0]⟩
   obtain⟨q,hq,rfl⟩:=List.mem_map.mp hm
   rw [show A.ra q.1.name=q.2 from jY nR hq]
   exact TH.all (q.2,.lst ((rE RW q.1.name).map V.int)) (GC (List.mem_append.mpr (.inr (List.mem_map.mpr ⟨q,hq,rfl⟩))))
  ·rw [eC,<-e2]
   exact nod.sublist (List.Sublist.cons _ (.cons₂ _ (.cons₂ _ (.cons₂ _ (.cons₂ _ (.cons₂ _ (.cons _ (List.Sublist.refl _))))))))
  ·intro a ha
   rw [eC,<-e2] at ha
   have h2:a∈(((E,.dK (bz EL)):: (G,.dK (dC (fun _=>0) ls)):: (Kp,.dK (bG (fC ps) ps)):: (D,.dK (bG (fun _=>0) ps)):: (Rw,.dK (RL.map fun q=>((Sum.inr q.1.name:Key),V.ref q.2))):: (d,.lst ((qJ ps).map fun p=>V.str p.name)):: (fX EL ++ JR RW RL):List (Addr×HO))).map Prod.fst:=
    (List.Sublist.cons₂ E (.cons₂ G (.cons₂ Kp (.cons₂ D (.cons₂ Rw (.cons d (List.Sublist.refl _))))))).subset ha
   have hne:a≠f:=fun z=>by
    rw [List.map_cons,List.nodup_cons] at nod
    exact nod.1 (by rw [<-z];exact h2)
   obtain⟨q,hq,hqa⟩:=List.mem_map.mp h2
   have:=fre q (List.mem_cons_of_mem _ hq)
   rw [hqa] at this
   exact this.resolve_left hne
theorem Oa {α:Type} {p:α->Bool} {xs:List α} {j:Nat} {x:α} (h:(xs.take j).find? p=none) (hx:xs[j]?=some x):if p x=true then xs.find? p=some x else(xs.take (j+1)).find? p=none:=by
 split
 ·rename_i e
  have hj:=(List.getElem?_eq_some_iff.mp hx)
  have e2:xs=xs.take j ++ x:: xs.drop (j+1):=by
   rw [<-hj.2,<-List.drop_eq_getElem_cons hj.1,List.take_append_drop]
  rw [e2,List.find?_append,h,List.find?_cons_of_pos e]
  rfl
 ·rename_i e
  rw [List.take_succ,hx,Option.toList_some,List.find?_append,h,List.find?_cons_of_neg e]
  rfl
noncomputable def roomF (ls:List aG) (x:Str):Int:=((ls.find? fun l=>decide (l.name=x)).map (·.room)).getD 0
theorem Jp {ls:List aG} (nd:(ls.map (·.name)).Nodup) {l:aG} (hl:l∈ls):roomF ls l.name=l.room:=by
 unfold roomF
 rw [find_name nd hl]
 rfl
noncomputable def zf (ls:List aG) (S:FS) (q:Str×Int):Bool:=decide (roomF ls q.1<=((S.ev q.1).length:Int) - (S.g q.1:Int))
noncomputable def Al (ls:List aG) (S:FS) (dd:gK):V:=match dd.gv.find? (zf ls S) with
 | some q=>.str q.1
 | none=>.non
inductive qY (K:PySem.W.Frag) (t:jN) (vs:List V) (H:Hp) (Q:VK) (E:XK):Prop where
 | mk:∀(r:Addr) (n:Nat) (A:pN) (ls:List aG) (ps:List PD) (S:FS) (M:List Addr) (U:Addr) (dd:gK),vs=[.ref r,.ref U]->pP t H r A.n A.f n->iK K t H A.n ls ps->eN K t H A ls ps S->m9 M H U dd->((∀q∈dd.gv,q.1∈ls.map (·.name)))->(∀H',aM H H'->Q (Al ls S dd) H')->qY K t vs H Q E
theorem zM (T:Txt w K mg t):FO P w K mg base 4 t.mO ["self", "deed"] (qY K t):=by
 have sc:=T.mU.sc ["self", "deed", "lane", "value"]
 refine T.mU.F.ok sc ln (fun _ _ _ _ H vs Q E hr h=>?_)
 obtain⟨r,n,A,ls,ps,S,M,U,dd,rfl,hR,N,W,⟨La,Lg,rs,hU,_,hLg,hT,_,_⟩,hout,k⟩:=h
 refine⟨_,(au (dD PassesOwn.never rfl (b8 (aR cC (pv 1) aq (fun _ _=>rfl))) (jT rfl (bD (gN sc 2) (bD (gN sc 3) fQ)))
   (aA (bR (aW YJ (wQ (bh (pv 0) rfl) T.aU T.aU.me.2.1 (wD T) T.oK hr (aa (pv 2) ak aj)) (wQ (bh (pv 0) rfl) T.bu T.bu.me.2.2.2.2.2.2.2.1 (Dr T) T.qU hr (aa (pv 2) ak aj)) (bC _))
    (aA (aN (pv 2)))
    aZ)))
  (aA (aN qx))),?_⟩
 have hl:sizeLine=16777216:=sizeLine_eq
 have hlr:rs.length=dd.gv.length:=by have:=Paired.length hT;rw [lM] at this;exact this
 refine⟨_,rfl,U,_,1,_,rfl,rfl,eQ.of hU,aK (j:=1) rfl,Lg,rfl,⟨_,bI.of hLg⟩,cU (K:=K) (a:=Lg) (xs:=rs.map V.ref) (fun j σ H'=>aM H H'/\(∃v2 v3,σ=[some (.ref r),some (.ref U),v2,v3])/\(dd.gv.take j).find? (zf ls S)=none) ⟨aM.refl _,⟨_,_,rfl⟩,rfl⟩ (fun j σ H' _ h=>bI.of (h.1 _ _ hLg)) ?_ ?_⟩
 ·rintro j x σ H1 hx ⟨s1,⟨v2,v3,rfl⟩,hf⟩
  rw [List.getElem?_map] at hx
  obtain⟨u,hu,rfl⟩:=Option.map_eq_some_iff.mp hx
  obtain⟨vs2,z1,z2⟩:=uv hT hu
  rw [List.getElem?_map] at z1
  obtain⟨w,ew,rfl⟩:=Option.map_eq_some_iff.mp z1
  have ft:=Oa hf ew
  obtain⟨dxn,fsn,R,F0,Pd,Gn,Tk,FL,PL,Wn⟩:=N.same s1
  have F:=Wn.fit
  obtain⟨dxr,fsr,R1⟩:=hR.same s1
  have W1:=W.same s1
  obtain⟨dx,fs,h1,h2⟩:=id W1.at'.ex
  obtain⟨l,hl',hln⟩:=List.mem_map.mp (hout w (List.mem_of_getElem? ew))
  have va:=jA (ea:=A.ea) F.whole.nod hl'
  have vg:=oN (g:=S.g) F.whole.nod hl'
  have fb:zf ls S w=decide (l.room<=((S.ev l.name).length:Int) - (S.g l.name:Int)):=by unfold zf;rw [<-hln,Jp F.whole.nod hl']
  rw [hln] at va vg
  refine⟨u,_,rfl,eQ.of (s1 _ _ z2),rfl,_,_,rfl,_,_,rfl,rfl,?_⟩
  refine⟨_,rfl,r,_,dxr,fsr,_,rfl,R1.1.1,T.bZ.c,T.bZ.na.2.1,R1.2.has ("flow",.ref A.f) (by simp),A.f,dx,fs,rfl,h1,h2.no _ (by decide +kernel),_,rfl,A.f,A.n,A.E,A.G,A.Kp,A.D,A.Rw,A.ea w.1,_,_,w.1,_,S.g w.1,rfl,W1.at',W1.ever,W1.gone,va,vg,bI.of (by rw [<-hln];exact W1.lists l hl'),?_⟩
  refine⟨_,rfl,r,_,dxr,fsr,_,rfl,R1.1.1,T.bZ.c,T.bZ.na.1,R1.2.has ("net",.ref A.n) (by simp),A.n,dxn,fsn,rfl,Wn.obj,Wn.fl.no _ (by decide +kernel),_,rfl,A.n,ls,ps,w.1,rfl,Wn.s,.inl ⟨l,hl',hln,fun H2 s2=>?_⟩⟩
  refine⟨_,_,rfl,rfl,_,rfl,?_⟩
  have e2:decide (l.room<=((((S.ev l.name).map V.int).length:Nat):Int) - ((S.g w.1:Nat):Int))=zf ls S w:=by rw [fb,lM,hln]
  rw [e2]
  cases hb:zf ls S w with
  | true=>
   rw [if_pos hb] at ft
   refine gj ⟨_,rfl,?_⟩
   have k':=k H2 (s1.trans s2)
   unfold Al at k'
   rw [ft] at k'
   exact k'
  | false=>
   rw [if_neg (by simp [hb])] at ft
   exact dz ⟨s1.trans s2,⟨_,_,rfl⟩,ft⟩
 rintro σ H1 ⟨s1,⟨v2,v3,rfl⟩,hf⟩
 rw [lM,hlr,List.take_length] at hf
 have k':=k H1 s1
 unfold Al at k'
 rw [hf] at k'
 exact k'
theorem Sq {H:Hp} {Q:VK} {Ex:XK} {b:Nat} {A:pN} {ls:List aG} {ps:List PD} {S:FS} {p:PD} (N:iK K t H A.n ls ps) (W:eN K t H A ls ps S) (hp:p∈ps) (O:KN b ls ps S) (kn:dY S p=none->∀H',aM H H'->Q .non H')
  (k:∀dd,dY S p=some dd->∀H' U,aM H H'->H U=none->m9 (A.cells ls ps) H' U dd->Q (.ref U) H'):j4 K t [.ref A.f,.str p.name] H Q Ex:=by
 unfold j4
 exact⟨b,A,ls,ps,S,p,rfl,N,W,hp,O,kn,k⟩
noncomputable def jm (ls:List aG) (S:FS) (p:PD):Option gK:=match dY S p with
 | none=>none
 | some dd=>if Al ls S dd=.non then some dd else none
theorem iB {S:FS} {p:PD} {dd:gK} (h:dY S p=some dd):fM p.kind p.ins (aQ S p)=.non/\vO S p=false/\dd=⟨(places p.kind (aQ S p)).map (strAt p.ins),(cz p.kind p.nums (pO S p) (S.k p.name)).map fun pv=>(strAt p.outs pv.1.toNat,pv.2),d9 p.kind (pO S p) (S.k p.name)⟩:=by
 unfold dY at h
 split at h
 ·cases h
 ·rename_i h1
  split at h
  ·cases h
  ·rename_i h2
   exact⟨Classical.not_not.mp h1,by simpa using h2,(Option.some.inj h).symm⟩
theorem zX {xs:List Str} {q:Nat} (h:q <xs.length):strAt xs q∈xs:=by unfold strAt;rw [List.getElem?_eq_getElem h];exact List.getElem_mem h
theorem lW {xs:List Str} {q:Nat} (h:q <xs.length):strAt xs q=xs[q]:=by unfold strAt;rw [List.getElem?_eq_getElem h];rfl
theorem Gj {i:Nat} {hs:List V}:(places i hs).Nodup:=by
 unfold places
 split
 ·split
  ·rename_i n _
   have h0:=Int.emod_nonneg n (show(2:Int)≠0 by decide)
   simp
   omega
  ·simp
 ·exact List.nodup_range
theorem SN {xs:List Str} (nd:xs.Nodup) {l:List Nat} (hl:l.Nodup) (h:∀q∈l,q <xs.length):(l.map (strAt xs)).Nodup:=by
 unfold List.Nodup at hl ⊢
 rw [List.pairwise_map]
 refine hl.imp_of_mem fun {a b} ha hb hne e=>hne ?_
 rw [lW (h a ha),lW (h b hb)] at e
 exact(List.getElem_inj nd).mp e
theorem BJ {f:PD->List Str}:∀{ps:List PD},(ps.flatMap f).Nodup->∀{p:PD},p∈ps->(f p).Nodup
 | q:: r,nd,p,hp=>by
  rw [List.flatMap_cons,List.nodup_append] at nd
  rcases List.mem_cons.mp hp with h | h
  ·rw [h];exact nd.1
  ·exact BJ nd.2.1 h
theorem Bx {ls:List aG} {ps:List PD} {S:FS} (F:vh ls ps) {p:PD} (hp:p∈ps) {dd:gK} (h:dY S p=some dd):G9 ls dd:=by
 obtain⟨hl,he,rfl⟩:=iB h
 have ok:=F.pok p hp
 have hO:=ph S p ok
 have hlt:∀q∈places p.kind (aQ S p),q <p.ins.length:=fun q hq=>by
  have:=f9 hO q hq
  unfold aQ at this
  rwa [lM] at this
 have inL:∀x∈p.ins ++ p.outs,x∈ls.map (·.name):=fun x hx=>by
  obtain⟨l,hl,rfl⟩:=F.inL hp hx
  exact List.mem_map.mpr ⟨l,hl,rfl⟩
 refine⟨?_,fun x hx=>?_,fun q hq=>?_,?_⟩
 ·exact SN (BJ (F.whole.ins.nodup_iff.mpr F.whole.nod) hp) Gj hlt
 ·obtain⟨q,hq,rfl⟩:=List.mem_map.mp hx
  exact inL _ (List.mem_append.mpr (.inl (zX (hlt q hq))))
 ·obtain⟨pv,hpv,rfl⟩:=List.mem_map.mp hq
  obtain⟨o,ho1,ho2⟩:=BR (show p.kind<=10 by have:=ok.1;omega) _ _ _ _ hpv
  refine inL _ (List.mem_append.mpr (.inr (zX ?_)))
  rw [ho1,Int.toNat_natCast,ok.2.2.2.1]
  exact ho2
 ·show(List.map _ _).length<=2
  rw [lM]
  exact yS ..
inductive pU (K:PySem.W.Frag) (t:jN) (vs:List V) (H:Hp) (Q:VK):Prop where
 | mk:∀(b:Nat) (r:Addr) (n:Nat) (A:pN) (ls:List aG) (ps:List PD) (S:FS) (p:PD),vs=[.ref r,.str p.name]->pP t H r A.n A.f n->iK K t H A.n ls ps->eN K t H A ls ps S->KN b ls ps S->p∈ps->((jm ls S p=none->∀H',aM H H'->Q .non H'))->(∀dd,jm ls S p=some dd->∀H' U,aM H H'->H U=none->m9 (A.cells ls ps) H' U dd->Q (.ref U) H')->pU K t vs H Q
@[irreducible] noncomputable def gw (K:PySem.W.Frag) (t:jN):Sp:=fun vs H Q _=>pU K t vs H Q
theorem zW (T:Txt w K mg t):FO P w K mg base 6 t.mK ["self", "name"] (gw K t):=by
 have sc:=T.mX.sc ["self", "name", "deed"]
 refine T.mX.F.ok sc (fun vs H Q E h=>?_) (fun cdv A outer s H vs Q E hr h=>?_)
 ·unfold gw at h
  obtain⟨b,r,n,A,ls,ps,S,p,rfl,_⟩:=h
  rfl
 ·unfold gw at h
  obtain⟨b,r,n,A,ls,ps,S,p,rfl,hR,N,W,O,hp,kn,k⟩:=h
  refine⟨_,(au (sN sc 2 (wQ (bh (pv 0) rfl) T.aU T.aU.me.2.2.2.2.2.2.2.1 (Ig T) T.uy hr (aa (pv 1) ak aj)))
   (aA (aN (ue (PW.pt (rF (il (uM (pv 2))) (kj (il (HY (wQ (pv 0) T.bZ T.bZ.me.2.1 (zM T) T.mU hr (aa (pv 2) ak aj))))))) qx (pv 2))))),?_⟩
  obtain⟨dxr,fsr,R0⟩:=id hR
  obtain⟨dx,fs,h1,h2⟩:=id W.at'.ex
  have F:vh ls ps:=by obtain⟨_,_,_,_,_,_,_,_,_,Wn⟩:=N;exact Wn.fit
  refine⟨_,rfl,r,_,dxr,fsr,_,rfl,R0.1.1,T.bZ.c,T.bZ.na.2.1,R0.2.has ("flow",.ref A.f) (by simp),A.f,dx,fs,rfl,h1,h2.no _ (by decide +kernel),_,rfl,?_⟩
  refine Sq N W hp O (fun hd H1 s1=>?_) (fun dd hd H1 U s1 nU DA=>?_)
  ·exact⟨_,rfl,_,rfl,gj (gj (kn (by unfold jm;rw [hd]) _ s1))⟩
  ·obtain⟨dxr,fsr,R1⟩:=hR.same s1
   have nx:jm ls S p=if Al ls S dd=.non then some dd else none:=by unfold jm;rw [hd]
   refine⟨_,rfl,_,rfl,dz ?_⟩
   refine⟨_,rfl,r,dxr,fsr,rfl,R1.1.1,R1.2.no _ (by decide +kernel),_,rfl,r,n,A,ls,ps,S,_,U,dd,rfl,⟨dxr,fsr,R1⟩,N.same s1,W.same s1,DA,(Bx F hp hd).gin,fun H2 s2=>?_⟩
   by_cases hf:Al ls S dd=.non
   ·rw [hf]
    exact⟨_,rfl,dz ⟨_,rfl,k dd (by rw [nx,if_pos hf]) H2 U (s1.trans s2) nU (DA.same s2)⟩⟩
   ·rw [decide_eq_false hf]
    exact⟨_,rfl,gj (kn (by rw [nx,if_neg hf]) H2 (s1.trans s2))⟩
inductive yw (K:PySem.W.Frag) (t:jN) (vs:List V) (H:Hp) (Q:VK) (E:XK):Prop where
 | mk:∀(r:Addr) (n:Nat) (A:pN) (ls:List aG) (ps:List PD) (S:FS) (p:PD),vs=[.ref r,.str p.name]->pP t H r A.n A.f n->iK K t H A.n ls ps->eN K t H A ls ps S->p∈ps->(∀H',aM H H'->Q (.int (S.d p.name:Int)) H')->yw K t vs H Q E
theorem Iz (T:Txt w K mg t):FO P w K mg base 3 t.ur ["self", "name"] (yw K t):=by
 have sc:=T.tX.sc ["self", "name"]
 refine T.tX.F.ok sc ln (fun _ _ _ _ H vs Q E hr h=>?_)
 obtain⟨r,n,A,ls,ps,S,p,rfl,hR,N,W,hp,k⟩:=h
 refine⟨_,(au (bL (wQ (bh (pv 0) rfl) T.bu T.bu.me.2.2.2.2.2.2.2.2.2.1 (iJ T) T.fV hr (aa (pv 1) ak aj)))
  (aA (aN (bV hr.u1 (bh (bh (pv 0) rfl) rfl) (pv 1) (fun _ _=>rfl))))),?_⟩
 obtain⟨dxn,fsn,R,F0,Pd,Gn,Tk,FL,PL,Wn⟩:=id N
 obtain⟨dxr,fsr,R0⟩:=id hR
 refine⟨_,rfl,r,_,dxr,fsr,_,rfl,R0.1.1,T.bZ.c,T.bZ.na.1,R0.2.has ("net",.ref A.n) (by simp),A.n,dxn,fsn,rfl,Wn.obj,Wn.fl.no _ (by decide +kernel),_,rfl,A.n,ls,ps,p.name,rfl,N,.inl ⟨p,hp,rfl,fun H1 q s1 _=>?_⟩⟩
 obtain⟨dxr,fsr,R1⟩:=hR.same s1
 have W1:=W.same s1
 obtain⟨dx,fs,h1,h2⟩:=id W1.at'.ex
 have vd:=lg (k:=fun x=>(S.d x:Int)) Wn.fit.pnd hp
 exact⟨_,rfl,r,_,dxr,fsr,_,rfl,R1.1.1,T.bZ.c,T.bZ.na.2.1,R1.2.has ("flow",.ref A.f) (by simp),A.f,_,dx,fs,_,rfl,h1,T.aU.c,T.aU.na.2.2.2.2.1,h2.has ("done",.ref A.D) (by simp),_,rfl,A.D,_,rfl,(by rw [<-vd];exact d7.k (k:=Sum.inr p.name) W1.done),k _ s1⟩
inductive tG (K:PySem.W.Frag) (t:jN) (vs:List V) (H:Hp) (Q:VK) (E:XK):Prop where
 | mk:∀(r:Addr) (n:Nat) (A:pN) (ls:List aG) (ps:List PD) (S:FS) (l:aG),vs=[.ref r,.str l.name]->pP t H r A.n A.f n->iK K t H A.n ls ps->eN K t H A ls ps S->l∈ls->(∀H' p,aM H H'->H p=none->H' p=some (.lst (((S.ev l.name).drop (S.g l.name)).map V.int))->Q (.ref p) H')->tG K t vs H Q E
theorem Bm (T:Txt w K mg t):FO P w K mg base 3 t.o8 ["self", "name"] (tG K t):=by
 have sc:=T.oY.sc ["self", "name"]
 refine T.oY.F.ok sc ln (fun _ _ _ _ H vs Q E hr h=>?_)
 obtain⟨r,n,A,ls,ps,S,l,rfl,hR,N,W,hl,k⟩:=h
 refine⟨_,(au (bL (wQ (bh (pv 0) rfl) T.bu T.bu.me.2.2.2.2.2.2.1 (fB T) T.dH hr (aa (pv 1) ak aj)))
  (aA (aN (wQ (bh (pv 0) rfl) T.aU T.aU.me.2.2.1 (zO T) T.mY hr (aa (pv 1) ak aj))))),?_⟩
 obtain⟨dxn,fsn,R,F0,Pd,Gn,Tk,FL,PL,Wn⟩:=id N
 obtain⟨dxr,fsr,R0⟩:=id hR
 refine⟨_,rfl,r,_,dxr,fsr,_,rfl,R0.1.1,T.bZ.c,T.bZ.na.1,R0.2.has ("net",.ref A.n) (by simp),A.n,dxn,fsn,rfl,Wn.obj,Wn.fl.no _ (by decide +kernel),_,rfl,A.n,ls,ps,l.name,rfl,N,.inl ⟨List.mem_map.mpr ⟨l,hl,rfl⟩,fun H1 s1=>?_⟩⟩
 obtain⟨dxr,fsr,R1⟩:=hR.same s1
 have W1:=W.same s1
 obtain⟨dx,fs,h1,h2⟩:=id W1.at'.ex
 refine⟨_,rfl,r,_,dxr,fsr,_,rfl,R1.1.1,T.bZ.c,T.bZ.na.2.1,R1.2.has ("flow",.ref A.f) (by simp),A.f,dx,fs,rfl,h1,h2.no _ (by decide +kernel),_,rfl,A.f,A.n,A.E,A.G,A.Kp,A.D,A.Rw,A.ea l.name,_,_,l.name,_,_,rfl,W1.at',W1.ever,W1.gone,jA Wn.fit.whole.nod hl,oN Wn.fit.whole.nod hl,bI.of (W1.lists l hl),fun p hp=>?_⟩
 rw [<-List.map_drop]
 exact k _ p (s1.trans (aB hp)) (s1.free hp) az
inductive Js (t:jN) (vs:List V) (H:Hp) (Q:VK) (E:XK):Prop where
 | mk:∀(r a f:Addr) (n:Nat),vs=[.ref r]->pP t H r a f n->Q (.int (n:Nat)) H->Js t vs H Q E
theorem Mj {x:V} {xs:List V} (h:x∈xs) (f:Gs x x=true):inV x xs=true:=List.any_eq_true.mpr ⟨x,h,f⟩
inductive qm (K:PySem.W.Frag) (t:jN) (vs:List V) (H:Hp) (Q:VK) (E:XK):Prop where
 | mk:∀(r:Addr) (n:Nat) (A:pN) (ls:List aG) (ps:List PD) (S:FS) (L:Addr) (xs:List Str),vs=[.ref r,.ref L]->pP t H r A.n A.f n->iK K t H A.n ls ps->eN K t H A ls ps S->bI K H L (xs.map V.str)->((∀x∈xs,V.str x∈dF ps "give" ++ dF ps "take"))->(∀H',aM H H'->Q .non H')->qm K t vs H Q E
theorem yC (T:Txt w K mg t):FO P w K mg base 4 t.kO ["self", "names"] (qm K t):=by
 have sc:=T.kI.sc ["self", "names", "doors", "name"]
 refine T.kI.F.ok sc ln (fun _ _ _ _ H vs Q E hr h=>?_)
 obtain⟨r,n,A,ls,ps,S,L,xs,rfl,hR,N,W,hL,hx,k⟩:=h
 refine⟨_,(au (sN sc 2 (aX Lr (Sd (bh (pv 0) rfl) T.bu T.bu.me.2.2.2.2.1 (rY T) T.lX hr) (Sd (bh (pv 0) rfl) T.bu T.bu.me.2.2.2.2.2.1 (yf T) T.pY hr)))
  (aA (dD PassesOwn.never rfl (b8 (pv 1)) (gN sc 3)
   (aA (bR (aW jf (pv 3) (pv 2) (by with_unfolding_all rfl))
    (aA dO)
    aZ))))),?_⟩
 have hz:sizeLine=16777216:=sizeLine_eq
 obtain⟨dxn,fsn,R,F0,Pd,Gn,Tk,FL,PL,Wn⟩:=id N
 have p16:=Wn.fit.p16
 obtain⟨dxr,fsr,R0⟩:=id hR
 have g1:=rD ps "give"
 have g2:=rD ps "take"
 refine⟨_,rfl,r,_,dxr,fsr,_,rfl,R0.1.1,T.bZ.c,T.bZ.na.1,R0.2.has ("net",.ref A.n) (by simp),A.n,dxn,fsn,rfl,Wn.obj,Wn.fl.no _ (by decide +kernel),A.n,ls,ps,rfl,N,fun l nl=>?_⟩
 have s1:=aB (o:=.lst (dF ps "give")) nl
 obtain⟨dxr,fsr,R1⟩:=hR.same s1
 have Wn1:=Wn.same s1
 refine⟨_,rfl,r,_,dxr,fsr,_,rfl,R1.1.1,T.bZ.c,T.bZ.na.1,R1.2.has ("net",.ref A.n) (by simp),A.n,dxn,fsn,rfl,Wn1.obj,Wn1.fl.no _ (by decide +kernel),A.n,ls,ps,rfl,Wn1.s,fun l2 nl2=>?_⟩
 have s2:=aB (o:=.lst (dF ps "take")) nl2
 have e1:=s2 _ _ (az (H:=H) (a:=l) (o:=.lst (dF ps "give")))
 refine⟨l,l2,_,_,rfl,rfl,e1,az,by omega,fun l3 nl3=>?_⟩
 have s13:=s1.trans (s2.trans (aB (o:=.lst (dF ps "give" ++ dF ps "take")) nl3))
 have e3:upd (upd (upd H l (.lst (dF ps "give"))) l2 (.lst (dF ps "take"))) l3 (.lst (dF ps "give" ++ dF ps "take")) l3=some (.lst (dF ps "give" ++ dF ps "take")):=az
 generalize upd (upd (upd H l (.lst (dF ps "give"))) l2 (.lst (dF ps "take"))) l3 (.lst (dF ps "give" ++ dF ps "take"))=H3 at s13 e3 ⊢
 have fl:(dF ps "give" ++ dF ps "take").all mF=true:=by
  rw [List.all_eq_true]
  intro v hv
  rcases List.mem_append.mp hv with h | h <;> (obtain⟨p,_,rfl⟩:=List.mem_map.mp h;rfl)
 refine⟨_,rfl,L,rfl,⟨_,s13.seq hL⟩,cU (K:=K) (a:=L) (xs:=xs.map V.str) (fun j σ H'=>H'=H3/\∃v3,σ=[some (.ref r),some (.ref L),some (.ref l3),v3]) ⟨rfl,none,rfl⟩ (fun j σ H' _ ⟨e,_⟩=>by rw [e];exact s13.seq hL) ?_ ?_⟩
 ·rintro j x σ H' hx' ⟨rfl,v3,rfl⟩
  rw [List.getElem?_map] at hx'
  obtain⟨y,hy,rfl⟩:=Option.map_eq_some_iff.mp hx'
  refine⟨_,rfl,_,rfl,l3,_,rfl,.inl (bI.of e3),rfl,fl,_,rfl,?_⟩
  rw [Mj (hx y (List.mem_of_getElem? hy)) (by simp [Gs])]
  exact dz ⟨rfl,_,rfl⟩
 ·rintro σ H' ⟨rfl,v3,rfl⟩
  exact k _ s13
theorem TY {H:Hp} {Q:VK} {Ex:XK} {b:Nat} {r:Addr} {n:Nat} {A:pN} {ls:List aG} {ps:List PD} {S:FS} {p:PD} (hR:pP t H r A.n A.f n) (N:iK K t H A.n ls ps) (W:eN K t H A ls ps S) (O:KN b ls ps S) (hp:p∈ps) (kn:jm ls S p=none->∀H',aM H H'->Q .non H')
  (k:∀dd,jm ls S p=some dd->∀H' U,aM H H'->H U=none->m9 (A.cells ls ps) H' U dd->Q (.ref U) H'):gw K t [.ref r,.str p.name] H Q Ex:=by
 unfold gw
 exact⟨b,r,n,A,ls,ps,S,p,rfl,hR,N,W,O,hp,kn,k⟩
theorem Sx (y:Str) (xs:List Str):inV (.str y) (xs.map V.str)=decide (y∈xs):=by
 rw [Bool.eq_iff_iff,decide_eq_true_iff]
 unfold inV
 rw [List.any_eq_true]
 constructor
 ·rintro⟨v,hv,e⟩
  obtain⟨z,hz,rfl⟩:=List.mem_map.mp hv
  have:z=y:=by simpa [Gs] using e
  rw [<-this];exact hz
 ·intro h
  exact⟨.str y,List.mem_map.mpr ⟨y,h,rfl⟩,by simp [Gs]⟩
noncomputable def p7 (xs:List Str) (p:PD):Bool:=!decide (p.name∈xs)
noncomputable def mL (ls:List aG) (ps:List PD) (S:FS) (xs:List Str):List (PD×gK):=(ps.filter (p7 xs)).filterMap fun p=>(jm ls S p).map fun dd=>(p,dd)
noncomputable def iZ (S:FS) (ws:List (PD×gK)):FS:=ws.foldl (fun S w=>ju S w.1.name w.2) S
noncomputable def jj (ls:List aG) (ps:List PD) (S:FS) (xs:List Str):FS:=iZ S (mL ls ps S xs)
theorem Ed (S:FS) (ws:List (PD×gK)) (w:PD×gK):iZ S (ws ++ [w])=ju (iZ S ws) w.1.name w.2:=by unfold iZ;rw [List.foldl_append];rfl
theorem zJ {S:FS} {b:Nat} {x:Str}:∀{ws:List (PD×gK)},(S.ev x).length<=b->(∀w∈ws,w.2.gv.length<=2)->((iZ S ws).ev x).length<=b+2 * ws.length
 | [],h,_=>by simpa [iZ] using h
 | w:: r,h,g=>by
  have h1:=g w List.mem_cons_self
  have h2:((ju S w.1.name w.2).ev x).length<=b+2:=by
   unfold ju
   rw [lP,lM]
   have:=List.length_filter_le (fun q:Str×Int=>decide (q.1=x)) w.2.gv
   omega
  have h3:=zJ (S:=ju S w.1.name w.2) (ws:=r) h2 (fun w' hw=>g w' (List.mem_cons_of_mem _ hw))
  show((iZ (ju S w.1.name w.2) r).ev x).length<=_
  rw [List.length_cons]
  omega
theorem Ea {α β:Type} {F:α->β->Prop}:∀{xs:List α} {ys:List β} {j:Nat} {x:α},Paired F xs ys->xs[j]?=some x->∃y,ys[j]?=some y/\F x y
 | _,_,_,_,.nil,e=>by simp at e
 | _,_,0,_,.cons h _,e=>by simp at e;subst e;exact⟨_,rfl,h⟩
 | _,_,j+1,_,.cons _ r,e=>by
  obtain⟨y,h1,h2⟩:=Ea (j:=j) r (by simpa using e)
  exact⟨y,by simpa using h1,h2⟩
theorem Gu {α β:Type} {F:α->β->Prop}:∀{xs:List α} {ys:List β} {y:β},Paired F xs ys->y∈ys->∃x,F x y
 | _,_,_,.nil,e=>by simp at e
 | _,_,_,.cons h r,e=>by
  rcases List.mem_cons.mp e with rfl | e
  ·exact⟨_,h⟩
  ·exact Gu r e
theorem eN.ncell {H:Hp} {A:pN} {ls:List aG} {ps:List PD} {S:FS} (W:eN K t H A ls ps S) {a:Addr} {u:HO} (h:H a=some u) (h1:∀ks,u≠.dK ks) (h2:∀ks,u≠.lst ks):a∉A.cells ls ps:=by
 intro z
 have no:∀{b:Addr} {v:HO},H b=some v->a=b->u=v:=fun e q=>by rw [<-q,h] at e;exact Option.some.inj e
 unfold pN.cells at z
 simp only [List.mem_cons,List.mem_append,List.mem_map] at z
 rcases z with z | z | z | z | z | ⟨l,hl,z⟩ | ⟨p,hp,z⟩
 ·exact h1 _ (no W.ever z)
 ·exact h1 _ (no W.gone z)
 ·exact h1 _ (no W.kept z)
 ·exact h1 _ (no W.done z)
 ·exact h1 _ (no W.rows z)
 ·exact h2 _ (no (W.lists l hl) z.symm)
 ·have hf:=List.mem_filter.mp hp
  exact h2 _ (no (W.rlst p hf.1 (by simpa using hf.2)) z.symm)
theorem eN.tupMov {H H':Hp} {A:pN} {ls:List aG} {ps:List PD} {S:FS} (W:eN K t H A ls ps S) (m:Ey (A.cells ls ps) H H') {a:Addr} {xs:List V} (h:H a=some (.tup xs)):H' a=some (.tup xs):=by
 rw [m a (W.ncell h (by intro _ z;cases z) (by intro _ z;cases z))]
 exact h
theorem m9.mov {H H':Hp} {A:pN} {ls:List aG} {ps:List PD} {S:FS} {U:Addr} {dd:gK} (h:m9 (A.cells ls ps) H U dd) (W:eN K t H A ls ps S) (m:Ey (A.cells ls ps) H H'):m9 (A.cells ls ps) H' U dd:=by
 obtain⟨La,Lg,rs,a,b,c,d,e,f⟩:=h
 exact⟨La,Lg,rs,W.tupMov m a,by rw [m La e];exact b,by rw [m Lg f];exact c,Paired.mapP d fun _ _ z=>W.tupMov m z,e,f⟩
theorem pP.mov {H H':Hp} {r a f:Addr} {n:Nat} {M:List Addr} (h:pP t H r a f n) (nr:r∉M) (m:Ey M H H'):pP t H' r a f n:=by
 obtain⟨dx,fs,h1,h2⟩:=h
 exact⟨dx,fs,⟨by rw [m r nr];exact h1.1,h1.2⟩,h2⟩
theorem Ym {H:Hp} {Q:VK} {Ex:XK} {b:Nat} {A:pN} {ls:List aG} {ps:List PD} {S:FS} {p:PD} {U:Addr} {dd:gK} (F:vh ls ps) (W:eN K t H A ls ps S) (hp:p∈ps) (hl:∀l∈ls,(S.ev l.name).length<=b) (hb:b<=100000) (d:m9 (A.cells ls ps) H U dd) (o:G9 ls dd)
  (k:∀H',Ey (A.cells ls ps) H H'->eN K t H' A ls ps (ju S p.name dd)->Q .non H'):pL K t [.ref A.f,.str p.name,.ref U] H Q Ex:=by
 unfold pL
 exact⟨b,A,ls,ps,S,p,U,dd,rfl,F,W,hp,hl,hb,d,o,k⟩
theorem pP.turned {H:Hp} {r a f:Addr} {n:Nat} {dx:Addr} {fs:List (Str×V)} (h:(H r=some (.ins t.pJ dx fs)/\fs.length<=n+3)/\Ui ["step", "need_doors", "next_deed", "full_lane", "can_work", "works", "lane_now", "turn", "had", "taken"] [("net",.ref a),("flow",.ref f),("turns",.int (n:Nat))] fs):
  pP t (upd H r (.ins t.pJ dx (aJ "turns" (.int ((n:Int)+1)) fs))) r a f (n+1):=by
 refine⟨dx,_,⟨az,?_⟩,⟨?_,?_⟩⟩
 ·exact Nat.le_trans (ie h.1.2) (by omega)
 ·intro q hq
  simp only [List.mem_cons,List.not_mem_nil,or_false] at hq
  rcases hq with rfl | rfl | rfl
  ·dsimp only
   rw [aC,if_neg (by decide +kernel)]
   exact h.2.has ("net",.ref a) (by simp)
  ·dsimp only
   rw [aC,if_neg (by decide +kernel)]
   exact h.2.has ("flow",.ref f) (by simp)
  ·dsimp only
   rw [aC,if_pos rfl]
   rfl
 ·intro m hm
  have hne:∀m∈(["step", "need_doors", "next_deed", "full_lane", "can_work", "works", "lane_now", "turn", "had", "taken"]:List Str),¬m= "turns" :=by decide +kernel
  rw [aC,if_neg (hne m hm)]
  exact h.2.no m hm
theorem eN.ins {H:Hp} {A:pN} {ls:List aG} {ps:List PD} {S:FS} (W:eN K t H A ls ps S) {x:Addr} (nx:x∉A.cells ls ps) {o:HO} (nf:x≠A.f):eN K t (upd H x o) A ls ps S:=by
 have st:∀a,a∈A.cells ls ps->upd H x o a=H a:=fun a ha=>aH fun z=>nx (by rw [<-z];exact ha)
 obtain⟨dx,fs,h1,h2⟩:=W.at'.ex
 refine⟨⟨dx,fs,by rw [aH (Ne.symm nf)];exact h1,h2⟩,?_,fun l hl=>?_,?_,?_,?_,?_,fun p hp h0=>?_,W.nod⟩
 ·rw [st _ (by simp [pN.cells])];exact W.ever
 ·rw [st _ (by unfold pN.cells;simp only [List.mem_cons,List.mem_append,List.mem_map];exact .inr (.inr (.inr (.inr (.inr (.inl ⟨l,hl,rfl⟩))))))];exact W.lists l hl
 ·rw [st _ (by simp [pN.cells])];exact W.gone
 ·rw [st _ (by simp [pN.cells])];exact W.kept
 ·rw [st _ (by simp [pN.cells])];exact W.done
 ·rw [st _ (by simp [pN.cells])];exact W.rows
 ·rw [st _ (by unfold pN.cells;simp only [List.mem_cons,List.mem_append,List.mem_map];exact .inr (.inr (.inr (.inr (.inr (.inr ⟨p,List.mem_filter.mpr ⟨hp,by simp [h0]⟩,rfl⟩))))))];exact W.rlst p hp h0
inductive Gw (M:List Addr) (ls:List aG) (S:FS) (H:Hp) (q:PD×Addr):Prop where
 | mk:∀u,H q.2=some (.tup [.str q.1.name,u])->(((jm ls S q.1=none/\u=.non)∨∃dd U,jm ls S q.1=some dd/\u=.ref U/\m9 M H U dd))->Gw M ls S H q
theorem Gw.same {M:List Addr} {ls:List aG} {S:FS} {H H':Hp} {q:PD×Addr} (h:Gw M ls S H q) (s:aM H H'):Gw M ls S H' q:=by
 obtain⟨u,h1,h2⟩:=h
 refine⟨u,s _ _ h1,?_⟩
 rcases h2 with h2 | ⟨dd,U,a,b,c⟩
 ·exact .inl h2
 ·exact .inr ⟨dd,U,a,b,c.same s⟩
theorem RM {ls:List aG} {S:FS}:∀{qs:List (PD×Addr)},(qs.map (·.1)).filterMap (fun p=>(jm ls S p).map fun dd=>(p,dd))=(qs.filter fun q=>(jm ls S q.1).isSome).filterMap (fun q=>(jm ls S q.1).map fun dd=>(q.1,dd))
 | []=>rfl
 | q:: r=>by
  rw [List.map_cons,List.filterMap_cons,List.filter_cons,RM (qs:=r)]
  cases h:jm ls S q.1 with
  | none=>simp
  | some dd=>simp [List.filterMap_cons,h]
theorem gA {ls:List aG} {S:FS} {p:PD} {dd:gK} (h:jm ls S p=some dd):dY S p=some dd/\Al ls S dd=.non:=by
 unfold jm at h
 split at h
 ·cases h
 ·rename_i d hd
  split at h
  ·rename_i hf
   cases h
   exact⟨hd,hf⟩
  ·cases h
structure yR (K:PySem.W.Frag) (t:jN) (H:Hp) (r:Addr) (n:Nat) (A:pN) (ls:List aG) (ps:List PD) (S:FS):Prop where
 run:pP t H r A.n A.f n
 net:iK K t (bB (r:: A.cells ls ps) H) A.n ls ps
 flow:eN K t H A ls ps S
 ne:r≠A.f
theorem yR.netH {H:Hp} {r:Addr} {n:Nat} {A:pN} {ls:List aG} {ps:List PD} {S:FS} (h:yR K t H r n A ls ps S):iK K t H A.n ls ps:=h.net.same cj
theorem pP.cell {H:Hp} {r:Addr} {n:Nat} {A:pN} {ls:List aG} {ps:List PD} {S:FS} {a f:Addr} (hR:pP t H r a f n) (W:eN K t H A ls ps S):r∉A.cells ls ps:=by
 obtain⟨dx,fs,⟨h1,_⟩,_⟩:=hR
 intro z
 have no:∀{b:Addr} {u:HO},H b=some u->(∀C dx fs,u≠.ins C dx fs)->r=b->False:=fun e h q=>by rw [<-q,h1] at e;exact h _ _ _ (Option.some.inj e).symm
 unfold pN.cells at z
 simp only [List.mem_cons,List.mem_append,List.mem_map] at z
 rcases z with z | z | z | z | z | ⟨l,hl,z⟩ | ⟨p,hp,z⟩
 ·exact no W.ever (by intro _ _ _ z;cases z) z
 ·exact no W.gone (by intro _ _ _ z;cases z) z
 ·exact no W.kept (by intro _ _ _ z;cases z) z
 ·exact no W.done (by intro _ _ _ z;cases z) z
 ·exact no W.rows (by intro _ _ _ z;cases z) z
 ·exact no (W.lists l hl) (by intro _ _ _ z;cases z) z.symm
 ·have hf:=List.mem_filter.mp hp
  exact no (W.rlst p hf.1 (by simpa using hf.2)) (by intro _ _ _ z;cases z) z.symm
theorem Ws {ws:List Int} (h:VR ws):0<=g0 ws/\g0 ws <1000000000:=by
 unfold g0
 match ws,h with
 | [],_=>exact⟨by decide,by decide⟩
 | w:: r,h=>exact h w List.mem_cons_self
theorem WW {ws:List Int} (h:VR ws):0<=g1 ws/\g1 ws <1000000000:=by
 unfold g1
 match ws,h with
 | [],_=>exact⟨by decide,by decide⟩
 | [w],_=>exact⟨Int.le_refl 0,by show(0:Int) <1000000000;decide⟩
 | w:: v:: r,h=>exact h v (by simp)
theorem Bv (n:Int):0<=n % 1000000000/\n % 1000000000 <1000000000:=⟨Int.emod_nonneg _ (by decide),Int.emod_lt_of_pos _ (by decide)⟩
theorem JT {i:Nat} (hi:i <11) (ns:List Int) {ws:List Int} (kp:Int) (h:VR ws):∀pv∈cz i ns ws kp,0<=pv.2/\pv.2 <1000000000:=by
 have a0:=Ws h
 have a1:=WW h
 match i,hi with
 | 0,_=>simp [cz];exact a0
 | 1,_=>simp [cz]
 | 2,_=>simp [cz];exact a0
 | 3,_=>simp [cz];exact a0
 | 4,_=>simp [cz];exact Bv _
 | 5,_=>simp [cz];exact Bv _
 | 6,_=>simp [cz];exact Bv _
 | 7,_=>simp [cz];split <;> decide
 | 8,_=>simp [cz];constructor <;> split <;> omega
 | 9,_=>simp [cz];exact a1
 | 10,_=>simp [cz];exact a1
theorem yh (x:Str):∀(ws:List (PD×gK)) (S:FS),(iZ S ws).ev x=S.ev x ++ ws.flatMap fun w=>(w.2.gv.filter fun q=>decide (q.1=x)).map (·.2)
 | [],S=>by simp [iZ]
 | w:: r,S=>by
  show(iZ (ju S w.1.name w.2) r).ev x=_
  rw [yh x r,List.flatMap_cons,<-List.append_assoc]
  rfl
theorem BV:∀(ws:List (PD×gK)) (S:FS),(iZ S ws).r=S.r
 | [],_=>rfl
 | w:: r,S=>by show(iZ (ju S w.1.name w.2) r).r=_;rw [BV r];rfl
theorem Hj (x:Str):∀(ws:List (PD×gK)) (S:FS),(iZ S ws).d x=S.d x+(ws.filter fun w=>decide (w.1.name=x)).length
 | [],S=>by simp [iZ]
 | w:: r,S=>by
  show(iZ (ju S w.1.name w.2) r).d x=_
  rw [Hj x r,List.filter_cons]
  show(if x=w.1.name then S.d x+1 else S.d x)+_=_
  by_cases h:x=w.1.name
  ·rw [if_pos h,if_pos (by simp [h])]
   simp
   omega
  ·rw [if_neg h,if_neg (by simpa using fun e=>h e.symm)]
theorem Ir (x:Str):∀(ws:List (PD×gK)) (S:FS),(iZ S ws).g x=S.g x+(ws.filter fun w=>decide (x∈w.2.tk)).length
 | [],S=>by simp [iZ]
 | w:: r,S=>by
  show(iZ (ju S w.1.name w.2) r).g x=_
  rw [Ir x r,List.filter_cons]
  show(if x∈w.2.tk then S.g x+1 else S.g x)+_=_
  by_cases h:x∈w.2.tk
  ·rw [if_pos h,if_pos (by simp [h])]
   simp
   omega
  ·rw [if_neg h,if_neg (by simp [h])]
theorem jB {ls:List aG} {ps:List PD} {S:FS} {xs:List Str} {w:PD×gK} (h:w∈mL ls ps S xs):w.1∈ps/\p7 xs w.1=true/\jm ls S w.1=some w.2:=by
 obtain⟨p,hp,e⟩:=List.mem_filterMap.mp h
 obtain⟨dd,hd,rfl⟩:=Option.map_eq_some_iff.mp e
 obtain⟨h1,h2⟩:=List.mem_filter.mp hp
 exact⟨h1,h2,hd⟩
theorem oO {ls:List aG} {S:FS}:∀{qs:List PD},((qs.filterMap fun p=>(jm ls S p).map fun dd=>(p,dd)).map (·.1)).Sublist qs
 | []=>by simp
 | q:: r=>by
  rw [List.filterMap_cons]
  cases jm ls S q with
  | none=>exact oO.cons _
  | some dd=>exact oO.cons₂ _
theorem Ms {ls:List aG} {ps:List PD} {S:FS} {xs:List Str} (nd:(ps.map (·.name)).Nodup):((mL ls ps S xs).map fun w=>w.1.name).Nodup:=by
 have h:((mL ls ps S xs).map (·.1)).Sublist ps:=(oO (qs:=ps.filter (p7 xs))).trans List.filter_sublist
 have e:(mL ls ps S xs).map (fun w=>w.1.name)=((mL ls ps S xs).map (·.1)).map (·.name):=by rw [List.map_map];rfl
 rw [e]
 exact nd.sublist (h.map _)
theorem Uu {ls:List aG} {ps:List PD} {S:FS} {xs:List Str}:(mL ls ps S xs).length<=ps.length:=by
 have h:((mL ls ps S xs).map (·.1)).Sublist ps:=(oO (qs:=ps.filter (p7 xs))).trans List.filter_sublist
 have:=h.length_le
 rwa [lM] at this
theorem Ja {α:Type} {f:α->Str} {x:Str}:∀{l:List α},(l.map f).Nodup->(l.filter fun a=>decide (f a=x)).length<=1
 | [],_=>by simp
 | a:: r,nd=>by
  rw [List.map_cons,List.nodup_cons] at nd
  rw [List.filter_cons]
  by_cases h:f a=x
  ·rw [if_pos (by simp [h]),List.filter_eq_nil_iff.mpr fun b hb=>by simpa using fun e=>nd.1 (List.mem_map.mpr ⟨b,hb,by rw [e,h]⟩)]
   simp
  ·rw [if_neg (by simp [h])]
   exact Ja nd.2
theorem Uh {b:Nat} {ls:List aG} {ps:List PD} {S:FS} (F:vh ls ps) (O:KN b ls ps S) (xs:List Str):KN (b+32) ls ps (jj ls ps S xs):=by
 have dk:∀w∈mL ls ps S xs,G9 ls w.2:=fun w hw=>Bx F (jB hw).1 (gA (jB hw).2.2).1
 refine⟨fun l hl v hv=>?_,fun p hp h0=>?_,fun p hp h0=>?_,fun l hl=>?_,fun p hp h0=>?_⟩
 ·unfold jj at hv
  rw [yh] at hv
  rcases List.mem_append.mp hv with h | h
  ·exact O.vb l hl v h
  ·obtain⟨w,hw,hv⟩:=List.mem_flatMap.mp h
   obtain⟨q,hq,rfl⟩:=List.mem_map.mp hv
   obtain⟨h1,_,h3⟩:=jB hw
   obtain⟨e1,e2,e3⟩:=iB (gA h3).1
   have hq':=(List.mem_filter.mp hq).1
   rw [e3] at hq'
   obtain⟨pv,hpv,rfl⟩:=List.mem_map.mp hq'
   exact JT (F.pok _ h1).1 _ _ (NT F O h1 e1 e2).2.1 pv hpv
 ·unfold jj
  rw [BV]
  exact O.rb p hp h0
 ·unfold jj
  rw [BV,Hj]
  have h1:=Ja (x:=p.name) (Ms (ls:=ls) (S:=S) (xs:=xs) F.pnd)
  have h2:=O.dl p hp h0
  by_cases hm:∃w∈mL ls ps S xs,w.1.name=p.name
  ·obtain⟨w,hw,e⟩:=hm
   obtain⟨a1,_,a3⟩:=jB hw
   have ew:w.1=p:=jn F.pnd a1 hp e
   obtain⟨_,e2,_⟩:=iB (gA a3).1
   rw [ew] at e2
   unfold vO at e2
   simp [h0] at e2
   omega
  ·rw [List.filter_eq_nil_iff.mpr fun w hw=>by simpa using fun e=>hm ⟨w,hw,e⟩]
   simpa using h2
 ·have h1:=zJ (O.len l hl) fun w hw=>(dk w hw).g2
  have h2:=Uu (ls:=ls) (ps:=ps) (S:=S) (xs:=xs)
  have:=F.p16
  unfold jj
  omega
 ·unfold jj
  rw [BV]
  exact O.rl p hp h0
inductive xX (K:PySem.W.Frag) (t:jN) (vs:List V) (H:Hp) (Q:VK):Prop where
 | mk:∀(b:Nat) (r:Addr) (n:Nat) (A:pN) (ls:List aG) (ps:List PD) (S:FS) (L:Addr) (xs:List Str),vs=[.ref r,.ref L]->yR K t H r n A ls ps S->KN b ls ps S->b<=90000->n<=900->bI K H L (xs.map V.str)->L∉A.cells ls ps->((∀x∈xs,V.str x∈dF ps "give" ++ dF ps "take"))->(∀H' p,aM (bB (r:: A.cells ls ps) H) (bB (r:: A.cells ls ps) H')->yR K t H' r (n+1) A ls ps (jj ls ps S xs)->H p=none->H' p=some (.lst ((mL ls ps S xs).map fun w=>V.str w.1.name))->Q (.ref p) H')->xX K t vs H Q
@[irreducible] noncomputable def lZ (K:PySem.W.Frag) (t:jN):Sp:=fun vs H Q _=>xX K t vs H Q
noncomputable abbrev rW:List Str:=["self", "held", "back", "deeds", "due", "name", "deed"]
theorem JH (T:Txt w K mg t):FO P w K mg base 7 t.xN ["self", "held"] (lZ K t):=by
 have sc:fG rW ["self", "held"] (bc (inClass (top 61) 1)):=GX
 refine T.xf.F.ok sc (fun vs H Q E h=>?_) (fun cdv A outer s H vs Q E hr h=>?_)
 ·unfold lZ at h
  obtain⟨b,r,n,A,ls,ps,S,L,xs,rfl,_⟩:=h
  rfl
 ·unfold lZ at h
  obtain⟨b,r,n,A,ls,ps,S,L,xs,rfl,⟨hR,Nc,W,nrf⟩,O,hb,hn,hL,nL,hx,k⟩:=h
  refine⟨_,(au (sN sc 2 (ue (il (uM (pv 1))) (bw ak) (pv 1)))
   (au (bL (wQ (pv 0) T.bZ T.bZ.me.2.2.2.1 (yC T) T.kI hr (aa (pv 2) ak aj)))
   (au (mH (i:=3) [0,2] rW (bc (inClass (top 61) 1)) rfl sc.nd rfl (b8 (Sd (bh (pv 0) rfl) T.bu T.bu.me.2.2.1 (jR T) T.gf hr)) (fun _ _ _ _ _=>(wZ (aW (Ez (K:=K) rfl) (pv 0) (pv 2) (by with_unfolding_all rfl)))) (fun _ _ _ _ _=>(bU (aa (pv 0) (aa (wQ (pv 1) T.bZ T.bZ.me.2.2.1 (zW T) T.mX hr (aa (pv 0) ak aj)) ak aY) aj))))
   (au (mH (i:=4) [] rW (bc (inClass (top 61) 1)) rfl sc.nd rfl (b8 (pv 3)) (fun _ _ _ _ _=>(wZ (il (HY (aR (rQ (K:=K) rfl) (pv 0) aq (fun _ _=>rfl)))))) (fun _ _ _ _ _=>(pv 0)))
   (au (dD PassesOwn.never rfl (b8 (pv 4)) (jT rfl (bD (gN sc 5) (bD (gN sc 6) fQ)))
    (aA (bL (wQ (bh (pv 0) rfl) T.aU T.aU.me.2.2.2.2.2.2.2.2.1 (Mh T) T.zy hr (aa (pv 5) (aa (pv 6) ak aj) aj)))))
   (au (Ol (pv 0) aq By)
   (aA (aN (Dk ["name", "deed"] [] rW (bc (inClass (top 61) 1)) rfl (b8 (pv 4)) (fun _ _ _ _ _=>BP (K:=K) (n:=2) rfl rfl (bD (lA (i:=0) (show(["name", "deed"]:List Str).Nodup by decide +kernel) rfl (Or.inl rfl) (.inr rfl)) (bD (lA (i:=1) (show(["name", "deed"]:List Str).Nodup by decide +kernel) rfl (Or.inl rfl) (.inr rfl)) fQ))) (fun _ _ _ _ _=>jr) (fun _ _ _ _ _=>(pv 0))))))))))),?_⟩
  have hz:sizeLine=16777216:=sizeLine_eq
  have N:iK K t H A.n ls ps:=Nc.same cj
  obtain⟨dxn,fsn,R,F0,Pd,Gn,Tk,FL,PL,Wn⟩:=id N
  have F:=Wn.fit
  have p16:=F.p16
  obtain⟨dxr,fsr,R0⟩:=id hR
  refine⟨_,rfl,_,rfl,dz ⟨_,rfl,?_⟩⟩
  refine⟨_,rfl,r,dxr,fsr,rfl,R0.1.1,R0.2.no _ (by decide +kernel),_,rfl,r,n,A,ls,ps,S,L,xs,rfl,hR,N,W,hL,hx,fun H1 s1=>?_⟩
  obtain⟨dxr,fsr,R1⟩:=hR.same s1
  have Wn1:=Wn.same s1
  refine⟨_,rfl,r,_,dxr,fsr,_,rfl,R1.1.1,T.bZ.c,T.bZ.na.1,R1.2.has ("net",.ref A.n) (by simp),A.n,dxn,fsn,rfl,Wn1.obj,Wn1.fl.no _ (by decide +kernel),A.n,ls,ps,rfl,Wn1.s,fun l nl=>?_⟩
  have s2:=s1.trans (aB (o:=.lst (ps.map fun x=>V.str x.name)) nl)
  have el:(upd H1 l (.lst (ps.map fun x=>V.str x.name))) l=some (.lst (ps.map fun x=>V.str x.name)):=az
  generalize upd H1 l (.lst (ps.map fun x=>V.str x.name))=H2 at s2 el ⊢
  have hflat:(xs.map V.str).all mF=true:=by simp [mF]
  refine⟨l,rfl,⟨_,bI.of el⟩,jd (K:=K) (a:=l) (xs:=ps.map fun x=>V.str x.name) (fun j ys H'=>aM H2 H'/\∃qs:List (PD×Addr),ys=qs.map (fun q=>V.ref q.2)/\qs.map (·.1)=(ps.take j).filter (p7 xs)/\∀q∈qs,Gw (A.cells ls ps) ls S H' q) (by rw [lM];omega) ⟨aM.refl _,[],rfl,rfl,by simp⟩ ?_ (fun j ys H' _ h=>h.1.seq (bI.of el)) ?_ ?_⟩
  ·rintro j ys H' ⟨_,qs,rfl,e,_⟩
   have h1:=congrArg List.length e
   have h2:=List.length_filter_le (p7 xs) (ps.take j)
   rw [lM] at h1
   rw [List.length_take] at h2
   rw [lM]
   omega
  ·rintro j x ys H' hj ⟨s3',qs,rfl,eq,hq⟩
   rw [List.getElem?_map] at hj
   obtain⟨p,hp,rfl⟩:=Option.map_eq_some_iff.mp hj
   have hpm:=List.mem_of_getElem? hp
   have s3:=s2.trans s3'
   obtain⟨dxr,fsr,R2⟩:=hR.same s3
   refine⟨_,rfl,_,rfl,L,_,rfl,.inl (s3.seq hL),rfl,hflat,_,rfl,?_⟩
   rw [Sx]
   have tk:(ps.take (j+1)).filter (p7 xs)=(ps.take j).filter (p7 xs) ++ if p7 xs p=true then [p] else []:=by
    rw [List.take_succ,hp,Option.toList_some,List.filter_append,List.filter_cons]
    rfl
   refine jy (fun e=>?_) (fun e=>?_)
   ·have e':p7 xs p=true:=e
    rw [e',if_pos rfl] at tk
    refine⟨_,rfl,_,rfl,r,dxr,fsr,rfl,R2.1.1,R2.2.no _ (by decide +kernel),_,rfl,?_⟩
    refine TY (hR.same s3) (N.same s3) (W.same s3) O hpm (fun hd H4 s4=>?_) (fun dd hd H4 U s4 nU DA=>?_)
    ·refine⟨jl,fun q nq=>⟨s3'.trans (s4.trans (aB nq)),qs ++ [(p,q)],by simp,by rw [List.map_append,eq,tk];rfl,fun q' hq'=>?_⟩⟩
     rcases List.mem_append.mp hq' with h | h
     ·exact(hq q' h).same (s4.trans (aB nq))
     ·rw [List.mem_singleton] at h
      subst h
      exact⟨.non,az,.inl ⟨hd,rfl⟩⟩
    ·refine⟨jl,fun q nq=>⟨s3'.trans (s4.trans (aB nq)),qs ++ [(p,q)],by simp,by rw [List.map_append,eq,tk];rfl,fun q' hq'=>?_⟩⟩
     rcases List.mem_append.mp hq' with h | h
     ·exact(hq q' h).same (s4.trans (aB nq))
     ·rw [List.mem_singleton] at h
      subst h
      exact⟨.ref U,az,.inr ⟨dd,U,hd,rfl,DA.same (aB nq)⟩⟩
   ·have e':¬p7 xs p=true:=e
    rw [if_neg e',List.append_nil] at tk
    exact⟨s3',qs,rfl,by rw [eq,tk],hq⟩
  rintro ys H3 ⟨s3',qs,rfl,eq,hq⟩ D1 nD1
  rw [lM,List.take_length] at eq
  have s4':=aB (o:=.lst (qs.map fun q=>V.ref q.2)) nD1
  have s4:=(s2.trans s3').trans s4'
  have eD1:(upd H3 D1 (.lst (qs.map fun q=>V.ref q.2))) D1=some (.lst (qs.map fun q=>V.ref q.2)):=az
  replace hq:=fun q h=>(hq q h).same s4'
  generalize upd H3 D1 (.lst (qs.map fun q=>V.ref q.2))=H4 at s4 s4' eD1 hq ⊢
  clear s4' nD1 s3' nl el
  have lq:qs.length<=16:=by
   have h1:=congrArg List.length eq
   have h2:=List.length_filter_le (p7 xs) ps
   rw [lM] at h1
   omega
  let fS:PD×Addr->Bool:=fun q=>(jm ls S q.1).isSome
  refine⟨_,rfl,D1,rfl,⟨_,bI.of eD1⟩,jd (K:=K) (a:=D1) (xs:=qs.map fun q=>V.ref q.2) (fun j ys H'=>H'=H4/\ys=((qs.take j).filter fS).map fun q=>V.ref q.2) (by rw [lM];omega) ⟨rfl,rfl⟩ (fun j ys H' ⟨_,e⟩=>by rw [e,lM];exact Nat.le_trans (List.length_filter_le _ _) (by rw [List.length_take];omega)) (fun j ys H' _ ⟨e,_⟩=>by rw [e];exact bI.of eD1) ?_ ?_⟩
  ·rintro j x ys H' hj ⟨rfl,rfl⟩
   rw [List.getElem?_map] at hj
   obtain⟨q,hqj,rfl⟩:=Option.map_eq_some_iff.mp hj
   obtain⟨u,h1,h2⟩:=hq q (List.mem_of_getElem? hqj)
   refine⟨_,rfl,q.2,_,1,_,rfl,rfl,eQ.of h1,aK (j:=1) rfl,?_⟩
   rw [List.take_succ,hqj,Option.toList_some,List.filter_append,List.filter_cons,List.map_append]
   rcases h2 with ⟨h2,rfl⟩ | ⟨dd,U,h2,rfl,_⟩
   ·exact⟨_,rfl,dz ⟨rfl,by simp [fS,h2]⟩⟩
   ·exact⟨_,rfl,gj ⟨_,rfl,rfl,by simp [fS,h2]⟩⟩
  rintro ys H' ⟨rfl,rfl⟩ D2 nD2
  rw [lM,List.take_length]
  obtain⟨ws,hws⟩:∃ws:List (PD×gK),ws=mL ls ps S xs:=⟨_,rfl⟩
  have ewq:ws=(qs.filter fS).filterMap (fun q=>(jm ls S q.1).map fun dd=>(q.1,dd)):=by rw [hws];unfold mL;rw [<-eq,RM]
  have hW:Paired (fun(q:PD×Addr) (w:PD×gK)=>q.1=w.1/\jm ls S w.1=some w.2/\w.1∈ps/\∃U,H' q.2=some (.tup [.str w.1.name,.ref U])/\m9 (A.cells ls ps) H' U w.2) (qs.filter fS) ws:=by
   rw [ewq]
   have hall:∀q∈qs.filter fS,Gw (A.cells ls ps) ls S H' q/\q.1∈ps/\fS q=true:=fun q h=>by
    have h':=List.mem_filter.mp h
    refine⟨hq q h'.1,?_,h'.2⟩
    have:q.1∈qs.map (·.1):=List.mem_map.mpr ⟨q,h'.1,rfl⟩
    rw [eq] at this
    exact(List.mem_filter.mp this).1
   generalize qs.filter fS=rs at hall
   clear ewq
   induction rs with
   | nil=>exact .nil
   | cons q r ih=>
    obtain⟨⟨u,h1,h2⟩,hp,hf⟩:=hall q List.mem_cons_self
    rcases h2 with ⟨h2,_⟩ | ⟨dd,U,h2,rfl,h3⟩
    ·simp only [fS,h2] at hf
     cases hf
    ·rw [List.filterMap_cons,h2]
     exact .cons ⟨rfl,h2,hp,U,h1,h3⟩ (ih fun q' hq'=>hall q' (List.mem_cons_of_mem _ hq'))
  have lw:(qs.filter fS).length=ws.length:=Paired.length hW
  have lw16:ws.length<=16:=by have:=List.length_filter_le fS qs;omega
  have s5':=aB (o:=.lst ((qs.filter fS).map fun q=>V.ref q.2)) nD2
  have s5:=s4.trans s5'
  have nD2':=(W.same s4).cell nD2
  have eD2:(upd H' D2 (.lst ((qs.filter fS).map fun q=>V.ref q.2))) D2=some (.lst ((qs.filter fS).map fun q=>V.ref q.2)):=az
  generalize upd H' D2 (.lst ((qs.filter fS).map fun q=>V.ref q.2))=H5 at s5 s5' eD2 ⊢
  generalize qs.filter fS=rs at hW lw eD2 ⊢
  have g2:∀w∈ws,w.2.gv.length<=2:=fun w hw=>by
   obtain⟨q,_,h2,h3,_⟩:=Gu hW hw
   exact(Bx F h3 (gA h2).1).g2
  have W5:=W.same s5
  have R5:=hR.same s5
  have nr:=R5.cell W5
  refine⟨_,rfl,D2,rfl,⟨_,bI.of eD2⟩,cU (K:=K) (a:=D2) (xs:=rs.map fun q=>V.ref q.2) (fun j σ H6=>Ey (A.cells ls ps) H5 H6/\eN K t H6 A ls ps (iZ S (ws.take j))/\∃v5 v6,σ=[some (.ref r),some (.ref L),some (.ref L),some (.ref D1),some (.ref D2),v5,v6]) ⟨fun _ _=>rfl,by simpa [iZ] using W5,none,none,rfl⟩ (fun j σ H6 _ h=>bI.of (by rw [h.1 D2 nD2'];exact eD2)) ?_ ?_⟩
  ·rintro j x σ H6 hj ⟨m6,W6,v5,v6,rfl⟩
   rw [List.getElem?_map] at hj
   obtain⟨q,hqj,rfl⟩:=Option.map_eq_some_iff.mp hj
   obtain⟨w,hwj,_,h2,hp,U,t1,d1⟩:=Ea hW hqj
   have t6:=W5.tupMov m6 (s5' _ _ t1)
   have d6:=(d1.same s5').mov W5 m6
   obtain⟨dxr,fsr,R3⟩:=R5.mov nr m6
   obtain⟨dxg,fsg,y1,y2⟩:=id W6.at'.ex
   refine⟨q.2,_,rfl,eQ.of t6,rfl,_,_,rfl,_,_,rfl,rfl,?_⟩
   refine⟨_,rfl,r,_,dxr,fsr,_,rfl,R3.1.1,T.bZ.c,T.bZ.na.2.1,R3.2.has ("flow",.ref A.f) (by simp),A.f,dxg,fsg,rfl,y1,y2.no _ (by decide +kernel),_,rfl,_,rfl,?_⟩
   refine Ym F W6 hp (b:=b+2 * (ws.take j).length) (fun l hl=>zJ (O.len l hl) fun w' hw'=>g2 w' (List.mem_of_mem_take hw')) (by rw [List.length_take];omega) d6 (Bx F hp (gA h2).1) fun H7 m7 W7=>⟨fun a ha=>by rw [m7 a ha,m6 a ha],?_,_,_,rfl⟩
   rw [List.take_succ,hwj,Option.toList_some,Ed]
   exact W7
  rintro σ H6 ⟨m6,W6,v5,v6,rfl⟩
  rw [lM,lw,List.take_length] at W6
  obtain⟨dxr,fsr,R3⟩:=R5.mov nr m6
  refine⟨_,rfl,r,_,dxr,fsr,.int (n:Nat),rfl,R3.1.1,T.bZ.c,T.bZ.na.2.2.1,R3.2.has ("turns",.int (n:Nat)) (by simp),_,_,rfl,rfl,dxr,fsr,R3.1.1,by have:=R3.1.2;omega,?_⟩
  have R7:=pP.turned R3
  have W7:=W6.ins (x:=r) nr (o:=.ins t.pJ dxr (aJ "turns" (.int ((n:Int)+1)) fsr)) nrf
  have m7:∀a,a≠r->a∉A.cells ls ps->upd H6 r (.ins t.pJ dxr (aJ "turns" (.int ((n:Int)+1)) fsr)) a=H5 a:=fun a h1 h2=>by rw [aH h1,m6 a h2]
  generalize upd H6 r (.ins t.pJ dxr (aJ "turns" (.int ((n:Int)+1)) fsr))=H7 at R7 W7 m7 ⊢
  have nD2r:D2≠r:=fun z=>by
   obtain⟨_,_,y1,_⟩:=R5
   rw [<-z,eD2] at y1
   cases y1.1
  have eD7:H7 D2=some (.lst (rs.map fun q=>V.ref q.2)):=by rw [m7 D2 nD2r nD2'];exact eD2
  have t7:∀{a:Addr} {vs:List V},H5 a=some (.tup vs)->H7 a=some (.tup vs):=fun {a vs} h=>by
   rw [m7 a (fun z=>by obtain⟨_,_,y1,_⟩:=R5;rw [<-z,h] at y1;cases y1.1) (W5.ncell h (by intro _ z;cases z) (by intro _ z;cases z))]
   exact h
  have c7:aM (bB (r:: A.cells ls ps) H) (bB (r:: A.cells ls ps) H7):=fun a o e=>by
   have hn:a∉r:: A.cells ls ps:=fun z=>by unfold bB at e;rw [if_pos z] at e;cases e
   have e':=s5 _ _ (cj a o e)
   unfold bB
   rw [if_neg hn,m7 a (fun z=>hn (by rw [z];exact List.mem_cons_self)) (fun z=>hn (List.mem_cons_of_mem _ z))]
   exact e'
  refine⟨_,rfl,D2,rfl,⟨_,bI.of eD7⟩,?_⟩
  refine CJ (K:=K) (a:=D2) (xs:=rs.map fun q=>V.ref q.2) (fun j ys H8=>H8=H7/\ys=(ws.take j).map fun w=>V.str w.1.name) (by rw [lM];omega) ⟨rfl,rfl⟩ ?_ (fun j ys H8 _ ⟨e,_⟩=>by rw [e];exact bI.of eD7) ?_ ?_
  ·rintro j ys H8 ⟨_,rfl⟩
   rw [lM,List.length_take]
   omega
  ·rintro j v ys H8 hj ⟨rfl,rfl⟩
   rw [List.getElem?_map] at hj
   obtain⟨q,hqj,rfl⟩:=Option.map_eq_some_iff.mp hj
   obtain⟨w,hwj,_,_,_,U,t1,_⟩:=Ea hW hqj
   refine⟨q.2,_,rfl,eQ.of (t7 (s5' _ _ t1)),rfl,_,_,rfl,_,_,rfl,rfl,rfl,?_⟩
   refine yes ⟨_,rfl,rfl,?_⟩
   rw [List.take_succ,hwj,Option.toList_some,List.map_append]
   rfl
  rintro ys H8 ⟨rfl,rfl⟩ p np
  rw [lM,lw,List.take_length]
  have s8:=aB (o:=.lst (ws.map fun w=>V.str w.1.name)) np
  have np5:H5 p=none:=by
   cases e:H5 p with
   | none=>rfl
   | some o=>
    have h1:p≠r:=fun z=>by
     obtain⟨_,_,y1,_⟩:=R7
     rw [<-z,np] at y1
     cases y1.1
    rw [<-m7 p h1 (W7.cell np),np] at e
    cases e
  have c8:aM (bB (r:: A.cells ls ps) H) (bB (r:: A.cells ls ps) (upd H8 p (.lst (ws.map fun w=>V.str w.1.name)))):=c7.trans (Tj np)
  refine k _ p c8 ⟨R7.same s8,Nc.same c8,?_,nrf⟩ (s5.free np5) (by rw [az,hws])
  unfold jj
  rw [<-hws]
  exact W7.same s8
inductive FP (K:PySem.W.Frag) (vs:List V) (H:Hp) (Q:VK) (E:XK):Prop where
 | mk:∀(a:Addr) (ws:List Int),vs=[.ref a]->bI K H a (ws.map V.int)->ws.length<=300->((∀v∈ws,0<=v/\v <1000000000))->(∀H',aM H H'->Q (.bl true) H')->FP K vs H Q E
theorem O3 (T:Txt w K mg t):FO P w K mg base 3 t.JC ["thing"] (FP K):=by
 have sc:=T.Ci.sc ["thing"]
 refine T.Ci.F.ok sc ln (fun _ _ _ _ H vs Q E hr h=>?_)
 obtain⟨a,ws,rfl,hS,hl,hB,k⟩:=h
 refine⟨_,(aA (aN (zz (bf xU (by rfl) T.oA lD (aa (pv 0) (aa (BL (by rfl) T.pB j0) ak aj) aj)) (zz (vI wL (bf bN (by rfl) T.dX cH (aa (pv 0) ak aj)) (jw (by rfl) T.Fp) (bC _)) (zL (bf (xT rfl) (by rfl) T.NQ Ia (aa (iT [] ["thing"] (bc (top 58)) rfl (b8 (pv 0)) (fun _ _ _ _ _=>jr) (fun _ _ _ _ _=>(dZ (uR T) T.oX hr (aa (pv 0) ak aj)))) ak fU))))))),?_⟩
 have hz:sizeLine=16777216:=sizeLine_eq
 refine⟨_,rfl,_,_,_,_,rfl,.inl ⟨rfl,_,hS⟩,by decide,rfl,_,rfl,gj ?_⟩
 refine⟨_,rfl,_,(ws.map V.int).length,rfl,.inl ⟨_,hS,by simp⟩,_,_,rfl,rfl,_,rfl,?_⟩
 rw [lM,decide_eq_true (show(ws.length:Int)<=300 by omega)]
 refine gj ?_
 refine⟨_,rfl,a,rfl,⟨_,hS⟩,jd (K:=K) (a:=a) (xs:=ws.map V.int) (fun j ys H'=>H'=H/\ys=(List.replicate j true).map V.bl) (by rw [lM];omega) ⟨rfl,rfl⟩ (fun j ys H' ⟨_,e⟩=>by rw [e];simp) (fun j ys H' _ ⟨e,_⟩=>by rw [e];exact hS) ?_ ?_⟩
 ·rintro j x ys H' hx ⟨rfl,rfl⟩
  rw [List.getElem?_map] at hx
  obtain⟨n,hn,rfl⟩:=Option.map_eq_some_iff.mp hx
  obtain⟨n0,n1⟩:=hB n (List.mem_of_getElem? hn)
  refine yes ⟨_,rfl,.int n,rfl,.inl ⟨n,rfl,rfl,?_⟩⟩
  rw [decide_eq_true n0,decide_eq_true n1,List.replicate_succ']
  simp
 rintro ys H' ⟨rfl,rfl⟩ D hD
 refine⟨D,List.replicate (ws.map V.int).length true,rfl,bI.of az,?_⟩
 rw [show(List.replicate (ws.map V.int).length true).all id=true by simp]
 exact k _ (aB hD)
structure K8 (ps:List PD) (RW:List (Str×Addr×List Int)):Prop where
 door:∀q∈RW,V.str q.1∈dF ps "give"
 bnd:∀q∈RW,∀v∈q.2.2,0<=v/\v <1000000000
theorem Ge {ls:List aG} {ps:List PD} {RW:List (Str×Addr×List Int)} (F:vh ls ps) (hl:∀q∈RW,q.2.2.length<=300) (hb:∀q∈RW,∀v∈q.2.2,0<=v/\v <1000000000):KN 199 ls ps (cG ls ps RW):=by
 have rq:∀x,rE RW x=[]∨∃q∈RW,rE RW x=q.2.2:=fun x=>by
  unfold rE
  cases e:RW.find? fun q=>decide (q.1=x) with
  | none=>exact .inl rfl
  | some q=>exact .inr ⟨q,List.mem_of_find?_eq_some e,rfl⟩
 refine⟨fun l h v hv=>?_,fun p hp h0 v hv=>?_,fun p hp h0=>Nat.zero_le _,fun l h=>?_,fun p hp h0=>?_⟩
 ·have e:(cG ls ps RW).ev l.name=l.first:=ud F.whole.nod h
  rw [e] at hv
  exact(F.lok l h).2.2.2 v hv
 ·rcases rq p.name with e | ⟨q,hq,e⟩
  ·rw [show(cG ls ps RW).r p.name=[] from e] at hv
   cases hv
  ·rw [show(cG ls ps RW).r p.name=q.2.2 from e] at hv
   exact hb q hq v hv
 ·have e:(cG ls ps RW).ev l.name=l.first:=ud F.whole.nod h
  rw [e]
  have:=F.lok l h
  omega
 ·rcases rq p.name with e | ⟨q,hq,e⟩
  ·rw [show(cG ls ps RW).r p.name=[] from e]
   exact Nat.zero_le _
  ·rw [show(cG ls ps RW).r p.name=q.2.2 from e]
   exact hl q hq
inductive ym (K:PySem.W.Frag) (t:jN) (vs:List V) (H:Hp) (Q:VK) (E:XK):Prop where
 | mk:∀(n rw:Addr) (ls:List aG) (ps:List PD) (RW:List (Str×Addr×List Int)),vs=[.ref n,.ref rw]->iK K t H n ls ps->jX H rw RW->K8 ps RW->(∀H',aM H H'->Q .non H')->ym K t vs H Q E
theorem Jj (T:Txt w K mg t):FO P w K mg base 4 t.An ["net", "rows"] (ym K t):=by
 have sc:=T.uN.sc ["net", "rows", "doors", "door"]
 refine T.uN.F.ok sc ln (fun _ _ _ _ H vs Q E hr h=>?_)
 obtain⟨n,rw,ls,ps,RW,rfl,N,hrw,hO,k⟩:=h
 refine⟨_,(au (sN sc 2 (Sd (pv 0) T.bu T.bu.me.2.2.2.2.1 (rY T) T.lX hr))
  (au (zj (H0:=H) rfl (dD PassesOwn.never rfl (yK (pv 1)) (gN sc 3)
   (aA (bR (aW jf (pv 3) (pv 2) (by with_unfolding_all rfl))
    (aA dO)
    aZ))))
  (aA (zj (H0:=H) rfl (dD PassesOwn.never rfl (yK (pv 1)) (gN sc 3)
   (aA (bR (kJ (jo (dZ (O3 T) T.Ci hr (aa (bV hr.u1 (pv 1) (pv 3) (fun _ _=>rfl)) ak aD))))
    (aA dO)
    aZ))))))),?_⟩
 have hz:sizeLine=16777216:=sizeLine_eq
 obtain⟨dxn,fsn,R,F,Pd,Gn,Tk,FL,PL,Wn⟩:=id N
 refine⟨_,rfl,n,dxn,fsn,rfl,Wn.obj,Wn.fl.no _ (by decide +kernel),n,ls,ps,rfl,N,fun l nl=>?_⟩
 have s1:=aB (o:=.lst (dF ps "give")) nl
 have el:upd H l (.lst (dF ps "give")) l=some (.lst (dF ps "give")):=az
 generalize upd H l (.lst (dF ps "give"))=H1 at s1 el ⊢
 have fl:(dF ps "give").all mF=true:=by
  rw [List.all_eq_true]
  intro v hv
  obtain⟨p,_,rfl⟩:=List.mem_map.mp hv
  rfl
 have w1:=hrw.same s1
 have nf:∀(o':Obj) (u':HO),H rw≠some (.frz o' u'):=fun o' u' z=>by rw [hrw.dict] at z;cases z
 refine⟨_,rfl,rw,_,rfl,w1.dict,fun o=>yg (fun j σ H'=>H'=upd H1 rw (.frz o (.dK (jP RW)))/\∃v3,σ=[some (.ref n),some (.ref rw),some (.ref l),v3]) ⟨rfl,none,rfl⟩ (fun j σ H' _ ⟨e,_⟩=>by rw [e];exact az) ?_ ?_⟩
 ·rintro j kk v σ H' hj ⟨rfl,v3,rfl⟩
  unfold jP at hj
  rw [List.getElem?_map] at hj
  obtain⟨q,hq,e⟩:=Option.map_eq_some_iff.mp hj
  cases e
  refine⟨_,rfl,_,rfl,l,_,rfl,.inl (bI.of (jK w1.dict el (by intro _ z;cases z))),rfl,fl,_,rfl,?_⟩
  have hin:inV (kV (Sum.inr q.1)) (dF ps "give")=true:=Mj (hO.door q (List.mem_of_getElem? hq)) (by simp [Gs,kV])
  rw [hin]
  exact dz ⟨rfl,_,rfl⟩
 rintro σ H' ⟨rfl,v3,rfl⟩
 refine⟨_,⟨rw,o,_,az,nf,rfl⟩,?_⟩
 rw [sZ,Jh w1.dict]
 refine⟨_,rfl,rw,_,rfl,w1.dict,fun o=>yg (fun j σ H'=>aM (upd H1 rw (.frz o (.dK (jP RW)))) H'/\∃v3,σ=[some (.ref n),some (.ref rw),some (.ref l),v3]) ⟨aM.refl _,v3,rfl⟩ (fun j σ H' _ ⟨e,_⟩=>e _ _ az) ?_ ?_⟩
 ·rintro j kk v σ H' hj ⟨s2,v3,rfl⟩
  unfold jP at hj
  rw [List.getElem?_map] at hj
  obtain⟨q,hq,e⟩:=Option.map_eq_some_iff.mp hj
  cases e
  have hm:=List.mem_of_getElem? hq
  have vq:cg (jP RW) (Sum.inr q.1)=some (.ref q.2.1):=gZ (by rw [xj];exact fJ hrw.nd) (List.mem_map.mpr ⟨q,hm,rfl⟩)
  have eq2:=s2 _ _ (jK w1.dict (w1.lists q hm) (by intro _ z;cases z))
  refine⟨_,rfl,_,rfl,rw,_,rfl,(by rw [<-vq];exact .inl ⟨_,Sum.inr q.1,.inr ⟨o,s2 _ _ az⟩,rfl,rfl⟩),q.2.1,q.2.2,rfl,bI.of eq2,hrw.len q hm,hO.bnd q hm,fun H3 s3=>⟨_,rfl,dz ⟨s2.trans s3,_,rfl⟩⟩⟩
 rintro σ H' ⟨s2,v3,rfl⟩
 refine⟨_,⟨rw,o,_,s2 _ _ az,nf,rfl⟩,?_⟩
 refine k _ fun b u e=>?_
 by_cases hb:b=rw
 ·subst hb
  rw [az]
  rw [hrw.dict] at e
  exact e
 ·rw [aH hb]
  exact s2 _ _ (by rw [aH hb];exact s1 _ _ e)
theorem Qq {H:Hp} {Q:VK} {Ex:XK} {H0:Hp} {f dx n rw:Addr} {ls:List aG} {ps:List PD} {RW:List (Str×Addr×List Int)} (hf:H f=some (.ins t.cB dx [])) (s0:aM H0 H) (nf:H0 f=none) (N:iK K t H0 n ls ps) (hrw:jX H0 rw RW)
  (k:∀(H':Hp) (A:pN),A.f=f->A.n=n->lQ f H H'->eN K t H' A ls ps (cG ls ps RW)->(∀a∈A.cells ls ps,H a=none)->Q .non H'):gh K t [.ref f,.ref n,.ref rw] H Q Ex:=by
 unfold gh
 exact⟨H0,f,dx,n,rw,ls,ps,RW,rfl,hf,s0,nf,N,hrw,k⟩
inductive qZ (K:PySem.W.Frag) (t:jN) (vs:List V) (H:Hp) (Q:VK):Prop where
 | mk:∀(H0:Hp) (r dx n rw:Addr) (ls:List aG) (ps:List PD) (RW:List (Str×Addr×List Int)),vs=[.ref r,.ref n,.ref rw]->H r=some (.ins t.pJ dx [])->aM H0 H->H0 r=none->iK K t H0 n ls ps->jX H0 rw RW->K8 ps RW->(∀H' A,A.n=n->aM H0 H'->yR K t H' r 0 A ls ps (cG ls ps RW)->(∀a∈A.cells ls ps,H0 a=none)->Q .non H')->qZ K t vs H Q
@[irreducible] noncomputable def gW (K:PySem.W.Frag) (t:jN):Sp:=fun vs H Q _=>qZ K t vs H Q
theorem Bj (T:Txt w K mg t):FO P w K mg base 6 t.pq ["self", "net", "rows"] (gW K t):=by
 have sc:=T.jZ.sc ["self", "net", "rows"]
 refine T.jZ.F.ok sc (fun vs H Q E h=>?_) (fun cdv A outer s H vs Q E hr h=>?_)
 ·unfold gW at h
  obtain⟨H0,r,dx,n,rw,ls,ps,RW,rfl,_⟩:=h
  rfl
 ·unfold gW at h
  obtain⟨H0,r,dx,n,rw,ls,ps,RW,rfl,hr1,s0,nr0,N,hrw,hO,k⟩:=h
  refine⟨_,(au (bL (dZ (Jj T) T.uN hr (aa (pv 1) (aa (pv 2) ak aj) aj)))
   (au (ik (pv 0) (pv 1) rfl)
   (au (ik (pv 0) (iw (T.aU.M T.jC) (zN T) (hr.mono (by decide)) (by rfl) T.aU.m T.jC.b .nil iy (aa (pv 1) (aa (pv 2) ak aj) aj)) rfl)
   (aA (ik (pv 0) aq rfl))))),?_⟩
  refine⟨_,rfl,_,rfl,n,rw,ls,ps,RW,rfl,N.same s0,hrw.same s0,hO,fun H1 s1=>?_⟩
  have T0:=(Tr.start hr1).same s1
  refine⟨_,rfl,_,rfl,r,_,dx,[],rfl,s1 _ _ hr1,T.bZ.c,T.bZ.na.1,by show 0 <1000;decide,?_⟩
  have T1:=T0.put (L1:=[]) (L2:=[]) (o':=.ins t.pJ dx (aJ "net" (.ref n) []))
  generalize upd H1 r (.ins t.pJ dx (aJ "net" (.ref n) []))=H2 at T1 ⊢
  have s02:aM H0 H2:=fun x o e=>T1.but x o (aF e nr0) (s0 x o e)
  have er2:=T1.all (r,.ins t.pJ dx (aJ "net" (.ref n) [])) (.head _)
  refine⟨_,rfl,_,rfl,fun f dxf nf ndf nef=>?_⟩
  have s3:aM H2 (upd (upd H2 dxf (.own f)) f (.ins t.cB dxf [])):=fun b o e=>by rw [aH (aF e nf),aH (aF e ndf)];exact e
  have ef:(upd (upd H2 dxf (.own f)) f (.ins t.cB dxf [])) f=some (.ins t.cB dxf []):=az
  generalize upd (upd H2 dxf (.own f)) f (.ins t.cB dxf [])=H3 at s3 ef ⊢
  have s03:=s02.trans s3
  have nfr:r≠f:=aF er2 nf
  refine Qq ef s03 (s02.free nf) N hrw fun H4 A eAf eAn b4 W4 fr4=>⟨rfl,?_⟩
  subst eAf
  subst eAn
  have er4:=b4 r _ nfr (s3 _ _ er2)
  have nrc:r∉A.cells ls ps:=W4.ncell er4 (by intro _ z;cases z) (by intro _ z;cases z)
  refine⟨_,rfl,r,_,dx,_,rfl,er4,T.bZ.c,T.bZ.na.2.1,Nat.lt_of_le_of_lt (ie (Nat.zero_le 0)) (by decide),?_⟩
  have er5:upd H4 r (.ins t.pJ dx (aJ "flow" (.ref A.f) (aJ "net" (.ref A.n) []))) r=some (.ins t.pJ dx (aJ "flow" (.ref A.f) (aJ "net" (.ref A.n) []))):=az
  refine⟨_,rfl,r,_,dx,_,rfl,er5,T.bZ.c,T.bZ.na.2.2.1,Nat.lt_of_le_of_lt (ie (ie (Nat.zero_le 0))) (by decide),?_⟩
  rw [sZ]
  have s05:∀o:HO,aM H0 (upd H4 r o):=fun o b u e=>by
   rw [aH (aF e nr0)]
   exact b4 b u (aF e (s02.free nf)) (s03 b u e)
  have fr0:∀a∈A.cells ls ps,H0 a=none:=fun a ha=>s03.free (fr4 a ha)
  refine k _ A rfl (s05 _) ⟨⟨dx,_,⟨az,ie (ie (ie (Nat.zero_le 0)))⟩,⟨?_,?_⟩⟩,N.same fun b u e=>?_,W4.ins nrc nfr,nfr⟩ fr0
  ·intro q hq
   simp only [List.mem_cons,List.not_mem_nil,or_false] at hq
   rcases hq with rfl | rfl | rfl
   ·dsimp only;(repeat first | (rw [aC,if_pos rfl];done) | rw [aC,if_neg (by decide +kernel)])
   ·dsimp only;(repeat first | (rw [aC,if_pos rfl];done) | rw [aC,if_neg (by decide +kernel)])
   ·dsimp only
    rw [aC,if_pos rfl]
    rfl
  ·intro m hm
   have hne:∀m∈(["step", "need_doors", "next_deed", "full_lane", "can_work", "works", "lane_now", "turn", "had", "taken"]:List Str),∀g∈(["turns", "flow", "net"]:List Str),¬m=g:=by decide +kernel
   have h:=hne m hm
   rw [aC,if_neg (h _ (by simp)),aC,if_neg (h _ (by simp)),aC,if_neg (h _ (by simp))]
   rfl
  ·have hn:b∉r:: A.cells ls ps:=fun z=>by
    rcases List.mem_cons.mp z with z | z
    ·rw [z,nr0] at e;cases e
    ·rw [fr0 b z] at e;cases e
   unfold bB
   rw [if_neg hn]
   exact s05 _ b u e
theorem ye (xs:List V) (g:Nat):xK xs none (some (g:Int))=xs.take g:=by
 unfold xK
 rw [HT.yd,HT.vC,List.drop_zero,Nat.sub_zero]
 rcases Nat.le_total g xs.length with h | h
 ·rw [Nat.min_eq_left h]
 ·rw [Nat.min_eq_right h,List.take_of_length_le h,List.take_of_length_le (Nat.le_refl _)]
inductive tM (K:PySem.W.Frag) (t:jN) (vs:List V) (H:Hp) (Q:VK) (E_:XK):Prop where
 | mk:∀(f n E G Kp D Rw l:Addr) (ed gd:List (Key×V)) (x:Str) (vs':List V) (g:Nat),vs=[.ref f,.str x]->pA K t H f n E G Kp D Rw->H E=some (.dK ed)->H G=some (.dK gd)->cg ed (Sum.inr x)=some (.ref l)->cg gd (Sum.inr x)=some (.int g)->bI K H l vs'->(∀p,H p=none->Q (.ref p) (upd H p (.lst (vs'.take g))))->tM K t vs H Q E_
theorem Bs (T:Txt w K mg t):FO P w K mg base 1 t.pF ["self", "lane"] (tM K t):=by
 have sc:=T.o7.sc ["self", "lane"]
 refine T.o7.F.ok sc ln (fun _ _ _ _ H vs Q E hr h=>?_)
 obtain⟨f,n,E,G,Kp,D,Rw,l,ed,gd,x,vs',g,rfl,N,hE,hG,h3,h4,h5,k⟩:=h
 refine⟨_,(aA (aN (iU nj (bV hr.u1 (bh (pv 0) rfl) (pv 1) (fun _ _=>rfl)) lN (jE (bV hr.u1 (bh (pv 0) rfl) (pv 1) (fun _ _=>rfl)))))),?_⟩
 obtain⟨dx,fs,h1,h2⟩:=id N.ex
 refine⟨_,rfl,f,_,dx,fs,_,rfl,h1,T.aU.c,T.aU.na.2.1,h2.has ("ever",.ref E) (by simp),_,rfl,E,_,rfl,(by rw [<-h3];exact d7.k (k:=Sum.inr x) hE),?_⟩
 refine⟨_,rfl,f,_,dx,fs,_,rfl,h1,T.aU.c,T.aU.na.2.2.1,h2.has ("gone",.ref G) (by simp),_,rfl,G,_,rfl,(by rw [<-h4];exact d7.k (k:=Sum.inr x) hG),?_⟩
 refine⟨_,rfl,l,vs',rfl,h5,fun p hp=>?_⟩
 rw [ye]
 exact k p hp
inductive Do (K:PySem.W.Frag) (t:jN) (vs:List V) (H:Hp) (Q:VK) (E:XK):Prop where
 | mk:∀(r:Addr) (n:Nat) (A:pN) (ls:List aG) (ps:List PD) (S:FS) (l:aG),vs=[.ref r,.str l.name]->pP t H r A.n A.f n->iK K t H A.n ls ps->eN K t H A ls ps S->l∈ls->(∀H' p,aM H H'->H p=none->H' p=some (.lst ((S.ev l.name).map V.int))->Q (.ref p) H')->Do K t vs H Q E
theorem Cr (T:Txt w K mg t):FO P w K mg base 3 t.zK ["self", "name"] (Do K t):=by
 have sc:=T.vo.sc ["self", "name"]
 refine T.vo.F.ok sc ln (fun _ _ _ _ H vs Q E hr h=>?_)
 obtain⟨r,n,A,ls,ps,S,l,rfl,hR,N,W,hl,k⟩:=h
 refine⟨_,(au (bL (wQ (bh (pv 0) rfl) T.bu T.bu.me.2.2.2.2.2.2.1 (fB T) T.dH hr (aa (pv 1) ak aj)))
  (aA (aN (dg jU (by rfl) T.pB j0 (aa (bV hr.u1 (bh (bh (pv 0) rfl) rfl) (pv 1) (fun _ _=>rfl)) ak aD))))),?_⟩
 obtain⟨dxn,fsn,R,F0,Pd,Gn,Tk,FL,PL,Wn⟩:=id N
 obtain⟨dxr,fsr,R0⟩:=id hR
 refine⟨_,rfl,r,_,dxr,fsr,_,rfl,R0.1.1,T.bZ.c,T.bZ.na.1,R0.2.has ("net",.ref A.n) (by simp),A.n,dxn,fsn,rfl,Wn.obj,Wn.fl.no _ (by decide +kernel),_,rfl,A.n,ls,ps,l.name,rfl,N,.inl ⟨List.mem_map.mpr ⟨l,hl,rfl⟩,fun H1 s1=>?_⟩⟩
 obtain⟨dxr,fsr,R1⟩:=hR.same s1
 have W1:=W.same s1
 obtain⟨dx,fs,h1,h2⟩:=id W1.at'.ex
 have va:=jA (ea:=A.ea) Wn.fit.whole.nod hl
 refine⟨_,rfl,r,_,dxr,fsr,_,rfl,R1.1.1,T.bZ.c,T.bZ.na.2.1,R1.2.has ("flow",.ref A.f) (by simp),A.f,_,dx,fs,_,rfl,h1,T.aU.c,T.aU.na.2.1,h2.has ("ever",.ref A.E) (by simp),_,rfl,A.E,_,rfl,(by rw [<-va];exact d7.k (k:=Sum.inr l.name) W1.ever),A.ea l.name,_,rfl,.inl (bI.of (W1.lists l hl)),fun p hp=>k _ p (s1.trans (aB hp)) (s1.free hp) az⟩
inductive yX (K:PySem.W.Frag) (t:jN) (vs:List V) (H:Hp) (Q:VK) (E:XK):Prop where
 | mk:∀(r:Addr) (n:Nat) (A:pN) (ls:List aG) (ps:List PD) (S:FS) (p:PD) (x:Str),vs=[.ref r,.str p.name]->pP t H r A.n A.f n->iK K t H A.n ls ps->eN K t H A ls ps S->p∈ps->p.kind=1->p.ins=[x]->(∀H' u,aM H H'->H u=none->H' u=some (.lst (((S.ev x).take (S.g x)).map V.int))->Q (.ref u) H')->yX K t vs H Q E
theorem Hs (T:Txt w K mg t):FO P w K mg base 4 t.uU ["self", "name"] (yX K t):=by
 have sc:=T.um.sc ["self", "name"]
 refine T.um.F.ok sc ln (fun _ _ _ _ H vs Q E hr h=>?_)
 obtain⟨r,n,A,ls,ps,S,p,x,rfl,hR,N,W,hp,h1k,ei,k⟩:=h
 refine⟨_,(au (bR (aW jf (pv 1) (Sd (bh (pv 0) rfl) T.bu T.bu.me.2.2.2.2.2.1 (yf T) T.pY hr) (by with_unfolding_all rfl))
   (aA dO)
   aZ)
  (aA (aN (wQ (bh (pv 0) rfl) T.aU T.aU.me.2.2.2.2.2.2.2.2.2.1 (Bs T) T.o7 hr (aa (aR cC (bh (wQ (bh (pv 0) rfl) T.bu T.bu.me.2.2.2.2.2.2.2.2.2.1 (iJ T) T.fV hr (aa (pv 1) ak aj)) rfl) aq (fun _ _=>rfl)) ak aD))))),?_⟩
 obtain⟨dxn,fsn,R,F0,Pd,Gn,Tk,FL,PL,Wn⟩:=id N
 have F:=Wn.fit
 obtain⟨dxr,fsr,R0⟩:=id hR
 obtain⟨l,hl,rfl⟩:=F.inL hp (show x∈p.ins ++ p.outs by rw [ei];simp)
 refine⟨_,rfl,_,rfl,r,_,dxr,fsr,_,rfl,R0.1.1,T.bZ.c,T.bZ.na.1,R0.2.has ("net",.ref A.n) (by simp),A.n,dxn,fsn,rfl,Wn.obj,Wn.fl.no _ (by decide +kernel),A.n,ls,ps,rfl,N,fun u nu=>?_⟩
 have s1:=aB (o:=.lst (dF ps "take")) nu
 have eu:upd H u (.lst (dF ps "take")) u=some (.lst (dF ps "take")):=az
 generalize upd H u (.lst (dF ps "take"))=H1 at s1 eu ⊢
 have fl:(dF ps "take").all mF=true:=by
  rw [List.all_eq_true]
  intro v hv
  obtain⟨p,_,rfl⟩:=List.mem_map.mp hv
  rfl
 refine⟨u,_,rfl,.inl (bI.of eu),rfl,fl,_,rfl,?_⟩
 rw [Mj (x:=.str p.name) (xs:=dF ps "take") (List.mem_map.mpr ⟨p,List.mem_filter.mpr ⟨hp,by rw [h1k];rfl⟩,rfl⟩) (by simp [Gs])]
 refine dz ?_
 obtain⟨dxr,fsr,R1⟩:=hR.same s1
 have W1:=W.same s1
 obtain⟨dx,fs,h1,h2⟩:=id W1.at'.ex
 have Wn1:=Wn.same s1
 refine⟨_,rfl,r,_,dxr,fsr,_,rfl,R1.1.1,T.bZ.c,T.bZ.na.2.1,R1.2.has ("flow",.ref A.f) (by simp),A.f,dx,fs,rfl,h1,h2.no _ (by decide +kernel),_,rfl,r,_,dxr,fsr,_,rfl,R1.1.1,T.bZ.c,T.bZ.na.1,R1.2.has ("net",.ref A.n) (by simp),A.n,dxn,fsn,rfl,Wn1.obj,Wn1.fl.no _ (by decide +kernel),_,rfl,A.n,ls,ps,p.name,rfl,Wn1.s,.inl ⟨p,hp,rfl,fun H2 q s2 P2=>?_⟩⟩
 obtain⟨dxp,tn,ti,to,p1,p2,p3,p4⟩:=id P2.ex
 have W2:=W1.same s2
 refine⟨q,_,dxp,_,_,rfl,p1,ir T p.kind,xn T p.kind,rG _ _ _ _,ti,p.ins.map V.str,0,.str l.name,rfl,rfl,p3,by rw [ei];exact aK (j:=0) rfl,?_⟩
 refine⟨A.f,A.n,A.E,A.G,A.Kp,A.D,A.Rw,A.ea l.name,_,_,l.name,_,_,rfl,W2.at',W2.ever,W2.gone,jA F.whole.nod hl,oN F.whole.nod hl,bI.of (W2.lists l hl),fun v hv=>?_⟩
 rw [<-List.map_take]
 exact k _ v ((s1.trans s2).trans (aB hv)) ((s1.trans s2).free hv) az
noncomputable def Px (i:Nat) (hs:List V):Option (List Nat):=if ((places i hs).find? (j6 hs)).isSome then none else some (places i hs)
theorem Om:∀i,i <11->decide (V.str (cL i)=V.str "choose")=decide (i=9):=by decide +kernel
theorem Xa {r:List V}:Px 9 (V.non:: r)=none:=by unfold Px;simp [places,j6]
theorem XH {n:Int} {r:List V} {v:V} (hv:(V.int n:: r)[1+(n % 2).toNat]?=some v):Px 9 (V.int n:: r)=if v=.non then none else some [0,1+(n % 2).toNat]:=by
 have e:places 9 (V.int n:: r)=[0,1+(n % 2).toNat]:=rfl
 unfold Px
 rw [e]
 have l0:j6 (V.int n:: r) 0=false:=by unfold j6;simp
 have l1:j6 (V.int n:: r) (1+(n % 2).toNat)=decide (v=.non):=by unfold j6;rw [hv];simp
 rw [List.find?_cons_of_neg (by simp [l0]),List.find?_cons,l1]
 by_cases h:v=.non
 ·simp [h]
 ·simp [h]
theorem V5 {hs:List V}:inV .non hs=decide (V.non∈hs):=by
 rw [Bool.eq_iff_iff,decide_eq_true_iff]
 unfold inV
 rw [List.any_eq_true]
 constructor
 ·rintro⟨v,hv,e⟩
  cases v <;> simp [Gs] at e
  exact hv
 ·intro h
  exact⟨_,h,rfl⟩
theorem Yg {i:Nat} (h9:i≠9) (hs:List V):Px i hs=if V.non∈hs then none else some (List.range hs.length):=by
 have e:places i hs=List.range hs.length:=by unfold places;rw [if_neg h9]
 unfold Px
 rw [e]
 by_cases h:V.non∈hs
 ·rw [if_pos h,if_pos]
  obtain⟨j,hj,ej⟩:=List.mem_iff_getElem.mp h
  rw [List.find?_isSome]
  exact⟨j,List.mem_range.mpr hj,by unfold j6;rw [List.getElem?_eq_getElem hj,ej];simp⟩
 ·rw [if_neg h,if_neg]
  rw [List.find?_isSome]
  rintro⟨j,hj,e⟩
  have hj:=List.mem_range.mp hj
  unfold j6 at e
  rw [List.getElem?_eq_getElem hj] at e
  exact h (by have:=of_decide_eq_true e;rw [<-Option.some.inj this];exact List.getElem_mem hj)
inductive tQ (K:PySem.W.Frag) (vs:List V) (H:Hp) (Q:VK):Prop where
 | mk:∀(i:Nat) (a:Addr) (hs:List V),vs=[.str (cL i),.ref a]->i <11->bI K H a hs->rP i hs->((Px i hs=none->∀H',aM H H'->Q .non H'))->(∀qs,Px i hs=some qs->∀H' L,aM H H'->H L=none->H' L=some (.lst (qs.map nV))->Q (.ref L) H')->tQ K vs H Q
@[irreducible] noncomputable def iR (K:PySem.W.Frag):Sp:=fun vs H Q _=>tQ K vs H Q
theorem CQ (T:Txt w K mg t):FO P w K mg base 1 t.wg ["_law_kind", "_law_heads_here"] (iR K):=by
 have sc:=T.qH.sc ["_law_kind", "_law_heads_here"]
 refine T.qH.F.ok sc (fun vs H Q E h=>?_) (fun cdv A outer s H vs Q E hr h=>?_)
 ·unfold iR at h
  obtain⟨i,a,hs,rfl,_⟩:=h
  rfl
 ·unfold iR at h
  obtain⟨i,a,hs,rfl,hi,hS,hO,kn,k⟩:=h
  refine⟨_,(au (bR (aW dU (pv 0) bK (bC _))
    (au (bR (PW.pt (rF (il (uM (aR aO (pv 1) aq (fun _ _=>rfl)))) (kj (il (uM (aR aO (pv 1) (aX dh aq (aX bW (aR aO (pv 1) aq (fun _ _=>rfl)) aq)) (fun _ _=>rfl)))))))
     (aA (aN qx))
     aZ)
    (aA (aN (bw (aa aq (aa (aX dh aq (aX bW (aR aO (pv 1) aq (fun _ _=>rfl)) aq)) ak bO) ao)))))
    aZ)
   (au (bR (aW FW qx (pv 1) (by with_unfolding_all rfl))
    (aA (aN qx))
    aZ)
   (aA (aN (dg (wX rfl) (by rfl) T.pB j0 (aa (dg Bg (by rfl) T.lF Kl (aa (bf bN (by rfl) T.dX cH (aa (pv 1) ak aj)) ak aY)) ak aY)))))),?_⟩
  have hz:sizeLine=16777216:=sizeLine_eq
  refine⟨_,rfl,rfl,_,rfl,?_⟩
  rw [Om i hi]
  by_cases h9:i=9
  ·subst h9
   rw [decide_eq_true rfl]
   refine gj ?_
   match hs,hO with
   | [x,y,z],hO=>
   rcases hO.2 x (by simp) with rfl | ⟨m,rfl⟩
   ·exact⟨_,rfl,a,_,0,_,rfl,rfl,hS,rfl,_,rfl,gj (gj (kn Xa _ (aM.refl _)))⟩
   have h0:=Int.emod_nonneg m (show(2:Int)≠0 by decide)
   have h1:=Int.emod_lt_of_pos m (show(0:Int) <2 by decide)
   obtain⟨v,hv⟩:∃v,([V.int m,y,z]:List V)[1+(m % 2).toNat]?=some v:=⟨_,List.getElem?_eq_getElem (by show 1+(m % 2).toNat <3;omega)⟩
   have ev:=XH (r:=[y,z]) hv
   have ix:Es [V.int m,y,z] (1+m % 2)=some v:=by
    rw [show(1+m % 2:Int)=((1+(m % 2).toNat:Nat):Int) by omega]
    exact aK hv
   refine⟨_,rfl,a,_,0,_,rfl,rfl,hS,rfl,_,rfl,dz ?_⟩
   refine⟨_,rfl,_,rfl,a,_,0,_,rfl,rfl,hS,rfl,_,_,rfl,rfl,by show(0:Int) <2;decide,_,_,rfl,rfl,a,_,_,v,rfl,rfl,hS,ix,_,rfl,?_⟩
   by_cases hn:v=.non
   ·rw [decide_eq_true hn]
    exact gj (kn (by rw [ev,if_pos hn]) _ (aM.refl _))
   ·rw [decide_eq_false hn]
    refine dz ?_
    refine⟨_,rfl,a,_,0,_,rfl,rfl,hS,rfl,_,_,rfl,rfl,by show(0:Int) <2;decide,_,_,rfl,rfl,jl,fun L nL=>?_⟩
    refine k _ (by rw [ev,if_neg hn]) _ L (aB nL) nL ?_
    rw [az]
    show some (HO.lst [V.int 0,V.int (1+m % 2)])=some (.lst [nV 0,nV (1+(m % 2).toNat)])
    unfold nV
    rw [show((1+(m % 2).toNat:Nat):Int)=1+m % 2 by omega]
    rfl
  rw [decide_eq_false h9]
  refine dz ?_
  have e:=Yg h9 hs
  have hfl:hs.all mF=true:=by
   rw [List.all_eq_true]
   intro v hv
   rcases hO.2 v hv with rfl | ⟨_,rfl⟩ <;> rfl
  refine⟨_,rfl,a,_,rfl,.inl hS,rfl,hfl,_,rfl,?_⟩
  rw [V5]
  by_cases hn:V.non∈hs
  ·rw [decide_eq_true hn]
   exact gj (kn (by rw [e,if_pos hn]) _ (aM.refl _))
  ·rw [decide_eq_false hn]
   refine dz ?_
   have h3:hs.length<=3:=by have:=hO.1;have:=vV i;omega
   refine⟨_,rfl,_,hs.length,rfl,.inl ⟨_,hS,rfl⟩,_,rfl,fun r nr=>⟨r,hs.length,rfl,az,by omega,fun L nL=>?_⟩⟩
   exact k _ (by rw [e,if_neg hn]) _ L ((aB nr).trans (aB nL)) ((aB nr).free nL) (by rw [az];rfl)
theorem e9:(10:Int) ^ (9:Int).toNat=1000000000:=by decide
inductive pX (K:PySem.W.Frag) (vs:List V) (H:Hp) (Q:VK) (E:XK):Prop where
 | mk:∀(i:Nat) (a:Addr) (v w:Int) (kp:Int),vs=[.str (cL i),.ref a]->6<=i->i <11->bI K H a [.int v,.int w]->(∀H' L rs,aM H H'->H L=none->H' L=some (.lst (rs.map V.ref))->gB H' rs (BK (cz i [] [v,w] kp))->Q (.ref L) H')->pX K vs H Q E
theorem zm (T:Txt w K mg t):FO P w K mg base 1 t.rn ["_law_kind", "_law_values"] (pX K):=by
 have sc:=T.kY.sc ["_law_kind", "_law_values", "_law_one", "_law_other"]
 refine T.kY.F.ok sc ln (fun _ _ _ _ H vs Q E hr h=>?_)
 obtain⟨i,a,v,w,kp,rfl,h6,hi,hS,k⟩:=h
 refine⟨_,(au (sN sc 2 (aR aO (pv 1) aq (fun _ _=>rfl)))
  (au (sN sc 3 (aR aO (pv 1) aq (fun _ _=>rfl)))
  (au (bR (aW dU (pv 0) bK (bC _))
   (aA (aN (bw (aa (bU (aa aq (aa (aX bW (aX dh (pv 2) (pv 3)) (aX xq aq aq)) ak bO) ao)) ak bQ))))
   aZ)
  (au (bR (aW dU (pv 0) bK (bC _))
   (aA (aN (bw (aa (bU (aa aq (aa (dg Oi (by rfl) T.U7 Qf (aa (vI tK (pv 2) (pv 3) (bC _)) ak Iw)) ak aY) ao)) ak bQ))))
   aZ)
  (au (bR (aW dU (pv 0) bK (bC _))
   (aA (aN (bw (aa (bU (aa aq (aa (bf (Pb rfl) (by rfl) T.UG Q5 (aa (pv 2) (aa (pv 3) ak aj) aj)) ak aY) ao)) (aa (bU (aa aq (aa (bf (vp rfl) (by rfl) T.JX Ej (aa (pv 2) (aa (pv 3) ak aj) aj)) ak aY) ao)) ak bQ) bQ))))
   aZ)
  (au (bR (aW dU (pv 0) bK (bC _))
   (aA (aN (bw (aa (bU (aa aq (aa (pv 3) ak aj) ao)) ak bQ))))
   aZ)
  (aA (aN (bw (aa (bU (aa (aX bW (pv 2) aq) (aa (pv 3) ak aj) bO)) ak bQ)))))))))),?_⟩
 have hz:sizeLine=16777216:=sizeLine_eq
 refine⟨_,rfl,a,_,0,_,rfl,rfl,hS,rfl,?_⟩
 refine⟨_,rfl,a,_,1,_,rfl,rfl,hS,rfl,?_⟩
 match i,h6,hi with
 | 6,_,_=>
  refine⟨_,rfl,rfl,_,rfl,gj ?_⟩
  exact⟨_,rfl,_,rfl,_,_,rfl,rfl,_,_,rfl,rfl,⟨by decide,by decide,by decide⟩,_,_,rfl,rfl,by show(0:Int) <10 ^ 9;decide,bT,fun t0 n0=>⟨one_le,fun L nL=>rC rfl (by rw [e9];rfl) k n0 nL⟩⟩
 | 7,_,_=>
  refine⟨_,rfl,rfl,_,rfl,bY (by decide +kernel) ?_⟩
  refine⟨_,rfl,rfl,_,rfl,kW rfl ?_⟩
  exact⟨_,rfl,_,rfl,_,_,rfl,rfl,.inr ⟨_,rfl,bT,fun t0 n0=>⟨one_le,fun L nL=>rC rfl (by show(if decide (v <w)=true then(1:Int) else 0)=if v <w then 1 else 0;by_cases z:v <w <;> simp [z]) k n0 nL⟩⟩⟩
 | 8,_,_=>
  refine⟨_,rfl,rfl,_,rfl,bY (by decide +kernel) ?_⟩
  refine⟨_,rfl,rfl,_,rfl,bY (by decide +kernel) ?_⟩
  refine⟨_,rfl,rfl,_,rfl,kW rfl ?_⟩
  exact⟨_,rfl,_,rfl,_,_,rfl,bT,fun t0 n0=>⟨_,rfl,_,rfl,_,_,rfl,bT,fun t1 n1=>⟨bT,fun L nL=>RV rfl rfl rfl (by show(if w >v then w else v)=if w <v then v else w;by_cases z:w <v <;> by_cases y:w >v <;> simp [z,y] <;> omega) k n0 n1 nL⟩⟩⟩
 | 9,_,_=>
  refine⟨_,rfl,rfl,_,rfl,bY (by decide +kernel) ?_⟩
  refine⟨_,rfl,rfl,_,rfl,bY (by decide +kernel) ?_⟩
  refine⟨_,rfl,rfl,_,rfl,bY (by decide +kernel) ?_⟩
  refine⟨_,rfl,rfl,_,rfl,kW rfl ?_⟩
  exact⟨_,rfl,bT,fun t0 n0=>⟨one_le,fun L nL=>rC rfl rfl k n0 nL⟩⟩
 | 10,_,_=>
  refine⟨_,rfl,rfl,_,rfl,bY (by decide +kernel) ?_⟩
  refine⟨_,rfl,rfl,_,rfl,bY (by decide +kernel) ?_⟩
  refine⟨_,rfl,rfl,_,rfl,bY (by decide +kernel) ?_⟩
  refine⟨_,rfl,rfl,_,rfl,bY (by decide +kernel) ?_⟩
  exact⟨_,rfl,_,_,rfl,rfl,by show(0:Int) <2;decide,_,rfl,bT,fun t0 n0=>⟨one_le,fun L nL=>rC rfl rfl k n0 nL⟩⟩
theorem Nx {H:Hp} {Q:VK} {a b x y kv kw:Int} (hx:x=a) (hy:y=b) (hk:kv=kw) (k:∀H' U L rs,aM H H'->H L=none->H' U=some (.tup [.ref L,.int kw])->H' L=some (.lst (rs.map V.ref))->gB H' rs (BK [(a,b)])->Q (.ref U) H') {t0 L U:Addr} (n0:H t0=none)
  (nL:(upd H t0 (.tup [.int x,.int y])) L=none) (nU:(upd (upd H t0 (.tup [.int x,.int y])) L (.lst [.ref t0])) U=none):Q (.ref U) (upd (upd (upd H t0 (.tup [.int x,.int y])) L (.lst [.ref t0])) U (.tup [.ref L,.int kv])):=by
 subst hx hy hk
 have s0:=aB (o:=.tup [.int x,.int y]) n0
 have s1:=aB (o:=.lst [.ref t0]) nL
 have s2:=aB (o:=.tup [.ref L,.int kv]) nU
 exact k _ U L [t0] (s0.trans (s1.trans s2)) (s0.free nL) az (s2 _ _ az) (.cons (s2 _ _ (s1 _ _ az)) .nil)
theorem Xh {H:Hp} {Q:VK} {x y u v kv:Int} (k:∀H' U L rs,aM H H'->H L=none->H' U=some (.tup [.ref L,.int kv])->H' L=some (.lst (rs.map V.ref))->gB H' rs (BK [(x,y),(u,v)])->Q (.ref U) H') {t0 t1 L U:Addr} (n0:H t0=none)
  (n1:(upd H t0 (.tup [.int x,.int y])) t1=none) (nL:(upd (upd H t0 (.tup [.int x,.int y])) t1 (.tup [.int u,.int v])) L=none) (nU:(upd (upd (upd H t0 (.tup [.int x,.int y])) t1 (.tup [.int u,.int v])) L (.lst [.ref t0,.ref t1])) U=none):
  Q (.ref U) (upd (upd (upd (upd H t0 (.tup [.int x,.int y])) t1 (.tup [.int u,.int v])) L (.lst [.ref t0,.ref t1])) U (.tup [.ref L,.int kv])):=by
 have s0:=aB (o:=.tup [.int x,.int y]) n0
 have s1:=aB (o:=.tup [.int u,.int v]) n1
 have s2:=aB (o:=.lst [.ref t0,.ref t1]) nL
 have s3:=aB (o:=.tup [.ref L,.int kv]) nU
 exact k _ U L [t0,t1] (s0.trans (s1.trans (s2.trans s3))) ((s0.trans s1).free nL) az (s3 _ _ az) (.cons (s3 _ _ (s2 _ _ (s1 _ _ az))) (.cons (s3 _ _ (s2 _ _ az)) .nil))
inductive wW (K:PySem.W.Frag) (vs:List V) (H:Hp) (Q:VK) (E:XK):Prop where
 | mk:∀(i:Nat) (a b:Addr) (ns ws:List Int) (kp:Int),vs=[.str (cL i),.ref b,.ref a,.int kp]->i <11->bI K H b (ns.map V.int)->ns.length=cN i->bI K H a (ws.map V.int)->ws.length=cV i->VR ws->(∀H' U L rs,aM H H'->H L=none->H' U=some (.tup [.ref L,.int (d9 i ws kp)])->H' L=some (.lst (rs.map V.ref))->gB H' rs (BK (cz i ns ws kp))->Q (.ref U) H')->wW K vs H Q E
noncomputable abbrev sS:List Str:=["_law_kind", "_law_numbers", "_law_values", "_law_kept"]
theorem Eu (T:Txt w K mg t):FO P w K mg base 2 t.yU sS (wW K):=by
 have sc:fG sS sS (bc (top 77)):=GX
 refine T.yp.F.ok sc ln (fun _ _ _ _ H vs Q E hr h=>?_)
 obtain⟨i,a,b,ns,ws,kp,rfl,hi,hN,ln,hS,lw,hB,k⟩:=h
 refine⟨_,(au (bR (aW dU (pv 0) bK (bC _))
   (aA (aN (bU (aa (bw ak) (aa (pv 3) ak aj) aV))))
   aZ)
  (au (bR (aW dU (bf bN (by rfl) T.dX cH (aa (pv 2) ak aj)) aq (bC _))
   (aA (aN (bU (aa (dZ (zm T) T.kY hr (aa (pv 0) (aa (pv 2) ak aj) aj)) (aa (pv 3) ak aj) aY))))
   aZ)
  (au (bR (aW dU (pv 0) bK (bC _))
   (aA (aN (bU (aa (bw (aa (bU (aa aq (aa (aR aO (pv 2) aq (fun _ _=>rfl)) ak aD) ao)) (aa (bU (aa aq (aa (aR aO (pv 2) aq (fun _ _=>rfl)) ak aD) ao)) ak bQ) bQ)) (aa (pv 3) ak aj) aV))))
   aZ)
  (au (bR (aW dU (pv 0) bK (bC _))
   (aA (aN (bU (aa (bw (aa (bU (aa aq (aa (aX bW (aX dh (aX jO (aR aO (pv 1) aq (fun _ _=>rfl)) (aR aO (pv 2) aq (fun _ _=>rfl))) (aR aO (pv 1) aq (fun _ _=>rfl))) (aX xq aq aq)) ak bO) ao)) ak bQ)) (aa (pv 3) ak aj) aV))))
   aZ)
  (au (bR (aW dU (pv 0) bK (bC _))
   (aA (aN (bU (aa (bw (aa (bU (aa aq (aa (aX bW (aX dh (pv 3) (aR aO (pv 2) aq (fun _ _=>rfl))) (aX xq aq aq)) ak bO) ao)) ak bQ)) (aa (aX bW (aX dh (pv 3) (aR aO (pv 2) aq (fun _ _=>rfl))) (aX xq aq aq)) ak bO) aV))))
   aZ)
  (aA (aN (bU (aa (bw (aa (bU (aa aq (aa (aR aO (pv 2) aq (fun _ _=>rfl)) ak aD) ao)) ak bQ)) (aa (pv 3) ak aj) aV))))))))),?_⟩
 have hz:sizeLine=16777216:=sizeLine_eq
 match i,hi with
 | 0,_=>
  match ws,lw,ns,ln with
  | [v],_,ns,_=>
   refine⟨_,rfl,rfl,_,rfl,bY (by decide +kernel) ?_⟩
   refine⟨_,rfl,_,1,rfl,.inl ⟨_,hS,rfl⟩,rfl,_,rfl,bY (by decide +kernel) ?_⟩
   refine⟨_,rfl,rfl,_,rfl,bY (by decide +kernel) ?_⟩
   refine⟨_,rfl,rfl,_,rfl,bY (by decide +kernel) ?_⟩
   refine⟨_,rfl,rfl,_,rfl,bY (by decide +kernel) ?_⟩
   exact⟨_,rfl,a,_,0,_,rfl,rfl,hS,rfl,bT,fun t0 n0=>⟨one_le,fun L nL=>⟨_,rfl,bT,fun U nU=>Nx rfl rfl rfl k n0 nL nU⟩⟩⟩
 | 1,_=>
  match ws,lw,ns,ln with
  | [v],_,ns,_=>
   refine⟨_,rfl,rfl,_,rfl,kW rfl ?_⟩
   exact⟨jl,fun L nL=>⟨_,rfl,bT,fun U nU=>k _ U L [] ((aB nL).trans (aB nU)) nL az (aB nU _ _ az) .nil⟩⟩
 | 2,_=>
  match ws,lw,ns,ln with
  | [v],_,ns,_=>
   refine⟨_,rfl,rfl,_,rfl,bY (by decide +kernel) ?_⟩
   refine⟨_,rfl,_,1,rfl,.inl ⟨_,hS,rfl⟩,rfl,_,rfl,bY (by decide +kernel) ?_⟩
   refine⟨_,rfl,rfl,_,rfl,bY (by decide +kernel) ?_⟩
   refine⟨_,rfl,rfl,_,rfl,bY (by decide +kernel) ?_⟩
   refine⟨_,rfl,rfl,_,rfl,bY (by decide +kernel) ?_⟩
   exact⟨_,rfl,a,_,0,_,rfl,rfl,hS,rfl,bT,fun t0 n0=>⟨one_le,fun L nL=>⟨_,rfl,bT,fun U nU=>Nx rfl rfl rfl k n0 nL nU⟩⟩⟩
 | 3,_=>
  match ws,lw,ns,ln with
  | [v],_,ns,_=>
   refine⟨_,rfl,rfl,_,rfl,bY (by decide +kernel) ?_⟩
   refine⟨_,rfl,_,1,rfl,.inl ⟨_,hS,rfl⟩,rfl,_,rfl,bY (by decide +kernel) ?_⟩
   refine⟨_,rfl,rfl,_,rfl,kW rfl ?_⟩
   exact⟨_,rfl,a,_,0,_,rfl,rfl,hS,rfl,bT,fun t0 n0=>⟨_,rfl,a,_,0,_,rfl,rfl,(aB n0).seq hS,rfl,bT,fun t1 n1=>⟨bT,fun L nL=>⟨_,rfl,bT,fun U nU=>Xh k n0 n1 nL nU⟩⟩⟩⟩
 | 4,_=>
  match ws,lw,ns,ln with
  | [v],_,[m,m1],_=>
   refine⟨_,rfl,rfl,_,rfl,bY (by decide +kernel) ?_⟩
   refine⟨_,rfl,_,1,rfl,.inl ⟨_,hS,rfl⟩,rfl,_,rfl,bY (by decide +kernel) ?_⟩
   refine⟨_,rfl,rfl,_,rfl,bY (by decide +kernel) ?_⟩
   refine⟨_,rfl,rfl,_,rfl,kW rfl ?_⟩
   exact⟨_,rfl,b,_,0,_,rfl,rfl,hN,rfl,_,rfl,a,_,0,_,rfl,rfl,hS,rfl,_,_,rfl,rfl,Yr hB (by simp),_,rfl,b,_,1,_,rfl,rfl,hN,rfl,_,_,rfl,rfl,_,_,rfl,rfl,⟨by decide,by decide,by decide⟩,_,_,rfl,rfl,by show(0:Int) <10 ^ 9;decide,bT,fun t0 n0=>⟨one_le,fun L nL=>⟨_,rfl,bT,fun U nU=>Nx rfl (by rw [e9];rfl) rfl k n0 nL nU⟩⟩⟩
 | 5,_=>
  match ws,lw,ns,ln with
  | [v],_,[m],_=>
   refine⟨_,rfl,rfl,_,rfl,bY (by decide +kernel) ?_⟩
   refine⟨_,rfl,_,1,rfl,.inl ⟨_,hS,rfl⟩,rfl,_,rfl,bY (by decide +kernel) ?_⟩
   refine⟨_,rfl,rfl,_,rfl,bY (by decide +kernel) ?_⟩
   refine⟨_,rfl,rfl,_,rfl,bY (by decide +kernel) ?_⟩
   refine⟨_,rfl,rfl,_,rfl,kW rfl ?_⟩
   exact⟨_,rfl,_,rfl,a,_,0,_,rfl,rfl,hS,rfl,_,_,rfl,rfl,_,_,rfl,rfl,⟨by decide,by decide,by decide⟩,_,_,rfl,rfl,by show(0:Int) <10 ^ 9;decide,bT,fun t0 n0=>⟨one_le,fun L nL=>⟨_,rfl,_,rfl,a,_,0,_,rfl,rfl,((aB n0).trans (aB nL)).seq hS,rfl,_,_,rfl,rfl,_,_,rfl,rfl,⟨by decide,by decide,by decide⟩,_,_,rfl,rfl,by show(0:Int) <10 ^ 9;decide,bT,fun U nU=>Nx rfl (by rw [e9];rfl) (by rw [e9];rfl) k n0 nL nU⟩⟩⟩
 | 6,_=>
  match ws,lw,ns,ln with
  | [v,v1],_,ns,_=>
   refine⟨_,rfl,rfl,_,rfl,bY (by decide +kernel) ?_⟩
   refine⟨_,rfl,_,2,rfl,.inl ⟨_,hS,rfl⟩,rfl,_,rfl,kW rfl ?_⟩
   refine⟨_,rfl,_,rfl,6,a,v,v1,kp,rfl,by omega,by omega,hS,fun H' L rs s nL eL tL=>⟨_,rfl,bT,fun U nU=>k _ U L rs (s.trans (aB nU)) nL az (aB nU _ _ eL) (gB.same (aB nU) tL)⟩⟩
 | 7,_=>
  match ws,lw,ns,ln with
  | [v,v1],_,ns,_=>
   refine⟨_,rfl,rfl,_,rfl,bY (by decide +kernel) ?_⟩
   refine⟨_,rfl,_,2,rfl,.inl ⟨_,hS,rfl⟩,rfl,_,rfl,kW rfl ?_⟩
   refine⟨_,rfl,_,rfl,7,a,v,v1,kp,rfl,by omega,by omega,hS,fun H' L rs s nL eL tL=>⟨_,rfl,bT,fun U nU=>k _ U L rs (s.trans (aB nU)) nL az (aB nU _ _ eL) (gB.same (aB nU) tL)⟩⟩
 | 8,_=>
  match ws,lw,ns,ln with
  | [v,v1],_,ns,_=>
   refine⟨_,rfl,rfl,_,rfl,bY (by decide +kernel) ?_⟩
   refine⟨_,rfl,_,2,rfl,.inl ⟨_,hS,rfl⟩,rfl,_,rfl,kW rfl ?_⟩
   refine⟨_,rfl,_,rfl,8,a,v,v1,kp,rfl,by omega,by omega,hS,fun H' L rs s nL eL tL=>⟨_,rfl,bT,fun U nU=>k _ U L rs (s.trans (aB nU)) nL az (aB nU _ _ eL) (gB.same (aB nU) tL)⟩⟩
 | 9,_=>
  match ws,lw,ns,ln with
  | [v,v1],_,ns,_=>
   refine⟨_,rfl,rfl,_,rfl,bY (by decide +kernel) ?_⟩
   refine⟨_,rfl,_,2,rfl,.inl ⟨_,hS,rfl⟩,rfl,_,rfl,kW rfl ?_⟩
   refine⟨_,rfl,_,rfl,9,a,v,v1,kp,rfl,by omega,by omega,hS,fun H' L rs s nL eL tL=>⟨_,rfl,bT,fun U nU=>k _ U L rs (s.trans (aB nU)) nL az (aB nU _ _ eL) (gB.same (aB nU) tL)⟩⟩
 | 10,_=>
  match ws,lw,ns,ln with
  | [v,v1],_,ns,_=>
   refine⟨_,rfl,rfl,_,rfl,bY (by decide +kernel) ?_⟩
   refine⟨_,rfl,_,2,rfl,.inl ⟨_,hS,rfl⟩,rfl,_,rfl,kW rfl ?_⟩
   refine⟨_,rfl,_,rfl,10,a,v,v1,kp,rfl,by omega,by omega,hS,fun H' L rs s nL eL tL=>⟨_,rfl,bT,fun U nU=>k _ U L rs (s.trans (aB nU)) nL az (aB nU _ _ eL) (gB.same (aB nU) tL)⟩⟩
noncomputable def Cu (RW:List (Str×Addr×List Int)) (x:Str) (a:Addr) (ws:List Int):List (Str×Addr×List Int):=if x∈RW.map (·.1) then RW.map (fun q=>if q.1=x then(x,a,ws) else q) else RW ++ [(x,a,ws)]
theorem Wd (RW:List (Str×Addr×List Int)) (x:Str) (a:Addr) (ws:List Int):jP (Cu RW x a ws)=putK (jP RW) (Sum.inr x) (.ref a):=by
 unfold Cu putK
 by_cases h:x∈RW.map (·.1)
 ·rw [if_pos h,if_pos (by
   obtain⟨q,hq,rfl⟩:=List.mem_map.mp h
   exact List.any_eq_true.mpr ⟨_,List.mem_map.mpr ⟨q,hq,rfl⟩,by simp⟩)]
  unfold jP
  rw [List.map_map,List.map_map]
  refine List.map_congr_left fun q _=>?_
  by_cases e:q.1=x
  ·simp [e]
  ·simp [e]
 ·rw [if_neg h,if_neg (by
   intro z
   obtain⟨kv,hk,e⟩:=List.any_eq_true.mp z
   obtain⟨q,hq,rfl⟩:=List.mem_map.mp hk
   exact h (List.mem_map.mpr ⟨q,hq,by simpa using e⟩))]
  unfold jP
  rw [List.map_append]
  rfl
theorem Ru {RW:List (Str×Addr×List Int)} {x:Str} {a:Addr} {ws:List Int} {q:Str×Addr×List Int} (h:q∈Cu RW x a ws):q∈RW∨q=(x,a,ws):=by
 unfold Cu at h
 split at h
 ·obtain⟨q',hq,e⟩:=List.mem_map.mp h
  split at e
  ·exact .inr e.symm
  ·exact .inl (by rw [<-e];exact hq)
 ·rcases List.mem_append.mp h with h | h
  ·exact .inl h
  ·exact .inr (List.mem_singleton.mp h)
theorem Sv {RW:List (Str×Addr×List Int)} {x:Str} {a:Addr} {ws:List Int} (nd:(RW.map (·.1)).Nodup):((Cu RW x a ws).map (·.1)).Nodup:=by
 unfold Cu
 split
 ·have e:(RW.map (fun q=>if q.1=x then(x,a,ws) else q)).map (·.1)=RW.map (·.1):=by
   rw [List.map_map]
   refine List.map_congr_left fun q _=>?_
   by_cases h:q.1=x
   ·simp [h]
   ·simp [h]
  rw [e]
  exact nd
 ·rename_i h
  rw [List.map_append,List.nodup_append]
  exact⟨nd,by simp,fun b hb c hc z=>h (by simp at hc;rw [<-hc,<-z];exact hb)⟩
theorem Jy (RW:List (Str×Addr×List Int)) (x:Str) (a:Addr) (ws:List Int):(Cu RW x a ws).length<=RW.length+1:=by
 unfold Cu
 split
 ·rw [lM];omega
 ·simp
structure vX (B H:Hp) (d:Addr) (m:Nat) (G:List V) (RW:List (Str×Addr×List Int)):Prop where
 at':jX H d RW
 bnd:∀q∈RW,∀v∈q.2.2,0<=v/\v <1000000000
 door:∀q∈RW,V.str q.1∈G
 new:∀q∈RW,B q.2.1=none/\q.2.1≠d
 len:∀q∈RW,q.2.2.length<=m
theorem vX.same {B H H':Hp} {d:Addr} {m:Nat} {G:List V} {RW:List (Str×Addr×List Int)} (h:vX B H d m G RW) (s:aM H H'):vX B H' d m G RW:=⟨h.at'.same s,h.bnd,h.door,h.new,h.len⟩
theorem vX.put {B H:Hp} {d:Addr} {m:Nat} {G:List V} {RW:List (Str×Addr×List Int)} (h:vX B H d m G RW) {x:Str} {a:Addr} {ws:List Int} (ea:H a=some (.lst (ws.map V.int))) (na:B a=none) (nd:a≠d) (hx:V.str x∈G) (hb:∀v∈ws,0<=v/\v <1000000000) (hl:ws.length<=m) (hm:m<=299):
  vX B (upd H d (.dK (putK (jP RW) (Sum.inr x) (.ref a)))) d m G (Cu RW x a ws):=by
 refine⟨⟨by rw [Wd];exact az,fun q hq=>?_,Sv h.at'.nd,fun q hq=>?_⟩,fun q hq=>?_,fun q hq=>?_,fun q hq=>?_,fun q hq=>?_⟩ <;> rcases Ru hq with hq | rfl
 ·rw [aH (h.new q hq).2];exact h.at'.lists q hq
 ·rw [aH nd];exact ea
 ·exact h.at'.len q hq
 ·show ws.length<=300;omega
 ·exact h.bnd q hq
 ·exact hb
 ·exact h.door q hq
 ·exact hx
 ·exact h.new q hq
 ·exact⟨na,nd⟩
 ·exact h.len q hq
 ·exact hl
inductive wk (K:PySem.W.Frag) (vs:List V) (H:Hp) (Q:VK) (E:XK):Prop where
 | mk:∀(a P:Addr) (ns:List Int) (xs:List V) (ps:List PD) (m:Nat),vs=[.ref a,.ref P,.int (m:Nat)]->bI K H a (ns.map V.int)->H P=some (.lst xs)->jM (wV H) xs ps->ps.length<=16->m<=299->(∀H' d RW,aM H H'->H d=none->vX H H' d m (dF ps "give") RW->RW.length<=32->Q (.ref d) H')->wk K vs H Q E
noncomputable abbrev ou:List Str:=["_law_script", "_law_parts", "_law_many", "_law_rows", "_law_k", "_law_one", "_law_cell_here"]
theorem Fd (T:Txt w K mg t):FO P w K mg base 3 t.zp ["_law_script", "_law_parts", "_law_many"] (wk K):=by
 have sc:=T.rN.sc ou
 refine T.rN.F.ok sc ln (fun _ _ _ _ H vs Q E hr h=>?_)
 obtain⟨a,P,ns,xs,ps,m,rfl,hS,eP,aP,p16,hm,k⟩:=h
 refine⟨_,(au (sN sc 3 eY)
  (au (dD PassesOwn.never rfl (Bu rfl T.qe (aa (iT [] ou (bc (top 78)) rfl (b8 (pv 1)) (fun _ _ _ _ _=>(wZ (aW dU (aR (rQ (K:=K) rfl) (pv 0) aq (fun _ _=>rfl)) bK (bC _)))) (fun _ _ _ _ _=>(aR (rQ (K:=K) rfl) (pv 0) aq (fun _ _=>rfl)))) ak fU)) (jT rfl (bD (gN sc 4) (bD (gN sc 5) fQ)))
   (au (sN sc 6 (dZ (gP T) T.fP hr (aa (pv 0) (aa (pv 4) ak aj) aj)))
   (au (fu (bR (aW Gr (aX bW (dZ (bx T) T.bA hr (aa (pv 6) (aa aq ak ao) aj)) aq) aq (bC _))
    (aA (fD hr.u1 (pv 3) (pv 5) (iT [6] ou (bc (top 78)) rfl (jH rfl T.lF (aa (aX bW (dZ (bx T) T.bA hr (aa (pv 6) (aa aq ak ao) aj)) (aX dh (pv 2) aq)) ak bO)) (fun _ _ _ _ _=>jr) (fun _ _ _ _ _=>(dZ (jz T) T.gJ hr (aa (pv 1) (aa (aX dh aq (pv 0)) ak bO) aj)))) rfl))
    aZ))
   (aA (fu (bR (aW dU (aX bW (dZ (gP T) T.fP hr (aa (pv 0) (aa aq ak ao) aj)) aq) aq (bC _))
    (aA (fD hr.u1 (pv 3) (pv 5) (iT [6] ou (bc (top 78)) rfl (jH rfl T.lF (aa (aX bW (pv 6) (aX dh (pv 2) aq)) ak bO)) (fun _ _ _ _ _=>jr) (fun _ _ _ _ _=>(aX bW (aX QS (pv 1) (aX dh aq (aX jO aq (pv 0)))) (aX xq aq aq)))) rfl))
    aZ))))))
  (aA (aN (pv 3))))),?_⟩
 have hz:sizeLine=16777216:=sizeLine_eq
 refine fun d nd=>?_
 have s1:=aB (o:=.dK []) nd
 have ed:upd H d (.dK []) d=some (.dK []):=az
 have xl:=aP.length
 generalize upd H d (.dK [])=H1 at s1 ed ⊢
 have eP1:=s1 _ _ eP
 refine⟨_,rfl,P,rfl,⟨_,bI.of eP1⟩,jd (K:=K) (a:=P) (xs:=xs) (fun j ys H'=>H'=H1/\ys=dF (ps.take j) "give") (by omega) ⟨rfl,rfl⟩ (fun j ys H' ⟨_,e⟩=>by rw [e];exact Nat.le_trans (rD _ _) (by rw [List.length_take];omega)) (fun j ys H' _ ⟨e,_⟩=>by rw [e];exact bI.of eP1) ?_ ?_⟩
 ·rintro j x ys H' hx ⟨rfl,rfl⟩
  obtain⟨p,hp,q,a1,a2,a3,rfl,hq,_⟩:=aP.get hx
  refine⟨_,rfl,q,_,0,_,rfl,rfl,eQ.of (s1 _ _ hq),aK (j:=0) rfl,rfl,_,rfl,?_⟩
  rw [List.take_succ,hp,Option.toList_some,Gp]
  by_cases h:cL p.kind= "give"
  ·rw [if_pos h,h]
   exact gj ⟨_,rfl,q,_,1,_,rfl,rfl,eQ.of (s1 _ _ hq),aK (j:=1) rfl,rfl,rfl⟩
  ·rw [if_neg h]
   exact bY (fun z=>h (by injection z)) ⟨rfl,rfl⟩
 rintro ys H' ⟨rfl,rfl⟩ D nD
 rw [xl,List.take_length]
 have gl:=rD ps "give"
 have hG:∀v∈dF ps "give",∃x,v=V.str x:=fun v hv=>by
  obtain⟨p,_,rfl⟩:=List.mem_map.mp hv
  exact⟨_,rfl⟩
 have nDd:D≠d:=fun z=>by rw [z,ed] at nD;cases nD
 have s2:=aB (o:=.lst (dF ps "give")) nD
 have eD:upd H' D (.lst (dF ps "give")) D=some (.lst (dF ps "give")):=az
 generalize upd H' D (.lst (dF ps "give"))=H2 at s2 eD ⊢
 generalize dF ps "give" =G at gl hG eD k ⊢
 have sB:aM H (bB [d] H2):=fun b o e=>cJ (s2 _ _ (s1 _ _ e)) (by simpa using aF e nd)
 have eDB:bB [d] H2 D=some (.lst G):=cJ eD (by simpa using nDd)
 have upB:∀{H':Hp} {o:HO},aM (bB [d] H2) H'->aM (bB [d] H2) (upd H' d o):=fun s b o e=>by
  rw [aH (fun z=>by rw [z] at e;simp [bB] at e)]
  exact s b o e
 refine⟨D,rfl,⟨_,bI.of eD⟩,Kh (K:=K) (a:=D) (xs:=G) (fun j σ H'=>(∃v4 v5 v6,σ=[some (.ref a),some (.ref P),some (.int m),some (.ref d),v4,v5,v6])/\aM (bB [d] H2) H'/\∃RW,vX H H' d m G RW/\RW.length<=2 * j) ⟨⟨none,none,none,rfl⟩,cj,[],⟨⟨s2 _ _ ed,by simp,by simp,by simp⟩,by simp,by simp,by simp,by simp⟩,Nat.le_refl _⟩ (fun j σ H' _ h=>bI.of (h.2.1 _ _ eDB)) ?_ ?_⟩
 ·rintro j x σ H3 hx ⟨⟨v4,v5,v6,rfl⟩,s3,RW,hR,lR⟩ u nu
  have hxG:=List.mem_of_getElem? hx
  have hj:=(List.getElem?_eq_some_iff.mp hx).1
  obtain⟨y,rfl⟩:=hG x hxG
  have t4:=aB (o:=.tup [.int (j:Nat),.str y]) nu
  have eu:upd H3 u (.tup [.int (j:Nat),.str y]) u=some (.tup [.int (j:Nat),.str y]):=az
  generalize upd H3 u (.tup [.int (j:Nat),.str y])=H4 at t4 eu ⊢
  have s4:=s3.trans t4
  have hR4:=hR.same t4
  have hS4:=(sB.trans s4).seq hS
  refine⟨u,_,rfl,eQ.of eu,rfl,_,_,rfl,_,_,rfl,rfl,?_⟩
  refine⟨_,rfl,_,rfl,a,ns,j,rfl,hS4,?_⟩
  generalize j8 ns j=c
  refine⟨fun σ5 H5=>σ5=[some (.ref a),some (.ref P),some (.int m),some (.ref d),some (.int (j:Nat)),some (.str y),some (.int c)]/\aM (bB [d] H2) H5/\∃RW,vX H H5 d m G RW/\RW.length<=2 * j+1,?_,?_⟩
  ·refine⟨_,rfl,_,_,rfl,_,_,rfl,rfl,by show(0:Int) <5;decide,_,_,rfl,rfl,_,rfl,jy (fun _=>?_) (fun _=>⟨rfl,s4,RW,hR4,by omega⟩)⟩
   have h0:=Int.emod_nonneg (cD c 99) (show((m:Int)+1)≠0 by omega)
   have h1:=Int.emod_lt_of_pos (cD c 99) (show(0:Int) <(m:Int)+1 by omega)
   refine⟨_,rfl,_,_,rfl,_,rfl,_,_,rfl,rfl,_,_,rfl,rfl,by show(0:Int) <(m:Int)+1;omega,_,rfl,by omega,by omega,?_⟩
   refine kZ (fun i ys H'=>H'=H4/\∃ws:List Int,ys=ws.map V.int/\ws.length=i/\∀v∈ws,0<=v/\v <1000000000) (by omega) ⟨rfl,[],rfl,rfl,by simp⟩ (fun i ys H' ⟨_,ws,e,e2,_⟩=>by rw [e,lM];omega) ?_ ?_
   ·rintro i ys H' hi ⟨rfl,ws,rfl,hw,hB⟩
    refine yes ⟨_,rfl,_,rfl,_,_,rfl,rfl,c,100+(0+(i:Int)),rfl,rfl,ws ++ [qI c (100+(0+(i:Int)))],by simp,by simp [hw],fun v hv=>?_⟩
    rcases List.mem_append.mp hv with hv | hv
    ·exact hB v hv
    ·rw [List.mem_singleton] at hv
     subst hv
     exact rJ _ _
   rintro ys H' ⟨rfl,ws,rfl,hw,hB⟩ r nr
   have t5:=aB (o:=.lst (ws.map V.int)) nr
   refine⟨_,rfl,_,rfl,d,_,rfl,j7.k (k:=Sum.inr y) ((hR4.same t5).at'.dict) (by unfold jP;rw [lM];omega),rfl,upB (s4.trans t5),Cu RW y r ws,(hR4.same t5).put az ((sB.trans s4).free nr) (fun z=>by rw [z,hR4.at'.dict] at nr;cases nr) hxG hB (by omega) hm,?_⟩
   have:=Jy RW y r ws
   omega
  rintro σ5 H5 ⟨rfl,s5,RW5,hR5,l5⟩
  have hS5:=(sB.trans s5).seq hS
  refine⟨fun σ6 H6=>(∃v4 v5 v6,σ6=[some (.ref a),some (.ref P),some (.int m),some (.ref d),v4,v5,v6])/\aM (bB [d] H2) H6/\∃RW,vX H H6 d m G RW/\RW.length<=2 * (j+1),?_,fun _ _ h=>h⟩
  refine⟨_,rfl,a,ns,2,rfl,hS5,_,_,rfl,rfl,by show(0:Int) <2;decide,rfl,_,rfl,jy (fun _=>?_) (fun _=>⟨⟨_,_,_,rfl⟩,s5,RW5,hR5,by omega⟩)⟩
  have h0:=Int.emod_nonneg c (show((m:Int)+1)≠0 by omega)
  have h1:=Int.emod_lt_of_pos c (show(0:Int) <(m:Int)+1 by omega)
  refine⟨_,rfl,_,rfl,_,_,rfl,rfl,_,_,rfl,rfl,by show(0:Int) <(m:Int)+1;omega,_,rfl,by omega,by omega,?_⟩
  refine kZ (fun i ys H'=>H'=H5/\∃ws:List Int,ys=ws.map V.int/\ws.length=i/\∀v∈ws,0<=v/\v <1000000000) (by omega) ⟨rfl,[],rfl,rfl,by simp⟩ (fun i ys H' ⟨_,ws,e,e2,_⟩=>by rw [e,lM];omega) ?_ ?_
  ·rintro i ys H' hi ⟨rfl,ws,rfl,hw,hB⟩
   refine yes ⟨_,rfl,_,rfl,_,_,rfl,rfl,jG,_,_,rfl,rfl,_,_,rfl,rfl,by show(0:Int)<=8+30 * (0+(i:Int));omega,_,_,rfl,rfl,⟨by decide,by decide,by decide⟩,_,_,rfl,rfl,by show(0:Int) <10 ^ 9;decide,rfl,ws ++ [c / 2 ^ (8+30 * (0+(i:Int))).toNat % 10 ^ (9:Int).toNat],by simp,by simp [hw],fun v hv=>?_⟩
   rcases List.mem_append.mp hv with hv | hv
   ·exact hB v hv
   ·rw [List.mem_singleton,e9] at hv
    subst hv
    exact Bv _
  rintro ys H' ⟨rfl,ws,rfl,hw,hB⟩ r nr
  have t5:=aB (o:=.lst (ws.map V.int)) nr
  refine⟨_,rfl,_,rfl,d,_,rfl,j7.k (k:=Sum.inr y) ((hR5.same t5).at'.dict) (by unfold jP;rw [lM];omega),⟨_,_,_,rfl⟩,upB (s5.trans t5),Cu RW5 y r ws,(hR5.same t5).put az ((sB.trans s5).free nr) (fun z=>by rw [z,hR5.at'.dict] at nr;cases nr) hxG hB (by omega) hm,?_⟩
  have:=Jy RW5 y r ws
  omega
 rintro σ H3 ⟨⟨v4,v5,v6,rfl⟩,s3,RW,hR,lR⟩
 exact⟨_,rfl,k H3 d RW (sB.trans s3) nd hR (by omega)⟩
inductive yx (K:PySem.W.Frag) (vs:List V) (H:Hp) (Q:VK) (E:XK):Prop where
 | mk:∀(a D:Addr) (ns:List Int) (ds:List Str) (c:Int) (n:Nat),vs=[.ref a,.ref D,.int c,.int (n:Nat)]->bI K H a (ns.map V.int)->bI K H D (ds.map V.str)->ds.length<=16->1<=n->(∀(H':Hp) (p:Addr) (xs:List Str),aM H H'->H p=none->H' p=some (.lst (xs.map V.str))->(∀x∈xs,x∈ds)->Q (.ref p) H')->yx K vs H Q E
noncomputable abbrev mz:List Str:=["_law_script", "_law_doors_here", "_law_cell_here", "_law_seldom"]
theorem HS (T:Txt w K mg t):FO P w K mg base 2 t.Ah mz (yx K):=by
 have sc:fG mz mz (bc (top 82)):=GX
 refine T.Ay.F.ok sc ln (fun _ _ _ _ H vs Q E hr h=>?_)
 obtain⟨a,D,ns,ds,c,n,rfl,hS,hD,hd,hn,k⟩:=h
 refine⟨_,(au (bR (aW dU (aX bW (aX J2 (dZ (gP T) T.fP hr (aa (pv 0) (aa aq ak ao) aj)) aq) aq) aq (bC _))
   (aA (aN (Dk ["_law_k", "_law_name"] [2] mz (bc (top 82)) rfl (Bu rfl T.qe (aa (pv 1) ak aj)) (fun _ _ _ _ _=>BP (K:=K) (n:=2) rfl rfl (bD (lA (i:=0) (show(["_law_k", "_law_name", "_law_cell_here"]:List Str).Nodup by decide +kernel) rfl (Or.inl rfl) (.inr rfl)) (bD (lA (i:=1) (show(["_law_k", "_law_name", "_law_cell_here"]:List Str).Nodup by decide +kernel) rfl (Or.inl rfl) (.inr rfl)) fQ))) (fun _ _ _ _ _=>(wZ (aW dU (aX W3 (aX QS (pv 2) (aX jO aq (pv 0))) aq) aq (bC _)))) (fun _ _ _ _ _=>(pv 1)))))
   aZ)
  (aA (aN (Dk ["_law_k", "_law_name"] [2,3] mz (bc (top 82)) rfl (Bu rfl T.qe (aa (pv 1) ak aj)) (fun _ _ _ _ _=>BP (K:=K) (n:=2) rfl rfl (bD (lA (i:=0) (show(["_law_k", "_law_name", "_law_cell_here", "_law_seldom"]:List Str).Nodup by decide +kernel) rfl (Or.inl rfl) (.inr rfl)) (bD (lA (i:=1) (show(["_law_k", "_law_name", "_law_cell_here", "_law_seldom"]:List Str).Nodup by decide +kernel) rfl (Or.inl rfl) (.inr rfl)) fQ))) (fun _ _ _ _ _=>(wZ (aW dU (aX bW (dZ (bx T) T.bA hr (aa (pv 2) (aa (pv 0) ak aj) aj)) (pv 3)) aq (bC _)))) (fun _ _ _ _ _=>(pv 1)))))),?_⟩
 have hz:sizeLine=16777216:=sizeLine_eq
 refine⟨_,rfl,a,ns,2,rfl,hS,_,_,rfl,rfl,U8 (by decide) (by decide),_,_,rfl,rfl,by show(0:Int) <2;decide,rfl,_,rfl,jy (fun _=>?_) (fun _=>?_)⟩
 ·refine⟨_,rfl,D,rfl,⟨_,hD⟩,Er (K:=K) (a:=D) (xs:=ds.map V.str) (fun i ys H'=>aM H H'/\ys.length<=i/\∃xs:List Str,ys=xs.map V.str/\∀x∈xs,x∈ds) (by rw [lM];omega) ⟨aM.refl _,Nat.le_refl _,[],rfl,by simp⟩ (fun i ys H' h=>h.2.1) (fun i ys H' _ h=>h.1.seq hD) ?_ ?_⟩
  ·rintro i x ys H' p hx ⟨s1,ly,xs,rfl,hx2⟩ np
   rw [List.getElem?_map] at hx
   obtain⟨y,hy,rfl⟩:=Option.map_eq_some_iff.mp hx
   have t1:=aB (o:=.tup [.int (i:Nat),.str y]) np
   refine⟨p,_,rfl,eQ.of az,rfl,_,_,rfl,_,_,rfl,rfl,rfl,?_⟩
   refine⟨_,rfl,_,rfl,_,_,rfl,rfl,jG,_,_,rfl,rfl,by show(0:Int)<=2 * (i:Int);omega,_,_,rfl,rfl,rfl,_,rfl,jy (fun _=>⟨_,rfl,s1.trans t1,by rw [lP];simp;simpa using ly,xs ++ [y],by simp,fun x hx=>?_⟩) (fun _=>⟨s1.trans t1,Nat.le_succ_of_le ly,xs,rfl,hx2⟩)⟩
   rcases List.mem_append.mp hx with h | h
   ·exact hx2 x h
   ·rw [List.mem_singleton] at h
    rw [h]
    exact List.mem_of_getElem? hy
  rintro ys H' ⟨s1,_,xs,rfl,hx⟩ p np
  exact k _ p xs (s1.trans (aB np)) (s1.free np) az hx
 ·refine⟨_,rfl,D,rfl,⟨_,hD⟩,Er (K:=K) (a:=D) (xs:=ds.map V.str) (fun i ys H'=>aM H H'/\ys.length<=i/\∃xs:List Str,ys=xs.map V.str/\∀x∈xs,x∈ds) (by rw [lM];omega) ⟨aM.refl _,Nat.le_refl _,[],rfl,by simp⟩ (fun i ys H' h=>h.2.1) (fun i ys H' _ h=>h.1.seq hD) ?_ ?_⟩
  ·rintro i x ys H' p hx ⟨s1,ly,xs,rfl,hx2⟩ np
   rw [List.getElem?_map] at hx
   obtain⟨y,hy,rfl⟩:=Option.map_eq_some_iff.mp hx
   have t1:=aB (o:=.tup [.int (i:Nat),.str y]) np
   refine⟨p,_,rfl,eQ.of az,rfl,_,_,rfl,_,_,rfl,rfl,rfl,?_⟩
   refine⟨_,rfl,_,rfl,_,_,rfl,_,rfl,_,_,rfl,rfl,by show(0:Int) <(n:Int);omega,rfl,_,rfl,jy (fun _=>⟨_,rfl,s1.trans t1,by rw [lP];simp;simpa using ly,xs ++ [y],by simp,fun x hx=>?_⟩) (fun _=>⟨s1.trans t1,Nat.le_succ_of_le ly,xs,rfl,hx2⟩)⟩
   rcases List.mem_append.mp hx with h | h
   ·exact hx2 x h
   ·rw [List.mem_singleton] at h
    rw [h]
    exact List.mem_of_getElem? hy
  rintro ys H' ⟨s1,_,xs,rfl,hx⟩ p np
  exact k _ p xs (s1.trans (aB np)) (s1.free np) az hx
noncomputable def VN (ra:Str->Addr) (ps:List PD):List (Key×V):=ps.map fun p=>((Sum.inr p.name:Key),V.ref (ra p.name))
theorem MT {H:Hp} {a:Addr} {kvs:List (Key×V)} {x:Str} {v:V} (e:H a=some (.dK kvs)) (h:cg kvs (Sum.inr x)=some v):d7 H a (.str x) (some v):=by
 rw [<-h]
 exact d7.k (k:=Sum.inr x) e
noncomputable def zR (ps:List PD) (x:Str):Int:=((ps.find? fun p=>decide (p.name=x)).map fun p=>p.nums.headD 0).getD 0
theorem M3 {ps:List PD} (nd:(ps.map (·.name)).Nodup) {p:PD} (hp:p∈ps):zR ps p.name=p.nums.headD 0:=by
 unfold zR
 rw [find_name nd hp]
 rfl
theorem Ro (ra:Str->Addr) (ps:List PD):(VN ra ps).map (·.1)=(ps.map (·.name)).map (fun x=>(Sum.inr x:Key)):=by unfold VN;rw [List.map_map,List.map_map];rfl
theorem vD {ra:Str->Addr} {ps:List PD} (nd:(ps.map (·.name)).Nodup) {p:PD} (hp:p∈ps):cg (VN ra ps) (Sum.inr p.name)=some (.ref (ra p.name)):=
 gZ (by rw [Ro];exact fJ nd) (List.mem_map.mpr ⟨p,hp,rfl⟩)
structure rM where
 (P L Kp:Addr)
 (pa la:Str->Addr)
noncomputable def Et (S:FS) (p:PD):List Nat:=if p.kind=0 then [S.d p.name] else p.ins.map S.g
noncomputable def rM.cells (B:rM) (ls:List aG) (ps:List PD):List Addr:=B.Kp:: (ls.map (fun l=>B.pa l.name) ++ ps.map (fun p=>B.la p.name))
noncomputable def rM.all (B:rM) (ls:List aG) (ps:List PD):List Addr:=B.P:: B.L:: B.cells ls ps
structure Eh (H:Hp) (B:rM) (ls:List aG) (ps:List PD) (ev:Str->List Int) (pc:PD->List Nat) (kk:Str->Int):Prop where
 past:H B.P=some (.dK (Kw B.pa ls))
 plcs:H B.L=some (.dK (VN B.la ps))
 kept:H B.Kp=some (.dK (bG kk ps))
 hl:∀l∈ls,H (B.pa l.name)=some (.lst ((ev l.name).map V.int))
 pl:∀p∈ps,H (B.la p.name)=some (.lst ((pc p).map nV))
 nod:(B.all ls ps).Nodup
noncomputable abbrev Y6 (H:Hp) (B:rM) (ls:List aG) (ps:List PD) (S:FS) (kk:Str->Int):Prop:=Eh H B ls ps S.ev (Et S) kk
noncomputable def Zy (ps:List PD) (S:FS) (kk:Str->Int):Prop:=∀p∈ps,p.kind=5->kk p.name=S.k p.name
theorem Eh.stay {H H':Hp} {B:rM} {ls:List aG} {ps:List PD} {ev:Str->List Int} {pc:PD->List Nat} {kk:Str->Int} (h:Eh H B ls ps ev pc kk) (s:∀a∈B.all ls ps,∀o,H a=some o->H' a=some o):Eh H' B ls ps ev pc kk:=by
 refine⟨s _ ?_ _ h.past,s _ ?_ _ h.plcs,s _ ?_ _ h.kept,fun l hl=>s _ ?_ _ (h.hl l hl),fun p hp=>s _ ?_ _ (h.pl p hp),h.nod⟩
 all_goals unfold rM.all rM.cells;simp only [List.mem_cons,List.mem_append,List.mem_map,true_or,or_true]
 ·exact .inr (.inr (.inr (.inl ⟨l,hl,rfl⟩)))
 ·exact .inr (.inr (.inr (.inr ⟨p,hp,rfl⟩)))
theorem Eh.same {H H':Hp} {B:rM} {ls:List aG} {ps:List PD} {ev:Str->List Int} {pc:PD->List Nat} {kk:Str->Int} (h:Eh H B ls ps ev pc kk) (s:aM H H'):Eh H' B ls ps ev pc kk:=h.stay fun a _ o e=>s a o e
theorem QW {S:FS} {p:PD} {x:Str} {j:Nat} (h0:p.kind≠0) (hx:p.ins[j]?=some x):((Et S p).map nV)[j]?=some (nV (S.g x)):=by
 unfold Et
 rw [if_neg h0,List.getElem?_map,List.getElem?_map,hx]
 rfl
theorem PK {S:FS} {x:Str} (h:S.g x <(S.ev x).length):((S.ev x).map V.int)[S.g x]?=some (jc S x):=by
 unfold jc
 rw [List.getElem?_map,List.getElem?_eq_getElem h]
 rfl
theorem Q8 {S:FS} {x:Str} (h:¬S.g x <(S.ev x).length):jc S x=.non:=by
 unfold jc
 rw [List.getElem?_eq_none (by omega)]
 rfl
inductive wC (K:PySem.W.Frag) (vs:List V) (H:Hp) (Q:VK) (E:XK):Prop where
 | mk:∀(q:Addr) (B:rM) (ls:List aG) (ps:List PD) (p:PD) (S:FS) (kk:Str->Int),vs=[.ref B.P,.ref B.L,.ref q]->Y6 H B ls ps S kk->vh ls ps->p∈ps->wV H (.ref q) p->(∀H' a,aM H H'->H a=none->H' a=some (.lst (aQ S p))->Q (.ref a) H')->wC K vs H Q E
theorem Ew (T:Txt w K mg t):FO P w K mg base 1 t.xV ["_law_past", "_law_places_here", "_law_one"] (wC K):=by
 have sc:=T.sE.sc ["_law_past", "_law_places_here", "_law_one", "_law_heads_here", "_law_at", "_law_lane_here", "_law_value_here"]
 refine T.sE.F.ok sc ln (fun _ _ _ _ H vs Q E hr h=>?_)
 obtain⟨q,B,ls,ps,p,S,kk,rfl,G,F,hp,hq,k⟩:=h
 refine⟨_,(au (sN sc 3 (bw ak))
  (au (dD PassesOwn.never rfl (Bu rfl T.qe (aa (aR cC (pv 2) aq (fun _ _=>rfl)) ak aD)) (jT rfl (bD (gN sc 4) (bD (gN sc 5) fQ)))
   (au (sN sc 6 qx)
   (au (fu (bR (aW tK (aR aO (bV hr.u1 (pv 1) (aR cC (pv 2) aq (fun _ _=>rfl)) (fun _ _=>rfl)) (pv 4) (fun _ _=>rfl)) (bf bN (by rfl) T.dX cH (aa (bV hr.u1 (pv 0) (pv 5) (fun _ _=>rfl)) ak aD)) (bC _))
    (aA (sN sc 6 (aR aO (bV hr.u1 (pv 0) (pv 5) (fun _ _=>rfl)) (aR aO (bV hr.u1 (pv 1) (aR cC (pv 2) aq (fun _ _=>rfl)) (fun _ _=>rfl)) (pv 4) (fun _ _=>rfl)) (fun _ _=>rfl))))
    aZ))
   (aA (bL (Hx (pv 3) (aa (pv 6) ak aj)))))))
  (aA (aN (pv 3))))),?_⟩
 have hz:sizeLine=16777216:=sizeLine_eq
 obtain⟨_,a1,a2,a3,eq,q0,q1,q2,q3⟩:=hq
 cases eq
 have ok:=F.pok p hp
 have h3i:p.ins.length<=3:=by rw [ok.2.2.1];exact vV _
 refine⟨jl,fun a na=>?_⟩
 have s1:=aB (o:=.lst []) na
 have ea:upd H a (.lst []) a=some (.lst []):=az
 generalize upd H a (.lst [])=H1 at s1 ea ⊢
 refine⟨_,rfl,q,_,3,_,rfl,rfl,eQ.of (s1 _ _ q0),aK (j:=3) rfl,a2,rfl,⟨_,bI.of (s1 _ _ q2)⟩,Kh (K:=K) (a:=a2) (xs:=p.ins.map V.str) (fun j σ H'=>(∃v4 v5 v6,σ=[some (.ref B.P),some (.ref B.L),some (.ref q),some (.ref a),v4,v5,v6])/\aM H H'/\H' a=some (.lst ((p.ins.take j).map (jc S)))) ⟨⟨none,none,none,rfl⟩,s1,ea⟩ (fun j σ H' _ h=>bI.of (h.2.1 _ _ q2)) ?_ ?_⟩
 ·rintro j x σ H2 hx ⟨⟨v4,v5,v6,rfl⟩,s2,ea2⟩ u nu
  rw [List.getElem?_map] at hx
  obtain⟨y,hy,rfl⟩:=Option.map_eq_some_iff.mp hx
  obtain⟨l,hl,rfl⟩:=F.inL hp (List.mem_append.mpr (.inl (List.mem_of_getElem? hy)))
  have hj:=(List.getElem?_eq_some_iff.mp hy).1
  have h0:p.kind≠0:=fun z=>by rw [ok.2.2.1,z] at hj;exact Nat.not_lt_zero _ hj
  have t3:=aB (o:=.tup [.int (j:Nat),.str l.name]) nu
  have eu:upd H2 u (.tup [.int (j:Nat),.str l.name]) u=some (.tup [.int (j:Nat),.str l.name]):=az
  have ea3:=t3 _ _ ea2
  have s3:=s2.trans t3
  generalize upd H2 u (.tup [.int (j:Nat),.str l.name])=H3 at t3 eu ea3 s3 ⊢
  have G3:=G.same s3
  refine⟨u,_,rfl,eQ.of eu,rfl,_,_,rfl,_,_,rfl,rfl,?_⟩
  refine⟨fun σ' H'=>σ'=[some (.ref B.P),some (.ref B.L),some (.ref q),some (.ref a),some (.int (j:Nat)),some (.str l.name),some (jc S l.name)]/\H'=H3,?_,?_⟩
  ·refine⟨_,rfl,_,rfl,q,_,1,_,rfl,rfl,eQ.of (s3 _ _ q0),aK (j:=1) rfl,B.L,_,rfl,MT G3.plcs (vD F.pnd hp),_,rfl,B.la p.name,_,j,_,rfl,rfl,bI.of (G3.pl p hp),aK (QW h0 hy),?_⟩
   refine⟨_,rfl,_,rfl,B.P,_,rfl,MT G3.past (jA F.whole.nod hl),_,(S.ev l.name).length,rfl,.inl ⟨_,bI.of (G3.hl l hl),by rw [lM]⟩,_,_,rfl,rfl,_,rfl,jy (fun h=>?_) (fun h=>?_)⟩
   ·have h:S.g l.name <(S.ev l.name).length:=by simpa using h
    exact⟨_,rfl,_,rfl,B.P,_,rfl,MT G3.past (jA F.whole.nod hl),_,rfl,_,rfl,q,_,1,_,rfl,rfl,eQ.of (s3 _ _ q0),aK (j:=1) rfl,B.L,_,rfl,MT G3.plcs (vD F.pnd hp),_,rfl,B.la p.name,_,j,_,rfl,rfl,bI.of (G3.pl p hp),aK (QW h0 hy),B.pa l.name,_,S.g l.name,_,rfl,rfl,bI.of (G3.hl l hl),aK (PK h),rfl,rfl⟩
   ·have h:¬S.g l.name <(S.ev l.name).length:=by simpa using h
    exact⟨by rw [Q8 h];rfl,rfl⟩
  rintro σ' H' ⟨rfl,rfl⟩
  refine⟨_,rfl,.inl ⟨rfl,_,bI.of ea3⟩,_,rfl,a,_,_,rfl,rfl,ea3,by rw [lM,List.length_take];omega,⟨_,_,_,rfl⟩,fun b o e=>by rw [aH (aF e na)];exact s3 b o e,?_⟩
  rw [az,List.take_succ,hy,Option.toList_some,List.map_append]
  rfl
 rintro σ H2 ⟨⟨v4,v5,v6,rfl⟩,s2,ea2⟩
 rw [lM,List.take_length] at ea2
 exact⟨_,rfl,k H2 a s2 na ea2⟩
theorem yO {α:Type} {f:α->List Str}:∀{l m:List α},l.Sublist m->(l.flatMap f).Sublist (m.flatMap f)
 | _,_,.slnil=>List.Sublist.refl _
 | _,_,.cons a h=>by rw [List.flatMap_cons];exact(yO h).trans (List.sublist_append_right _ _)
 | _,_,.cons₂ a h=>by rw [List.flatMap_cons,List.flatMap_cons];exact(List.Sublist.refl _).append (yO h)
theorem TQ {ls:List aG} {ps:List PD} {S:FS} {xs:List Str} (F:vh ls ps):((mL ls ps S xs).flatMap (·.1.ins)).Nodup:=by
 have h:((mL ls ps S xs).map (·.1)).Sublist ps:=(oO (qs:=ps.filter (p7 xs))).trans List.filter_sublist
 have h2:=(F.whole.ins.nodup_iff.mpr F.whole.nod).sublist (yO (f:=(·.ins)) h)
 rwa [List.flatMap_map] at h2
theorem J7 {ls:List aG} {ps:List PD} {S:FS} (F:vh ls ps) {p:PD} (hp:p∈ps) {dd:gK} (h:dY S p=some dd) {x:Str} (hx:x∈dd.tk):x∈p.ins/\S.g x <(S.ev x).length:=by
 obtain⟨hl,_,rfl⟩:=iB h
 obtain⟨q,hq,rfl⟩:=List.mem_map.mp hx
 obtain⟨y,n,e1,_,e3⟩:=Je (F.pok p hp) hl q hq
 have e:strAt p.ins q=y:=by unfold strAt;rw [e1];rfl
 rw [e]
 exact⟨List.mem_of_getElem? e1,(List.getElem?_eq_some_iff.mp e3).1⟩
theorem Q6 {α:Type} {l:List α} {j:Nat} {a:α} (h:l[j]?=some a):l=l.take j ++ a:: l.drop (j+1):=by
 obtain⟨hj,e⟩:=List.getElem?_eq_some_iff.mp h
 rw [<-e,<-List.drop_eq_getElem_cons hj,List.take_append_drop]
theorem WQ {ls:List aG} {ps:List PD} {S:FS} {xs:List Str} (F:vh ls ps) {j:Nat} {w:PD×gK} (h:(mL ls ps S xs)[j]?=some w) {x:Str} (hx:x∈w.2.tk):(iZ S ((mL ls ps S xs).take j)).g x=S.g x/\S.g x <(S.ev x).length:=by
 have hw:=jB (List.mem_of_getElem? h)
 have t1:=J7 F hw.1 (gA hw.2.2).1 hx
 refine⟨?_,t1.2⟩
 have nd:=TQ (ls:=ls) (S:=S) (xs:=xs) F
 rw [Q6 h,List.flatMap_append,List.flatMap_cons,List.nodup_append] at nd
 rw [Ir,List.filter_eq_nil_iff.mpr fun w' hw'=>?_]
 ·rfl
 ·intro z
  have hx':=of_decide_eq_true z
  have hd:=jB (List.mem_of_mem_take hw')
  have t2:=J7 F hd.1 (gA hd.2.2).1 hx'
  exact nd.2.2 x (List.mem_flatMap.mpr ⟨w',hw',t2.1⟩) x (List.mem_append.mpr (.inl t1.1)) rfl
theorem Wr {ls:List aG} {ps:List PD} {S:FS} {xs:List Str} (F:vh ls ps) (G:∀l∈ls,S.g l.name<=(S.ev l.name).length) (l:aG) (hl:l∈ls):(jj ls ps S xs).g l.name<=(S.ev l.name).length:=by
 have key:∀n,(iZ S ((mL ls ps S xs).take n)).g l.name<=(S.ev l.name).length:=by
  intro n
  induction n with
  | zero=>exact G l hl
  | succ n ih=>
   cases h:(mL ls ps S xs)[n]? with
   | none=>rw [List.take_succ,h,Option.toList_none,List.append_nil];exact ih
   | some w=>
    rw [List.take_succ,h,Option.toList_some,Ed]
    show(if l.name∈w.2.tk then _+1 else _)<=_
    split
    ·rename_i hx
     have:=WQ F h hx
     omega
    ·exact ih
 have:=key (mL ls ps S xs).length
 rwa [List.take_length] at this
theorem Ti {ls:List aG} {ps:List PD} {S:FS} {xs:List Str} (F:vh ls ps) (G:∀l∈ls,S.g l.name<=(S.ev l.name).length):∀l∈ls,(jj ls ps S xs).g l.name<=((jj ls ps S xs).ev l.name).length:=fun l hl=>by
 have h:=Wr (xs:=xs) F G l hl
 have e:((jj ls ps S xs).ev l.name)=_:=yh l.name _ _
 rw [e,lP]
 omega
theorem uO {f:PD->List Str}:∀{ps:List PD},(ps.flatMap f).Nodup->∀{p q:PD},p∈ps->q∈ps->∀{x:Str},x∈f p->x∈f q->p=q
 | a:: r,nd,p,q,hp,hq,x,h1,h2=>by
  rw [List.flatMap_cons,List.nodup_append] at nd
  rcases List.mem_cons.mp hp with e1 | e1
  ·rcases List.mem_cons.mp hq with e2 | e2
   ·rw [e1,e2]
   ·rw [e1] at h1
    exact absurd rfl (nd.2.2 x h1 x (List.mem_flatMap.mpr ⟨q,e2,h2⟩))
  ·rcases List.mem_cons.mp hq with e2 | e2
   ·rw [e2] at h2
    exact absurd rfl (nd.2.2 x h2 x (List.mem_flatMap.mpr ⟨p,e1,h1⟩))
   ·exact uO nd.2.1 e1 e2 h1 h2
theorem MF:∀i,i <11->decide (V.str (cL i)=V.str "give")=decide (i=0):=by decide +kernel
theorem YG {H:Hp} {Q:VK} {Ex:XK} {i:Nat} {a:Addr} {hs:List V} (hi:i <11) (hS:bI K H a hs) (hO:rP i hs) (kn:Px i hs=none->∀H',aM H H'->Q .non H') (k:∀qs,Px i hs=some qs->∀H' L,aM H H'->H L=none->H' L=some (.lst (qs.map nV))->Q (.ref L) H'):iR K [.str (cL i),.ref a] H Q Ex:=by
 unfold iR
 exact⟨i,a,hs,rfl,hi,hS,hO,kn,k⟩
theorem JW {S:FS} {p:PD} (ok:m5 p):Px p.kind (aQ S p)=if fM p.kind p.ins (aQ S p)=.non then some (places p.kind (aQ S p)) else none:=by
 have hO:=ph S p ok
 unfold Px fM
 cases hf:(places p.kind (aQ S p)).find? (j6 (aQ S p)) with
 | none=>simp
 | some j=>
  have hq:j <p.ins.length:=by have:=f9 hO j (List.mem_of_find?_eq_some hf);unfold aQ at this;rwa [lM] at this
  simp [List.getElem?_eq_getElem hq]
theorem Ug {i:Nat} (h:i≠5) (ns ws:List Int) (k k':Int):cz i ns ws k=cz i ns ws k':=by
 unfold cz
 split <;> first | rfl | exact absurd rfl h
theorem Eh.place {H:Hp} {B:rM} {ls:List aG} {ps:List PD} {ev:Str->List Int} {pc pc2:PD->List Nat} {kk:Str->Int} (h:Eh H B ls ps ev pc kk) {p:PD} (hp:p∈ps) {vs:List V} (hv:vs=(pc2 p).map nV) (h2:∀p'∈ps,p'≠p->pc2 p'=pc p'):Eh (upd H (B.la p.name) (.lst vs)) B ls ps ev pc2 kk:=by
 have n:=h.nod
 have im:B.la p.name∈ps.map (fun p=>B.la p.name):=List.mem_map.mpr ⟨p,hp,rfl⟩
 unfold rM.all rM.cells at n
 simp only [List.nodup_cons,List.mem_cons,List.mem_append,not_or] at n
 obtain⟨nA,nC,nB⟩:=List.nodup_append.mp n.2.2.2
 refine⟨?_,?_,?_,fun l hl=>?_,fun p' hp'=>?_,h.nod⟩
 ·rw [aH (fun z=>n.1.2.2.2 (by rw [z];exact im))];exact h.past
 ·rw [aH (fun z=>n.2.1.2.2 (by rw [z];exact im))];exact h.plcs
 ·rw [aH (fun z=>n.2.2.1.2 (by rw [z];exact im))];exact h.kept
 ·rw [aH (fun z=>nB _ (List.mem_map.mpr ⟨l,hl,rfl⟩) _ im z)];exact h.hl l hl
 ·by_cases e:p'=p
  ·rw [e,az,hv]
  ·rw [aH (fun z=>e (jn nC hp' hp z)),h2 _ hp' e]
   exact h.pl p' hp'
theorem Eh.keep {H:Hp} {B:rM} {ls:List aG} {ps:List PD} {ev:Str->List Int} {pc:PD->List Nat} {kk k2:Str->Int} (h:Eh H B ls ps ev pc kk) {kvs:List (Key×V)} (hk:kvs=bG k2 ps):Eh (upd H B.Kp (.dK kvs)) B ls ps ev pc k2:=by
 have n:=h.nod
 unfold rM.all rM.cells at n
 simp only [List.nodup_cons,List.mem_cons,List.mem_append,not_or] at n
 refine⟨?_,?_,by rw [az,hk],fun l hl=>?_,fun p hp=>?_,h.nod⟩
 ·rw [aH n.1.2.1];exact h.past
 ·rw [aH n.2.1.1];exact h.plcs
 ·rw [aH (fun z=>n.2.2.1.1 (by rw [<-z];exact List.mem_map.mpr ⟨l,hl,rfl⟩))];exact h.hl l hl
 ·rw [aH (fun z=>n.2.2.1.2 (by rw [<-z];exact List.mem_map.mpr ⟨p,hp,rfl⟩))];exact h.pl p hp
theorem Eh.lane {H:Hp} {B:rM} {ls:List aG} {ps:List PD} {ev ev2:Str->List Int} {pc:PD->List Nat} {kk:Str->Int} (h:Eh H B ls ps ev pc kk) {l:aG} (hl:l∈ls) {vs:List V} (hv:vs=(ev2 l.name).map V.int) (h2:∀x,x≠l.name->ev2 x=ev x):Eh (upd H (B.pa l.name) (.lst vs)) B ls ps ev2 pc kk:=by
 have n:=h.nod
 have im:B.pa l.name∈ls.map (fun l=>B.pa l.name):=List.mem_map.mpr ⟨l,hl,rfl⟩
 unfold rM.all rM.cells at n
 simp only [List.nodup_cons,List.mem_cons,List.mem_append,not_or] at n
 obtain⟨nA,nC,nB⟩:=List.nodup_append.mp n.2.2.2
 refine⟨?_,?_,?_,fun l' hl'=>?_,fun p hp=>?_,h.nod⟩
 ·rw [aH (fun z=>n.1.2.2.1 (by rw [z];exact im))];exact h.past
 ·rw [aH (fun z=>n.2.1.2.1 (by rw [z];exact im))];exact h.plcs
 ·rw [aH (fun z=>n.2.2.1.1 (by rw [z];exact im))];exact h.kept
 ·by_cases e:l'.name=l.name
  ·rw [e,az,hv]
  ·rw [aH (fun z=>e (by rw [jn nA hl' hl z])),h2 _ e]
   exact h.hl l' hl'
 ·rw [aH (fun z=>nB _ im _ (List.mem_map.mpr ⟨p,hp,rfl⟩) z.symm)]
  exact h.pl p hp
theorem rM.laIn {B:rM} {ls:List aG} {ps:List PD} {p:PD} (hp:p∈ps):B.la p.name∈B.cells ls ps:=.tail _ (List.mem_append.mpr (.inr (List.mem_map.mpr ⟨p,hp,rfl⟩)))
theorem rM.paIn {B:rM} {ls:List aG} {ps:List PD} {l:aG} (hl:l∈ls):B.pa l.name∈B.cells ls ps:=.tail _ (List.mem_append.mpr (.inl (List.mem_map.mpr ⟨l,hl,rfl⟩)))
theorem rM.kpIn {B:rM} {ls:List aG} {ps:List PD}:B.Kp∈B.cells ls ps:=.head _
theorem Wv {E E':List Addr} {H:Hp} (h:∀a∈E',a∈E):aM (bB E H) (bB E' H):=fun b o e=>by
 have hb:b∉E:=fun z=>by unfold bB at e;rw [if_pos z] at e;cases e
 exact cJ (cj _ _ e) fun z=>hb (h _ z)
theorem Eh.out {H:Hp} {B:rM} {ls:List aG} {ps:List PD} {ev:Str->List Int} {pc:PD->List Nat} {kk:Str->Int} (h:Eh H B ls ps ev pc kk) {a:Addr} (ha:(∀k,H a≠some (.dK k))/\∀x,H a≠some (.lst x)):a∉B.all ls ps:=fun z=>by
 unfold rM.all rM.cells at z
 simp only [List.mem_cons,List.mem_append,List.mem_map] at z
 rcases z with z | z | z | ⟨l,hl,z⟩ | ⟨p,hp,z⟩
 ·exact ha.1 _ (by rw [z];exact h.past)
 ·exact ha.1 _ (by rw [z];exact h.plcs)
 ·exact ha.1 _ (by rw [z];exact h.kept)
 ·exact ha.2 _ (by rw [<-z];exact h.hl l hl)
 ·exact ha.2 _ (by rw [<-z];exact h.pl p hp)
theorem Eh.new {H:Hp} {B:rM} {ls:List aG} {ps:List PD} {ev:Str->List Int} {pc:PD->List Nat} {kk:Str->Int} (h:Eh H B ls ps ev pc kk) {a:Addr} (ha:H a=none):a∉B.cells ls ps:=fun z=>h.out ⟨by simp [ha],by simp [ha]⟩ (.tail _ (.tail _ z))
theorem Uo {n j:Nat} (h:j <n):SM n (j:Int)=some j:=by
 unfold SM
 rw [if_pos (by omega),if_pos (by omega),Int.toNat_natCast]
noncomputable def Hc (ins:List Str) (g:Str->Nat) (qs:List Nat):List Nat:=ins.map fun x=>if x∈qs.map (strAt ins) then g x+1 else g x
theorem Ss {ins:List Str} {g:Str->Nat} {qs:List Nat} {j r:Nat} (nd:ins.Nodup) (nq:qs.Nodup) (hq:∀q∈qs,q <ins.length) (hr:qs[j]?=some r):(Hc ins g (qs.take j))[r]?=some (g (strAt ins r))/\(Hc ins g (qs.take j)).set r (g (strAt ins r)+1)=Hc ins g (qs.take (j+1)):=by
 have hrm:=List.mem_of_getElem? hr
 have hrl:=hq r hrm
 have ne:∀(i:Nat) (hi:i <ins.length) (q:Nat) (hq':q <ins.length),q≠i->ins[i]≠strAt ins q:=fun i hi q hq' h z=>by
  rw [lW hq'] at z
  exact h (((List.getElem_inj nd).mp z).symm)
 have nr:r∉qs.take j:=fun z=>by
  obtain⟨i,e⟩:=List.mem_iff_getElem?.mp z
  rw [List.getElem?_take] at e
  split at e
  ·rename_i hi
   obtain⟨h1,e1⟩:=List.getElem?_eq_some_iff.mp e
   obtain⟨h2,e2⟩:=List.getElem?_eq_some_iff.mp hr
   have:=(List.getElem_inj nq).mp (e1.trans e2.symm)
   omega
  ·cases e
 have n1:strAt ins r∉(qs.take j).map (strAt ins):=fun z=>by
  obtain⟨q,hq1,e⟩:=List.mem_map.mp z
  have hq2:=hq q (List.mem_of_mem_take hq1)
  exact ne r hrl q hq2 (fun z=>nr (by rw [<-z];exact hq1)) (by rw [e,lW hrl])
 refine⟨?_,?_⟩
 ·unfold Hc
  rw [List.getElem?_map,List.getElem?_eq_getElem hrl,Option.map_some,<-lW hrl,if_neg n1]
 ·refine List.ext_getElem? fun i=>?_
  unfold Hc
  rw [List.getElem?_set,List.getElem?_map,List.getElem?_map,lM,List.take_succ,hr,Option.toList_some,List.map_append]
  by_cases e:r=i
  ·subst e
   rw [if_pos rfl,if_pos hrl,List.getElem?_eq_getElem hrl,Option.map_some,<-lW hrl,if_pos (by simp)]
  ·rw [if_neg e]
   cases hi:ins[i]? with
   | none=>rfl
   | some x=>
    obtain⟨hil,hx⟩:=List.getElem?_eq_some_iff.mp hi
    have nx:=ne i hil r hrl e
    rw [hx] at nx
    rw [Option.map_some,Option.map_some]
    simp [nx]
noncomputable def Ox (S:FS) (p:PD) (qs:List Nat):PD->List Nat:=fun p'=>if p'.name=p.name then(if p.kind=0 then [S.d p.name+1] else Hc p.ins S.g qs) else Et S p'
theorem vB {E:List Addr} {H H' H'':Hp} (a:aM (bB E H) H') (b:aM (bB E H') H''):aM (bB E H) H'':=fun x o e=>b x o (cJ (a x o e) fun z=>by unfold bB at e;rw [if_pos z] at e;cases e)
theorem yW {E:List Addr} {H H':Hp} {a:Addr} {o:HO} (s:aM (bB E H) H') (ha:a∈E):aM (bB E H) (upd H' a o):=fun b u e=>by
 rw [aH (fun z=>by rw [z] at e;unfold bB at e;rw [if_pos ha] at e;cases e)]
 exact s b u e
inductive tH (K:PySem.W.Frag) (vs:List V) (H:Hp) (Q:VK):Prop where
 | mk:∀(b:Nat) (rA:Addr) (ws:List Int) (q:Addr) (B:rM) (ls:List aG) (ps:List PD) (p:PD) (S:FS) (kk:Str->Int),vs=[.ref B.P,.ref B.L,.ref B.Kp,.ref q,.ref rA]->Y6 H B ls ps S kk->Zy ps S kk->vh ls ps->KN b ls ps S->b<=90000->p∈ps->wV (bB (B.all ls ps) H) (.ref q) p->bI K (bB (B.all ls ps) H) rA (ws.map V.int)->((p.kind=0->ws=S.r p.name))->((dY S p=none->∀H',aM H H'->Q (.bl false) H'))->(∀dd,dY S p=some dd->∀H' kk',aM (bB (B.cells ls ps) H) H'->Y6 H' B ls ps (ju S p.name dd) kk'->Zy ps (ju S p.name dd) kk'->Q (.bl true) H')->tH K vs H Q
@[irreducible] noncomputable def fj (K:PySem.W.Frag):Sp:=fun vs H Q _=>tH K vs H Q
noncomputable abbrev wy:List Str:=["_law_past", "_law_places_here", "_law_kept", "_law_one", "_law_row", "_law_kind", "_law_name", "_law_numbers", "_law_ins", "_law_outs", "_law_heads_here", "_law_taken", "_law_values", "_law_place", "_law_given_here", "_law_value_here"]
theorem Dc (T:Txt w K mg t):FO P w K mg base 3 t.vU ["_law_past", "_law_places_here", "_law_kept", "_law_one", "_law_row"] (fj K):=by
 have sc:=T.qP.sc wy
 refine T.qP.F.ok sc (fun vs H Q E h=>?_) (fun cdv A outer s H vs Q E hr h=>?_)
 ·unfold fj at h
  obtain⟨b,rA,ws,q,B,ls,ps,p,S,kk,rfl,_⟩:=h
  rfl
 ·unfold fj at h
  obtain⟨b,rA,ws,q,B,ls,ps,p,S,kk,rfl,G,KH,F,O,hb,hp,hq,hw,h0w,kn,k⟩:=h
  refine⟨_,(au (Mg (pv 3) (jT rfl (bD (gN sc 5) (bD (gN sc 6) (bD (gN sc 7) (bD (gN sc 8) (bD (gN sc 9) fQ)))))))
   (au (sN sc 10 (dZ (Ew T) T.sE hr (aa (pv 0) (aa (pv 1) (aa (pv 3) ak aj) aj) aj)))
   (au (sN sc 11 (dZ (CQ T) T.qH hr (aa (pv 5) (aa (pv 10) ak aj) aj)))
   (au (fu (bR (PW.pt (rF (il (uM (pv 11))) (kj (PW.pt (xr (aW dU (pv 5) bK (bC _)) (vL (aW (V6 hr.units) (bV hr.u1 (pv 1) (pv 6) (fun _ _=>rfl)) (bw (aa (bf bN (by rfl) T.dX cH (aa (pv 4) ak aj)) ak aY)) (bC _))))))))
    (aA (aN iu))
    aZ))
   (au (mH (i:=12) [10] wy (bc (top 80)) rfl sc.nd rfl (b8 (pv 11)) (fun _ _ _ _ _=>jr) (fun _ _ _ _ _=>(aR (J1 (K:=K) rfl) (pv 1) (pv 0) (fun _ _=>rfl))))
   (au (fu (bR (aW dU (pv 5) bK (bC _))
    (au (sN sc 12 (bw (aa (aR aO (pv 4) (aR aO (bV hr.u1 (pv 1) (pv 6) (fun _ _=>rfl)) aq (fun _ _=>rfl)) (fun _ _=>rfl)) ak aD)))
    (aA (NZ (bV hr.u1 (pv 1) (pv 6) (fun _ _=>rfl)) aq Ka aq Qa set_list (fun _ _ _=>rfl))))
    aZ))
   (au (dD PassesOwn.never rfl (b8 (pv 11)) (gN sc 13)
    (aA (NZ (bV hr.u1 (pv 1) (pv 6) (fun _ _=>rfl)) (pv 13) Ka aq Qa set_list (fun _ _ _=>rfl))))
   (au (Mg (dZ (Eu T) T.yp hr (aa (pv 5) (aa (pv 7) (aa (pv 12) (aa (bV hr.u1 (pv 2) (pv 6) (fun _ _=>rfl)) ak aD) aj) aj) aj)) (jT rfl (bD (gN sc 14) (bD (V7 (pv 2) (pv 6) (set_dict hr.u1)) fQ))))
   (au (dD PassesOwn.never rfl (b8 (pv 14)) (jT rfl (bD (gN sc 13) (bD (gN sc 15) fQ)))
    (aA (bL (Hx (bV hr.u1 (pv 0) (aR aO (pv 9) (pv 13) (fun _ _=>rfl)) (fun _ _=>rfl)) (aa (pv 15) ak aj)))))
   (aA (aN iu))))))))))),?_⟩
  have hz:sizeLine=16777216:=sizeLine_eq
  obtain⟨_,a1,a2,a3,eq,q0,q1,q2,q3⟩:=id hq
  cases eq
  have cs:=cj (E:=B.all ls ps) (H:=H)
  have ok:=F.pok p hp
  have hO:=ph S p ok
  have h3i:p.ins.length<=3:=by rw [ok.2.2.1];exact vV _
  refine⟨_,rfl,q,_,rfl,eQ.of (cs _ _ q0),rfl,_,_,rfl,_,_,rfl,_,_,rfl,_,_,rfl,_,_,rfl,rfl,?_⟩
  refine⟨_,rfl,_,rfl,_,rfl,q,B,ls,ps,p,S,kk,rfl,G,F,hp,hq.same cs,fun H1 hd s1 nhd ehd=>?_⟩
  refine⟨_,rfl,_,rfl,YG ok.1 (bI.of ehd) hO (fun hn H3 s3=>?_) (fun qs hqs H3 Lp s3 nLp eLp=>?_)⟩
  ·rw [JW ok] at hn
   split at hn
   ·cases hn
   ·rename_i hlk
    exact⟨fun _ _=>False,⟨_,rfl,_,rfl,gj (gj (kn (Dd hlk) H3 (s1.trans s3)))⟩,fun _ _ h=>h.elim⟩
  rw [JW ok] at hqs
  split at hqs
  case isFalse=>cases hqs
  rename_i hlk
  cases hqs
  have hpl:(places p.kind (aQ S p)).length<=3:=places_len hO
  have s03:=s1.trans s3
  have G3:=G.same s03
  have nLp':Lp∉B.cells ls ps:=(G.same s1).new nLp
  refine⟨fun σ' H'=>aM H3 H'/\vO S p=false/\σ'=[some (.ref B.P),some (.ref B.L),some (.ref B.Kp),some (.ref q),some (.ref rA),some (.str (cL p.kind)),some (.str p.name),some (.ref a1),some (.ref a2),some (.ref a3),some (.ref hd),some (.ref Lp),none,none,none,none],?_,?_⟩
  ·refine⟨_,rfl,_,rfl,dz ⟨_,rfl,rfl,_,rfl,?_⟩⟩
   rw [MF _ ok.1]
   by_cases h0:p.kind=0
   ·rw [decide_eq_true h0]
    have e0:H3 (B.la p.name)=some (.lst ([(S.d p.name:Int)].map V.int)):=by
     have:=G3.pl p hp
     unfold Et at this
     rw [if_pos h0] at this
     exact this
    have g1:Gd 1 (.list ([(S.d p.name:Int)].map PyData.int)):=.list (.ints 0 _)
    have g2:Gd 1 (.list ([(ws.length:Int)].map PyData.int)):=.list (.ints 0 _)
    refine gj ⟨_,rfl,_,rfl,B.L,_,rfl,MT G3.plcs (vD F.pnd hp),_,rfl,_,ws.length,rfl,.inl ⟨_,(cs.trans s03).seq hw,by rw [lM]⟩,jl,fun u nu=>⟨_,_,lE (bI.of (aB nu _ _ e0)),lE (ws:=[(ws.length:Int)]) (bI.of az),g1.shaped (by decide),g2.shaped (by decide),_,rfl,?_⟩⟩
    have t4:=aB (o:=.lst [.int ws.length]) nu
    have hd0:=O.dl p hp h0
    rw [h0w h0]
    cases he:vO S p with
    | true=>
     have hd:S.d p.name=(S.r p.name).length:=by unfold vO at he;simpa [h0] using he
     rw [<-hd,g1.eq]
     exact gj (kn (Fx he) _ (by rw [hd,<-h0w h0];exact s03.trans t4))
    | false=>
     have hd:S.d p.name <(S.r p.name).length:=by unfold vO at he;simp [h0] at he;omega
     rw [show PyData.eqv (.list ([(S.d p.name:Int)].map PyData.int)) (.list ([((S.r p.name).length:Int)].map PyData.int))=false by simp [PyData.eqv,PyData.eqvAll];omega]
     exact dz ⟨by rw [<-h0w h0];exact t4,rfl,rfl⟩
   ·rw [decide_eq_false h0]
    exact dz ⟨aM.refl _,by unfold vO;simp [h0],rfl⟩
  rintro σ' H4 ⟨s34,he,rfl⟩
  have s04:=s03.trans s34
  have eLp4:=s34 _ _ eLp
  have ed4:=s34 _ _ (s3 _ _ ehd)
  obtain⟨lw,hB,hv,hw0⟩:=NT F O hp hlk he
  refine⟨_,rfl,Lp,rfl,⟨_,bI.of eLp4⟩,jd (K:=K) (a:=Lp) (xs:=(places p.kind (aQ S p)).map nV) (fun j ys H'=>H'=H4/\ys=((places p.kind (aQ S p)).take j).map (fun q=>((aQ S p)[q]?).getD .non)) (by rw [lM];omega) ⟨rfl,rfl⟩ (fun j ys H' ⟨_,e⟩=>by rw [e,lM,List.length_take];omega) (fun j ys H' _ ⟨e,_⟩=>by rw [e];exact bI.of eLp4) ?_ ?_⟩
  ·rintro j v ys H' hv' ⟨e',rfl⟩
   subst e'
   rw [List.getElem?_map] at hv'
   obtain⟨r,hr',rfl⟩:=Option.map_eq_some_iff.mp hv'
   have hql:r <(aQ S p).length:=f9 hO r (List.mem_of_getElem? hr')
   refine yes ⟨_,rfl,_,rfl,hd,aQ S p,r,_,rfl,rfl,bI.of ed4,aK (j:=r) (List.getElem?_eq_getElem hql),rfl,?_⟩
   rw [List.take_succ,hr',Option.toList_some,List.map_append,List.map_cons,List.map_nil,List.getElem?_eq_getElem hql]
   rfl
  rintro ys H' ⟨e',rfl⟩ V1 nV1
  subst e'
  rw [lM,List.take_length]
  have G4:=G.same s04
  have nV1':V1∉B.cells ls ps:=G4.new nV1
  have t5:=aB (o:=.lst ((places p.kind (aQ S p)).map fun q=>((aQ S p)[q]?).getD .non)) nV1
  have eV:(upd H' V1 (.lst ((places p.kind (aQ S p)).map fun q=>((aQ S p)[q]?).getD .non))) V1=some (.lst ((places p.kind (aQ S p)).map fun q=>((aQ S p)[q]?).getD .non)):=az
  generalize upd H' V1 (.lst ((places p.kind (aQ S p)).map fun q=>((aQ S p)[q]?).getD .non))=H5 at t5 eV ⊢
  have s05:=s04.trans t5
  have G5:=G.same s05
  have eLp5:=t5 _ _ eLp4
  have tl:∀a∈B.cells ls ps,a∈B.all ls ps:=fun a ha=>.tail _ (.tail _ ha)
  refine⟨fun σ' H6=>∃V2,σ'=[some (.ref B.P),some (.ref B.L),some (.ref B.Kp),some (.ref q),some (.ref rA),some (.str (cL p.kind)),some (.str p.name),some (.ref a1),some (.ref a2),some (.ref a3),some (.ref hd),some (.ref Lp),some (.ref V2),none,none,none]/\aM (bB (B.cells ls ps) H) H6/\Eh H6 B ls ps S.ev (Ox S p []) kk/\bB (B.cells ls ps) H6 V2=some (.lst ((pO S p).map V.int))/\bB (B.cells ls ps) H6 Lp=some (.lst ((places p.kind (aQ S p)).map nV)),?_,?_⟩
  ·refine⟨_,rfl,rfl,_,rfl,?_⟩
   rw [MF _ ok.1]
   by_cases h0:p.kind=0
   ·rw [decide_eq_true h0]
    obtain⟨v,hv1,hv2⟩:=hw0 h0
    have e0:H5 (B.la p.name)=some (.lst [nV (S.d p.name)]):=by
     have:=G5.pl p hp
     unfold Et at this
     rw [if_pos h0] at this
     exact this
    refine gj ⟨_,rfl,_,rfl,_,rfl,B.L,_,rfl,MT G5.plcs (vD F.pnd hp),B.la p.name,_,0,_,rfl,rfl,bI.of e0,aK (j:=0) rfl,rA,_,S.d p.name,.int v,rfl,rfl,(cs.trans s05).seq hw,aK (by rw [List.getElem?_map,h0w h0,hv1];rfl),jl,fun V2 nV2=>?_⟩
    have t6:=aB (o:=.lst [.int v]) nV2
    have e6:=t6 _ _ e0
    have G6:=G5.same t6
    refine⟨_,rfl,_,rfl,B.L,_,rfl,MT G6.plcs (vD F.pnd hp),B.la p.name,_,0,_,rfl,rfl,Int.le_refl _,bI.of e6,aK (j:=0) rfl,_,_,rfl,rfl,B.la p.name,_,0,0,rfl,rfl,e6,rfl,V2,rfl,yW (cj.trans (s05.trans t6)) (rM.laIn hp),G6.place hp ?_ ?_,?_,?_⟩
    ·unfold Ox
     rw [if_pos rfl,if_pos h0]
     rfl
    ·intro p' hp' ne
     unfold Ox
     rw [if_neg fun z=>ne (jn F.pnd hp' hp z)]
    ·rw [eU (rM.laIn hp),hv2]
     exact cJ az (G5.new nV2)
    ·rw [eU (rM.laIn hp)]
     exact cJ (t6 _ _ eLp5) nLp'
   ·rw [decide_eq_false h0]
    refine dz ⟨V1,rfl,cj.trans s05,?_,?_,cJ eLp5 nLp'⟩
    ·have:Et S p=Ox S p [] p:=by unfold Et Ox Hc;rw [if_neg h0,if_pos rfl,if_neg h0];simp
     refine⟨G5.past,G5.plcs,G5.kept,G5.hl,fun p' hp'=>?_,G5.nod⟩
     by_cases e:p'=p
     ·rw [e,<-this];exact G5.pl p hp
     ·rw [G5.pl p' hp']
      unfold Ox
      rw [if_neg fun z=>e (jn F.pnd hp' hp z)]
    ·rw [<-hv h0]
     exact cJ eV nV1'
  rintro σ' H6 ⟨V2,rfl,s6,W6,eV2,eLp6⟩
  have nI:p.ins.Nodup:=BJ (F.whole.ins.nodup_iff.mpr F.whole.nod) hp
  refine⟨_,rfl,Lp,rfl,⟨_,bI.of (cj _ _ eLp6)⟩,cU (K:=K) (a:=Lp) (xs:=(places p.kind (aQ S p)).map nV) (fun j σ H'=>(∃v1,σ=[some (.ref B.P),some (.ref B.L),some (.ref B.Kp),some (.ref q),some (.ref rA),some (.str (cL p.kind)),some (.str p.name),some (.ref a1),some (.ref a2),some (.ref a3),some (.ref hd),some (.ref Lp),some (.ref V2),v1,none,none])/\aM (bB (B.cells ls ps) H6) H'/\Eh H' B ls ps S.ev (Ox S p ((places p.kind (aQ S p)).take j)) kk) ⟨⟨none,rfl⟩,cj,W6⟩ (fun j σ H' _ h=>bI.of (h.2.1 _ _ eLp6)) ?_ ?_⟩
  ·rintro j x σ H7 hx ⟨⟨v1,rfl⟩,s7,W7⟩
   rw [List.getElem?_map] at hx
   obtain⟨r,hr,rfl⟩:=Option.map_eq_some_iff.mp hx
   have hrm:=List.mem_of_getElem? hr
   have h0:p.kind≠0:=fun z=>by
    have:=f9 hO r hrm
    unfold aQ at this
    rw [lM,ok.2.2.1,z] at this
    exact Nat.not_lt_zero _ this
   have hlt:∀q∈places p.kind (aQ S p),q <p.ins.length:=fun q hq=>by have:=f9 hO q hq;unfold aQ at this;rwa [lM] at this
   obtain⟨i1,i2⟩:=Ss (g:=S.g) nI Gj hlt hr
   have ep:H7 (B.la p.name)=some (.lst ((Hc p.ins S.g ((places p.kind (aQ S p)).take j)).map nV)):=by
    have:=W7.pl p hp
    unfold Ox at this
    rwa [if_pos rfl,if_neg h0] at this
   refine⟨_,rfl,_,rfl,B.L,_,rfl,MT W7.plcs (vD F.pnd hp),_,rfl,B.la p.name,_,r,_,rfl,rfl,Int.natCast_nonneg _,bI.of ep,aK (by rw [List.getElem?_map,i1];rfl),_,_,rfl,rfl,B.la p.name,_,r,r,rfl,rfl,ep,Uo (by rw [lM];unfold Hc;rw [lM];exact hlt r hrm),⟨_,rfl⟩,yW s7 (rM.laIn hp),W7.place hp ?_ ?_⟩
   ·unfold Ox
    rw [if_pos rfl,if_neg h0,<-i2,List.map_set]
    rfl
   ·intro p' hp' ne
    unfold Ox
    rw [if_neg fun z=>ne (jn F.pnd hp' hp z),if_neg fun z=>ne (jn F.pnd hp' hp z)]
  rintro σ H7 ⟨⟨v1,rfl⟩,s7,W7⟩
  rw [lM,List.take_length] at W7
  have sA:aM (bB (B.all ls ps) H) H7:=fun b' o e=>s7 _ _ (cJ (s6 _ _ (Wv tl _ _ e)) fun z=>by unfold bB at e;rw [if_pos (tl _ z)] at e;cases e)
  have eo:cz p.kind p.nums (pO S p) (kk p.name)=cz p.kind p.nums (pO S p) (S.k p.name):=by
   by_cases h5:p.kind=5
   ·rw [KH p hp h5]
   ·exact Ug h5 _ _ _ _
  have hdd:dY S p=some ⟨(places p.kind (aQ S p)).map (strAt p.ins),(cz p.kind p.nums (pO S p) (S.k p.name)).map fun pv=>(strAt p.outs pv.1.toNat,pv.2),d9 p.kind (pO S p) (S.k p.name)⟩:=by unfold dY;rw [if_neg (by simp [hlk]),if_neg (by simp [he])]
  refine⟨_,rfl,_,rfl,_,rfl,_,rfl,_,rfl,B.Kp,_,rfl,MT W7.kept (lg F.pnd hp),p.kind,V2,a1,p.nums,pO S p,kk p.name,rfl,ok.1,bI.of (sA _ _ q1),ok.2.1,bI.of (s7 _ _ eV2),lw,hB,fun H8 U0 L0 rs s8 nL0 eU0 eL0 tU=>?_⟩
  rw [eo] at tU
  have hwl:=BR (show p.kind<=10 by have:=ok.1;omega) p.nums (pO S p) (S.k p.name)
  have hw2:=yS p.kind p.nums (pO S p) (S.k p.name)
  have tko:∀{dd:gK},dY S p=some dd->∀x∈dd.tk,x∈p.ins:=fun h x hx=>(J7 F hp h hx).1
  generalize ew:cz p.kind p.nums (pO S p) (S.k p.name)=wo at tU hwl hw2 hdd
  have hlr:rs.length=wo.length:=by have:=Paired.length tU;unfold BK at this;rw [lM] at this;exact this
  have W8:=W7.same s8
  have sA8:=sA.trans s8
  have nL0':L0∉B.cells ls ps:=W7.new nL0
  have p16:=F.p16
  refine⟨U0,_,rfl,eQ.of eU0,rfl,_,_,rfl,_,_,rfl,_,rfl,_,rfl,B.Kp,_,rfl,j7.k (k:=Sum.inr p.name) W8.kept (by unfold bG;rw [lM];omega),rfl,?_⟩
  have s9:aM (bB (B.cells ls ps) H8) (upd H8 B.Kp (.dK (putK (bG kk ps) (Sum.inr p.name) (.int (d9 p.kind (pO S p) (kk p.name)))))):=yW cj rM.kpIn
  have W9:=W8.keep (vy kk (List.mem_map.mpr ⟨p,hp,rfl⟩) (d9 p.kind (pO S p) (kk p.name)))
  generalize upd H8 B.Kp (.dK (putK (bG kk ps) (Sum.inr p.name) (.int (d9 p.kind (pO S p) (kk p.name)))))=H9 at s9 W9 ⊢
  have eL9:bB (B.cells ls ps) H9 L0=some (.lst (rs.map V.ref)):=cJ (s9 _ _ (cJ eL0 nL0')) nL0'
  have tup9:∀{a:Addr} {v:List V},H8 a=some (.tup v)->bB (B.cells ls ps) H9 a=some (.tup v):=fun {a v} e=>by
   have n:a∉B.cells ls ps:=fun z=>W8.out ⟨fun k z=>(by rw [e] at z;cases z),fun x z=>(by rw [e] at z;cases z)⟩ (tl _ z)
   exact cJ (s9 _ _ (cJ e n)) n
  have sA9:aM (bB (B.all ls ps) H) (bB (B.cells ls ps) H9):=fun b' o e=>by
   have n:b'∉B.cells ls ps:=fun z=>by unfold bB at e;rw [if_pos (tl _ z)] at e;cases e
   exact cJ (s9 _ _ (cJ (sA8 _ _ e) n)) n
  have pvAt:∀{j:Nat} {r:Addr},rs[j]?=some r->∃pv l,wo[j]?=some pv/\H8 r=some (.tup [.int pv.1,.int pv.2])/\l∈ls/\strAt p.outs pv.1.toNat=l.name/\Es (p.outs.map V.str) pv.1=some (.str l.name):=fun {j r} hr'=>by
   have hjl:j <wo.length:=by have:=(List.getElem?_eq_some_iff.mp hr').1;omega
   obtain⟨pv,hpv⟩:∃pv,wo[j]?=some pv:=⟨_,List.getElem?_eq_getElem hjl⟩
   obtain⟨vs2,z1,z2⟩:=uv tU hr'
   unfold BK at z1
   rw [List.getElem?_map,hpv] at z1
   cases z1
   obtain⟨o,ho1,ho2⟩:=hwl _ (List.mem_of_getElem? hpv)
   have ho3:o <p.outs.length:=by rw [ok.2.2.2.1];exact ho2
   obtain⟨l,hl,el⟩:=F.inL hp (List.mem_append.mpr (.inr (List.getElem_mem ho3)))
   refine⟨pv,l,hpv,z2,hl,by rw [ho1,Int.toNat_natCast,lW ho3,el],?_⟩
   rw [ho1,el]
   exact aK (j:=o) (by rw [List.getElem?_map,List.getElem?_eq_getElem ho3];rfl)
  refine⟨_,rfl,L0,rfl,⟨_,bI.of (cj _ _ eL9)⟩,cU (K:=K) (a:=L0) (xs:=rs.map V.ref) (fun j σ H'=>(∃v1 v2,σ=[some (.ref B.P),some (.ref B.L),some (.ref B.Kp),some (.ref q),some (.ref rA),some (.str (cL p.kind)),some (.str p.name),some (.ref a1),some (.ref a2),some (.ref a3),some (.ref hd),some (.ref Lp),some (.ref V2),v1,some (.ref L0),v2])/\aM (bB (B.cells ls ps) H9) H'/\Eh H' B ls ps (fun y=>S.ev y ++ (((wo.map fun pv=>(strAt p.outs pv.1.toNat,pv.2)).take j).filter fun z=>decide (z.1=y)).map (·.2)) (Ox S p (places p.kind (aQ S p))) (fun y=>if y=p.name then d9 p.kind (pO S p) (kk p.name) else kk y)) ⟨⟨_,_,rfl⟩,cj,by simpa using W9⟩ (fun j σ H' _ h=>bI.of (h.2.1 _ _ eL9)) ?_ ?_⟩
  ·rintro j x σ H10 hx ⟨⟨w1,w2,rfl⟩,s10,W10⟩
   rw [List.getElem?_map] at hx
   obtain⟨u,hu,rfl⟩:=Option.map_eq_some_iff.mp hx
   obtain⟨pv,l,hpv,eu,hl,es,ea⟩:=pvAt hu
   have lb:=O.len l hl
   have e10:=W10.hl l hl
   refine⟨u,_,rfl,eQ.of (s10 _ _ (tup9 eu)),rfl,_,_,rfl,_,_,rfl,rfl,?_⟩
   refine⟨_,rfl,_,rfl,_,rfl,a3,_,pv.1,_,rfl,rfl,bI.of (s10 _ _ (sA9 _ _ q3)),ea,B.P,_,rfl,MT W10.past (jA F.whole.nod hl),.inl ⟨rfl,_,bI.of e10⟩,_,rfl,B.pa l.name,_,_,rfl,rfl,e10,?_,⟨_,_,rfl⟩,yW s10 (rM.paIn hl),W10.lane hl ?_ ?_⟩
   ·rw [lM,lP,lM]
    have:((((wo.map fun pv=>(strAt p.outs pv.1.toNat,pv.2)).take j).filter fun z=>decide (z.1=l.name))).length<=wo.length:=Nat.le_trans (List.length_filter_le _ _) (by rw [List.length_take,lM];omega)
    omega
   ·show _=List.map V.int (S.ev l.name ++ _)
    rw [List.take_succ,List.getElem?_map,hpv,Option.map_some,Option.toList_some,List.filter_append,List.map_append,List.map_append,List.map_append,List.map_append,List.append_assoc]
    rw [show([(strAt p.outs pv.1.toNat,pv.2)].filter fun z=>decide (z.1=l.name))=[(strAt p.outs pv.1.toNat,pv.2)] by simp [es]]
    rfl
   ·intro y hy
    show S.ev y ++ _=S.ev y ++ _
    rw [List.take_succ,List.getElem?_map,hpv,Option.map_some,Option.toList_some,List.filter_append]
    rw [show([(strAt p.outs pv.1.toNat,pv.2)].filter fun z=>decide (z.1=y))=[] by simp [es,Ne.symm hy],List.append_nil]
  rintro σ H10 ⟨⟨w1,w2,rfl⟩,s10,W10⟩
  rw [lM,hlr,List.take_of_length_le (by rw [lM];exact Nat.le_refl _)] at W10
  have sF:aM (bB (B.cells ls ps) H) H10:=vB s6 (vB s7 (vB (cj.trans s8) (vB s9 s10)))
  refine k _ hdd H10 _ sF ⟨W10.past,W10.plcs,W10.kept,W10.hl,fun p' hp'=>?_,W10.nod⟩ ?_
  ·rw [W10.pl p' hp']
   have:Ox S p (places p.kind (aQ S p)) p'=Et (ju S p.name ⟨(places p.kind (aQ S p)).map (strAt p.ins),wo.map fun pv=>(strAt p.outs pv.1.toNat,pv.2),d9 p.kind (pO S p) (S.k p.name)⟩) p':=by
    unfold Ox Et
    by_cases e:p'=p
    ·subst e
     rw [if_pos rfl]
     show _=if p'.kind=0 then [if p'.name=p'.name then S.d p'.name+1 else S.d p'.name] else _
     rw [if_pos rfl]
     rfl
    ·have nn:p'.name≠p.name:=fun z=>e (jn F.pnd hp' hp z)
     rw [if_neg nn]
     show _=if p'.kind=0 then [if p'.name=p.name then S.d p'.name+1 else S.d p'.name] else p'.ins.map fun y=>if y∈(places p.kind (aQ S p)).map (strAt p.ins) then S.g y+1 else S.g y
     rw [if_neg nn]
     split
     ·rfl
     ·refine List.map_congr_left fun y hy=>?_
      rw [if_neg fun z=>e (uO (F.whole.ins.nodup_iff.mpr F.whole.nod) hp' hp hy (tko hdd y z))]
   rw [this]
  ·intro p' hp' h5
   show(if p'.name=p.name then d9 p.kind (pO S p) (kk p.name) else kk p'.name)=if p'.name=p.name then d9 p.kind (pO S p) (S.k p.name) else S.k p'.name
   by_cases e:p'.name=p.name
   ·rw [if_pos e,if_pos e]
    have:=jn F.pnd hp' hp e
    subst this
    rw [KH p' hp' h5]
   ·rw [if_neg e,if_neg e]
    exact KH p' hp' h5
noncomputable def Zz (S:FS) (p:PD):List (Str×Int):=(cz p.kind p.nums (pO S p) (S.k p.name)).map fun pv=>(strAt p.outs pv.1.toNat,pv.2)
noncomputable def Pz (S:FS) (p:PD):List Str:=(Zz S p).map (·.1)
theorem Te {S:FS} {p:PD} (ok:m5 p) (hA:p.kind≠10):Pz S p=p.outs:=by
 have h:=ok.1
 have hO:=ok.2.2.2.1
 unfold Pz Zz
 rw [List.map_map]
 have key:∀i,i <11->i≠10->∀(ns ws:List Int) (k:Int),(cz i ns ws k).map (fun pv=>pv.1.toNat)=List.range (cO i):=by
  intro i hi hn ns ws k
  match i,hi,hn with
  | 0,_,_=>rfl
  | 1,_,_=>rfl
  | 2,_,_=>rfl
  | 3,_,_=>rfl
  | 4,_,_=>rfl
  | 5,_,_=>rfl
  | 6,_,_=>rfl
  | 7,_,_=>rfl
  | 8,_,_=>rfl
  | 9,_,_=>rfl
  | 10,_,hn=>exact absurd rfl hn
 have e:(cz p.kind p.nums (pO S p) (S.k p.name)).map ((fun q:Str×Int=>q.1)∘fun pv=>(strAt p.outs pv.1.toNat,pv.2))=((cz p.kind p.nums (pO S p) (S.k p.name)).map (fun pv=>pv.1.toNat)).map (strAt p.outs):=by rw [List.map_map];rfl
 rw [e,key _ h hA,<-hO]
 refine List.ext_getElem? fun i=>?_
 rw [List.getElem?_map]
 by_cases h:i <p.outs.length
 ·rw [List.getElem?_range h,List.getElem?_eq_getElem h,Option.map_some,lW h]
 ·rw [List.getElem?_eq_none (by rw [List.length_range];omega),List.getElem?_eq_none (by omega)]
  rfl
theorem V8 {S:FS} {p:PD} (ok:m5 p) {x:Str} (hx:x∈Pz S p):x∈p.outs:=by
 obtain⟨q,hq,rfl⟩:=List.mem_map.mp hx
 obtain⟨pv,hpv,rfl⟩:=List.mem_map.mp hq
 obtain⟨o,ho1,ho2⟩:=BR (show p.kind<=10 by have:=ok.1;omega) _ _ _ _ hpv
 refine zX ?_
 rw [ho1,Int.toNat_natCast,ok.2.2.2.1]
 exact ho2
theorem NK {ls:List aG} {ps:List PD} {S:FS} (F:vh ls ps) {p:PD} (hp:p∈ps) {dd:gK} (h:dY S p=some dd):(dd.gv.map (·.1)).Nodup/\∀q∈dd.gv,q.1∈p.outs:=by
 obtain⟨_,_,rfl⟩:=iB h
 have ok:=F.pok p hp
 have eg:((cz p.kind p.nums (pO S p) (S.k p.name)).map fun pv=>(strAt p.outs pv.1.toNat,pv.2)).map (·.1)=Pz S p:=rfl
 refine⟨?_,fun q hq=>V8 (S:=S) ok (List.mem_map.mpr ⟨q,hq,rfl⟩)⟩
 show(((cz p.kind p.nums (pO S p) (S.k p.name)).map fun pv=>(strAt p.outs pv.1.toNat,pv.2)).map (·.1)).Nodup
 rw [eg]
 by_cases hA:p.kind=10
 ·unfold Pz Zz
  rw [hA]
  show [_].Nodup
  simp
 ·rw [Te ok hA]
  exact BJ (F.whole.outs.nodup_iff.mpr F.whole.nod) hp
theorem KQ {ls:List aG} {ps:List PD} {S:FS} (F:vh ls ps) {p q:PD} (hp:p∈ps) (hq:q∈ps) (hne:p≠q) {dd:gK} (h:dY S p=some dd) {x:Str} (hx:x∈q.ins) {n:Int} (hn:jc S x=.int n):jc (ju S p.name dd) x=.int n:=by
 have hg:x∉dd.tk:=fun z=>by
  have h1:=(J7 F hp h z).1
  have nd:=F.whole.ins.nodup_iff.mpr F.whole.nod
  exact hne (uO nd hp hq h1 hx)
 unfold jc at hn ⊢
 show((((S.ev x) ++ _)[if x∈dd.tk then S.g x+1 else S.g x]?).map V.int).getD .non=.int n
 rw [if_neg hg]
 cases e:(S.ev x)[S.g x]? with
 | none=>rw [e] at hn;cases hn
 | some m=>
  rw [e] at hn
  rw [List.getElem?_append_left (List.getElem?_eq_some_iff.mp e).1,e]
  exact hn
theorem zr {ls:List aG} {ps:List PD} {S:FS} (F:vh ls ps) {p q:PD} (hp:p∈ps) (hq:q∈ps) (hne:p≠q) {dd dq:gK} (h:dY S p=some dd) (hd:dY S q=some dq):dY (ju S p.name dd) q=some dq:=by
 obtain⟨hl,he,rfl⟩:=iB hd
 have ok:=F.pok q hq
 have hno:=Je ok hl
 have nn:q.name≠p.name:=fun z=>hne (jn F.pnd hp hq z.symm)
 have at':∀i∈places q.kind (aQ S q),∃n,(aQ S q)[i]?=some (.int n)/\(aQ (ju S p.name dd) q)[i]?=some (.int n):=fun i hi=>by
  obtain⟨x,n,e1,e2,_⟩:=hno i hi
  refine⟨n,e2,?_⟩
  unfold aQ at e2 ⊢
  rw [List.getElem?_map,e1] at e2 ⊢
  rw [Option.map_some] at e2 ⊢
  rw [KQ F hp hq hne h (List.mem_of_getElem? e1) (Option.some.inj e2)]
 have pl:places q.kind (aQ (ju S p.name dd) q)=places q.kind (aQ S q):=by
  by_cases h9:q.kind=9
  ·obtain⟨n,e1,e2⟩:=at' 0 (by unfold places;rw [if_pos h9];split <;> simp)
   unfold places
   rw [if_pos h9,if_pos h9]
   cases a:aQ S q with
   | nil=>rw [a] at e1;cases e1
   | cons u r=>
    rw [a] at e1
    cases b:aQ (ju S p.name dd) q with
    | nil=>rw [b] at e2;cases e2
    | cons v s=>
     rw [b] at e2
     have e1:u=.int n:=by simpa using e1
     have e2:v=.int n:=by simpa using e2
     rw [e1,e2]
  ·unfold places aQ
   rw [if_neg h9,if_neg h9,lM,lM]
 have ws:pO (ju S p.name dd) q=pO S q:=by
  unfold pO
  rw [pl]
  by_cases h0:q.kind=0
  ·rw [if_pos h0,if_pos h0]
   show((S.r q.name)[if q.name=p.name then _ else S.d q.name]?).toList=_
   rw [if_neg nn]
  ·rw [if_neg h0,if_neg h0]
   refine List.map_congr_left fun i hi=>?_
   obtain⟨n,e1,e2⟩:=at' i hi
   rw [e1,e2]
 have kk:(ju S p.name dd).k q.name=S.k q.name:=if_neg nn
 have hl':fM q.kind q.ins (aQ (ju S p.name dd) q)=.non:=by
  unfold fM
  rw [pl,List.find?_eq_none.mpr fun i hi=>?_]
  obtain⟨n,_,e2⟩:=at' i hi
  unfold j6
  rw [e2]
  simp
 have he':vO (ju S p.name dd) q=false:=by
  unfold vO at he ⊢
  show(decide (q.kind=0) && decide ((if q.name=p.name then _ else S.d q.name)=(S.r q.name).length))=false
  rw [if_neg nn]
  exact he
 unfold dY
 rw [if_neg (by simp [hl']),if_neg (by simp [he']),pl,ws,kk]
theorem Tc {ls:List aG} {ps:List PD} {S:FS} (F:vh ls ps) {p q:PD} (hp:p∈ps) (hq:q∈ps) (hne:p≠q) {dd dq:gK} (h:dY S p=some dd) (hd:dY S q=some dq):ju (ju S p.name dd) q.name dq=ju (ju S q.name dq) p.name dd:=by
 have nn:q.name≠p.name:=fun z=>hne (jn F.pnd hp hq z.symm)
 have go:=(NK F hp h).2
 have gq:=(NK F hq hd).2
 have nd:=F.whole.outs.nodup_iff.mpr F.whole.nod
 have e1:(ju (ju S p.name dd) q.name dq).ev=(ju (ju S q.name dq) p.name dd).ev:=by
  funext y
  show(S.ev y ++ (dd.gv.filter fun z=>decide (z.1=y)).map (·.2)) ++ (dq.gv.filter fun z=>decide (z.1=y)).map (·.2)=(S.ev y ++ (dq.gv.filter fun z=>decide (z.1=y)).map (·.2)) ++ (dd.gv.filter fun z=>decide (z.1=y)).map (·.2)
  by_cases ha:(dd.gv.filter fun z=>decide (z.1=y))=[]
  ·rw [ha];simp
  ·by_cases hb:(dq.gv.filter fun z=>decide (z.1=y))=[]
   ·rw [hb];simp
   ·obtain⟨a,ha⟩:=List.exists_mem_of_ne_nil _ ha
    obtain⟨b,hb⟩:=List.exists_mem_of_ne_nil _ hb
    obtain⟨a1,a2⟩:=List.mem_filter.mp ha
    obtain⟨b1,b2⟩:=List.mem_filter.mp hb
    have z1:=go a a1
    have z2:=gq b b1
    rw [of_decide_eq_true a2] at z1
    rw [of_decide_eq_true b2] at z2
    exact absurd (uO nd hp hq z1 z2) hne
 have e2:(ju (ju S p.name dd) q.name dq).g=(ju (ju S q.name dq) p.name dd).g:=by
  funext y
  show(if y∈dq.tk then(if y∈dd.tk then S.g y+1 else S.g y)+1 else if y∈dd.tk then S.g y+1 else S.g y)=if y∈dd.tk then(if y∈dq.tk then S.g y+1 else S.g y)+1 else if y∈dq.tk then S.g y+1 else S.g y
  by_cases a:y∈dq.tk <;> by_cases b:y∈dd.tk <;> simp [a,b]
 have e3:(ju (ju S p.name dd) q.name dq).k=(ju (ju S q.name dq) p.name dd).k:=by
  funext y
  show(if y=q.name then dq.kv else if y=p.name then dd.kv else S.k y)=if y=p.name then dd.kv else if y=q.name then dq.kv else S.k y
  by_cases a:y=q.name
  ·rw [if_pos a,if_neg (by rw [a];exact nn),if_pos a]
  ·rw [if_neg a,if_neg a]
 have e4:(ju (ju S p.name dd) q.name dq).d=(ju (ju S q.name dq) p.name dd).d:=by
  funext y
  show(if y=q.name then(if y=p.name then S.d y+1 else S.d y)+1 else if y=p.name then S.d y+1 else S.d y)=if y=p.name then(if y=q.name then S.d y+1 else S.d y)+1 else if y=q.name then S.d y+1 else S.d y
  by_cases a:y=q.name
  ·rw [if_pos a,if_neg (by rw [a];exact nn),if_neg (by rw [a];exact nn),if_pos a]
  ·rw [if_neg a,if_neg a]
 show(⟨_,_,_,_,_⟩:FS)=⟨_,_,_,_,_⟩
 exact congr (congr (congr (congr (congrArg FS.mk e1) e2) e3) e4) rfl
inductive wH (ps:List PD) (m:Nat):FS->FS->Prop
 | refl (S:FS):wH ps m S S
 | head {S T:FS} {p:PD} {dd:gK}:p∈ps->S.d p.name <m->dY S p=some dd->wH ps m (ju S p.name dd) T->wH ps m S T
theorem wH.trans {ps:List PD} {m:Nat} {S T U:FS} (a:wH ps m S T) (b:wH ps m T U):wH ps m S U:=by
 induction a with
 | refl _=>exact b
 | head h1 h2 h3 _ ih=>exact .head h1 h2 h3 (ih b)
noncomputable def Done (ps:List PD) (m:Nat) (T:FS):Prop:=∀p∈ps,T.d p.name <m->dY T p=none
theorem wH.swap {ls:List aG} {ps:List PD} {m:Nat} (F:vh ls ps) {A T:FS} (r:wH ps m A T) (hT:Done ps m T):∀{p:PD} {dd:gK},p∈ps->A.d p.name <m->dY A p=some dd->wH ps m (ju A p.name dd) T:=by
 induction r with
 | refl S=>intro p dd hp hm hd;rw [hT p hp hm] at hd;cases hd
 | @head S T q dq hq hm' hd' r ih=>
  intro p dd hp hm hd
  by_cases e:q=p
  ·subst e
   rw [hd] at hd'
   cases hd'
   exact r
  ·have nn:p.name≠q.name:=fun z=>e (jn F.pnd hq hp z.symm)
   have c:=ih hT hp (show(if p.name=q.name then _ else S.d p.name) <m by rw [if_neg nn];exact hm) (zr F hq hp e hd' hd)
   rw [Tc F hq hp e hd' hd] at c
   exact .head hq (show(if q.name=p.name then _ else S.d q.name) <m by rw [if_neg (Ne.symm nn)];exact hm') (zr F hp hq (Ne.symm e) hd hd') c
theorem wH.ends {ls:List aG} {ps:List PD} {m:Nat} (F:vh ls ps) {A S T:FS} (a:wH ps m A S) (b:wH ps m A T) (hT:Done ps m T):wH ps m S T:=by
 induction a with
 | refl _=>exact b
 | head h1 h2 h3 _ ih=>exact ih (b.swap F hT h1 h2 h3)
theorem wH.pre {ps:List PD} {m:Nat} {S T:FS} (r:wH ps m S T) (x:Str):∃l,T.ev x=S.ev x ++ l:=by
 induction r with
 | refl S=>exact⟨[],by simp⟩
 | head _ _ _ _ ih=>
  obtain⟨l,e⟩:=ih
  exact⟨_,by rw [e];show(_ ++ _) ++ _=_;rw [List.append_assoc]⟩
theorem wH.all {ls:List aG} {ps:List PD} {m:Nat} (F:vh ls ps):∀{ws:List (PD×gK)} {S:FS},(ws.map fun w=>w.1.name).Nodup->(∀w∈ws,w.1∈ps/\S.d w.1.name <m/\dY S w.1=some w.2)->wH ps m S (iZ S ws)
 | [],S,_,_=>.refl S
 | w:: r,S,nd,h=>by
  rw [List.map_cons,List.nodup_cons] at nd
  obtain⟨h1,h2,h3⟩:=h w List.mem_cons_self
  refine .head h1 h2 h3 (wH.all F nd.2 fun w' hw'=>?_)
  obtain⟨a1,a2,a3⟩:=h w' (List.mem_cons_of_mem _ hw')
  have ne:w'.1.name≠w.1.name:=fun z=>nd.1 (List.mem_map.mpr ⟨w',hw',z⟩)
  refine⟨a1,?_,zr F h1 a1 (fun z=>ne (by rw [z])) h3 a3⟩
  show(if w'.1.name=w.1.name then _ else S.d w'.1.name) <m
  rw [if_neg ne]
  exact a2
theorem RN {ls:List aG} {ps:List PD} {m:Nat} {S:FS} {xs:List Str} (F:vh ls ps) (h:∀p∈ps,S.d p.name <m):wH ps m S (jj ls ps S xs):=
 wH.all F (Ms F.pnd) fun w hw=>⟨(jB hw).1,h _ (jB hw).1,(gA (jB hw).2.2).1⟩
theorem WT {ls:List aG} {ps:List PD} {S:FS} {xs:List Str} (F:vh ls ps) (x:Str):(jj ls ps S xs).d x<=S.d x+1:=by
 unfold jj
 rw [Hj]
 have:=Ja (x:=x) (Ms (ls:=ls) (S:=S) (xs:=xs) F.pnd)
 omega
theorem Wa:∀i,i <11->i≠0->1<=cI i:=by decide
theorem Ur {ls:List aG} {ps:List PD} {RW:List (Str×Addr×List Int)} {p:PD} (ok:m5 p):(List.replicate (if (p.ins.length:Int) >1 then(p.ins.length:Int) else 1).toNat [V.int 0]).flatten=(Et (cG ls ps RW) p).map nV:=by
 rw [List.flatten_replicate_singleton]
 refine(List.eq_replicate_iff.mpr ⟨?_,fun b hb=>?_⟩).symm
 ·rw [lM]
  unfold Et
  by_cases h0:p.kind=0
  ·have:p.ins.length=0:=by rw [ok.2.2.1,h0];rfl
   rw [if_pos h0,this]
   rfl
  ·have:=Wa p.kind ok.1 h0
   rw [if_neg h0,lM]
   rw [<-ok.2.2.1] at this
   by_cases h1:(p.ins.length:Int) >1
   ·rw [if_pos h1];omega
   ·rw [if_neg h1];omega
 ·obtain⟨n,hn,rfl⟩:=List.mem_map.mp hb
  unfold Et at hn
  split at hn
  ·rw [List.mem_singleton] at hn
   rw [hn]
   rfl
  ·obtain⟨_,_,rfl⟩:=List.mem_map.mp hn
   rfl
noncomputable def Jm (ps:List PD) (S:FS):Nat:=(ps.map fun p=>S.d p.name).sum
noncomputable def Lz:Option HO->Nat
 | some (.dK kvs)=>(kvs.map fun kv=>match kv.2 with | .int n=>n.toNat | _=>0).sum
 | _=>0
theorem Hh {H:Hp} {a:Addr} {ps:List PD} {S:FS} (h:H a=some (.dK (bG (fun x=>(S.d x:Int)) ps))):Lz (H a)=Jm ps S:=by
 rw [h]
 show(List.map _ (bG _ ps)).sum=_
 unfold bG Jm
 rw [List.map_map]
 congr 1
theorem Vr {ps:List PD} {S:FS} {dd:gK}:∀{qs:List PD} {p:PD},(qs.map (·.name)).Nodup->p∈qs->Jm qs (ju S p.name dd)=Jm qs S+1
 | a:: r,p,nd,hp=>by
  rw [List.map_cons,List.nodup_cons] at nd
  have tl:∀{x:Str},x∉r.map (·.name)->(r.map fun p=>(ju S x dd).d p.name)=r.map fun p=>S.d p.name:=fun {x} hx=>List.map_congr_left fun q hq=>if_neg fun z=>hx (List.mem_map.mpr ⟨q,hq,z⟩)
  unfold Jm
  rw [List.map_cons,List.map_cons,List.sum_cons,List.sum_cons]
  rcases List.mem_cons.mp hp with rfl | hp
  ·rw [tl nd.1]
   show(if p.name=p.name then S.d p.name+1 else S.d p.name)+_=_
   rw [if_pos rfl]
   omega
  ·have ih:=Vr (ps:=ps) (S:=S) (dd:=dd) nd.2 hp
   unfold Jm at ih
   rw [ih]
   have ne:a.name≠p.name:=fun z=>nd.1 (List.mem_map.mpr ⟨p,hp,z.symm⟩)
   show(if a.name=p.name then S.d a.name+1 else S.d a.name)+_=_
   rw [if_neg ne]
   omega
theorem Mx {S:FS} {m:Nat}:∀{ps:List PD},(∀p∈ps,S.d p.name<=m)->Jm ps S<=ps.length * m
 | [],_=>Nat.zero_le _
 | a:: r,h=>by
  have:=Mx fun p hp=>h p (List.mem_cons_of_mem _ hp)
  have:=h a List.mem_cons_self
  unfold Jm at *
  rw [List.map_cons,List.sum_cons,List.length_cons,Nat.add_mul]
  omega
theorem Xq {b:Nat} {ls:List aG} {ps:List PD} {S:FS} (F:vh ls ps) (O:KN b ls ps S) {p:PD} (hp:p∈ps) {dd:gK} (h:dY S p=some dd):KN (b+2) ls ps (ju S p.name dd):=by
 obtain⟨e1,e2,rfl⟩:=iB h
 have hw2:=yS p.kind p.nums (pO S p) (S.k p.name)
 refine⟨fun l hl v hv=>?_,fun p' hp' h0=>O.rb p' hp' h0,fun p' hp' h0=>?_,fun l hl=>?_,fun p' hp' h0=>O.rl p' hp' h0⟩
 ·rcases List.mem_append.mp hv with hv | hv
  ·exact O.vb l hl v hv
  ·obtain⟨q,hq,rfl⟩:=List.mem_map.mp hv
   obtain⟨pv,hpv,rfl⟩:=List.mem_map.mp (List.mem_filter.mp hq).1
   exact JT (F.pok _ hp).1 _ _ (NT F O hp e1 e2).2.1 pv hpv
 ·show(if p'.name=p.name then S.d p'.name+1 else S.d p'.name)<=_
  have hd:=O.dl p' hp' h0
  by_cases e:p'.name=p.name
  ·have:=jn F.pnd hp' hp e
   subst this
   rw [if_pos rfl]
   unfold vO at e2
   simp [h0] at e2
   show S.d p'.name+1<=(S.r p'.name).length
   omega
  ·rw [if_neg e]
   exact hd
 ·show(S.ev l.name ++ _).length<=_
  rw [lP,lM]
  have:=O.len l hl
  refine Nat.le_trans (Nat.add_le_add_left (List.length_filter_le _ _) _) ?_
  rw [lM]
  omega
theorem wH.snoc {ps:List PD} {m:Nat} {S T:FS} (r:wH ps m S T) {p:PD} {dd:gK} (hp:p∈ps) (hm:T.d p.name <m) (hd:dY T p=some dd):wH ps m S (ju T p.name dd):=r.trans (.head hp hm hd (.refl _))
structure U5 (H H':Hp) (B:rM) (co:Addr) (ls:List aG) (ps:List PD) (m:Nat) (S0 S:FS) (kk:Str->Int):Prop where
 w:Y6 H' B ls ps S kk
 kh:Zy ps S kk
 cnt:H' co=some (.dK (bG (fun x=>(S.d x:Int)) ps))
 same:aM H H'
 rch:wH ps m S0 S
 ok:KN (199+2 * Jm ps S) ls ps S
 dm:∀p∈ps,S.d p.name<=m
 row:S.r=S0.r
theorem U5.mv {H H' H'':Hp} {B:rM} {co:Addr} {ls:List aG} {ps:List PD} {m:Nat} {S0 S:FS} {kk:Str->Int} (h:U5 H H' B co ls ps m S0 S kk) (s:aM H' H''):U5 H H'' B co ls ps m S0 S kk:=⟨h.w.same s,h.kh,s _ _ h.cnt,h.same.trans s,h.rch,h.ok,h.dm,h.row⟩
theorem Ju {vs:List V} {H:Hp} {Q Q':VK} {Ex:XK} (hQ:∀v H,Q v H->Q' v H) (h:fj K vs H Q Ex):fj K vs H Q' Ex:=by
 unfold fj at h ⊢
 obtain⟨b,rA,ws,q,B,ls,ps,p,S,kk,e,G,KH,F,O,hb,hp,hq,hw,h0w,kn,k⟩:=h
 exact⟨b,rA,ws,q,B,ls,ps,p,S,kk,e,G,KH,F,O,hb,hp,hq,hw,h0w,fun z H' s=>hQ _ _ (kn z H' s),fun dd hd H' kk' s g z=>hQ _ _ (k dd hd H' kk' s g z)⟩
inductive ul (vs:List V) (H:Hp) (Q:VK):Prop where
 | mk:∀(L P rw:Addr) (ls:List aG) (ps:List PD) (RW:List (Str×Addr×List Int)) (m:Nat),vs=[.ref L,.ref P,.ref rw,.int (m:Nat)]->Cp H L P ls ps->vh ls ps->jX H rw RW->((∀q∈RW,∀v∈q.2.2,0<=v/\v <1000000000))->m<=100->(∀H' D pa T,aM H H'->H' D=some (.dK (Kw pa ls))->(∀l∈ls,H' (pa l.name)=some (.lst ((T.ev l.name).map V.int)))->wH ps m (cG ls ps RW) T->Done ps m T->Q (.ref D) H')->ul vs H Q
@[irreducible] noncomputable def ig (K:PySem.W.Frag):Sp:=fun vs H Q _=>ul vs H Q
theorem Fi (T:Txt w K mg t):FO P w K mg base 4 t.yL ["_law_lanes", "_law_parts", "_law_rows", "_law_most"] (ig K):=by
 have sc:=T.sV.sc ["_law_lanes", "_law_parts", "_law_rows", "_law_most", "_law_past", "_law_places_here", "_law_kept", "_law_counts", "_law_name", "_law_room", "_law_first", "_law_kind", "_law_numbers", "_law_ins", "_law_outs", "_law_moving", "_law_one", "_law_row"]
 refine T.sV.F.ok sc (fun vs H Q E h=>?_) (fun cdv A outer s H vs Q E hr h=>?_)
 ·unfold ig at h
  obtain⟨L,P,rw,ls,ps,RW,m,rfl,_⟩:=h
  rfl
 ·unfold ig at h
  obtain⟨L,P,rw,ls,ps,RW,m,rfl,A,F,hrw,hbn,hm,k⟩:=h
  refine⟨_,(au (sN sc 4 eY)
   (au (sN sc 5 eY)
   (au (sN sc 6 eY)
   (au (sN sc 7 eY)
   (au (dD PassesOwn.never rfl (b8 (pv 0)) (jT rfl (bD (gN sc 8) (bD (gN sc 9) (bD (gN sc 10) fQ))))
    (aA (fD hr.u1 (pv 4) (pv 8) (dg jU (by rfl) T.pB j0 (aa (pv 10) ak aj)) rfl)))
   (au (dD PassesOwn.never rfl (b8 (pv 1)) (jT rfl (bD (gN sc 11) (bD (gN sc 8) (bD (gN sc 12) (bD (gN sc 13) (bD (gN sc 14) fQ))))))
    (au (fD hr.u1 (pv 5) (pv 8) (aX W0 (bw (aa aq ak ao)) (bf (vp rfl) (by rfl) T.JX Ej (aa aq (aa (bf bN (by rfl) T.dX cH (aa (pv 13) ak aj)) ak aY) ao))) rfl)
    (au (fD hr.u1 (pv 6) (pv 8) (aR aO (aX Lr (pv 12) (bw (aa aq ak ao))) aq (fun _ _=>rfl)) rfl)
    (aA (fD hr.u1 (pv 7) (pv 8) aq rfl)))))
   (au (sN sc 15 iu)
   (au (yZ PassesOwn.never (jo (pv 15))
    (au (sN sc 15 iu)
    (aA (dD PassesOwn.never rfl (b8 (pv 1)) (gN sc 16)
     (au (sN sc 17 (Kg hr.u1 (pv 2) (aR cC (pv 16) aq (fun _ _=>rfl)) (bw ak) ⟨rfl,rfl,rfl,rfl⟩))
     (aA (yZ PassesOwn.never (PW.pt (xr (aW tK (bV hr.u1 (pv 7) (aR cC (pv 16) aq (fun _ _=>rfl)) (fun _ _=>rfl)) (pv 3) (bC _)) (vL (jo (dZ (Dc T) T.qP hr (aa (pv 4) (aa (pv 5) (aa (pv 6) (aa (pv 16) (aa (pv 17) ak aj) aj) aj) aj) aj))))))
      (au (Ip hr.u1 (pv 7) (aR cC (pv 16) aq (fun _ _=>rfl)) aq By (fun _ _ _=>rfl))
      (aA (sN sc 15 iu))))))))))
   (aA (aN (pv 4))))))))))),?_⟩
  have hz:sizeLine=16777216:=sizeLine_eq
  have l24:=F.l24
  have p16:=F.p16
  refine fun pd nM=>?_
  have T0:=Tr.start (H:=upd H pd (.dK [])) (f:=pd) (o:=.dK []) az
  have sH:aM H (upd H pd (.dK [])):=aB nM
  generalize upd H pd (.dK [])=H0 at T0 sH ⊢
  have bs:∀{Hk:Hp},lQ pd H0 Hk->aM H Hk:=fun b x o e=>b x o (aF e nM) (sH _ _ e)
  refine fun pl n1=>?_
  have T1:=T0.new (o:=.dK []) n1
  generalize upd H0 pl (.dK [])=H1 at T1 ⊢
  refine fun ke n2=>?_
  have T2:=T1.new (o:=.dK []) n2
  generalize upd H1 ke (.dK [])=H2 at T2 ⊢
  refine fun co n3=>?_
  have T3:=T2.new (o:=.dK []) n3
  generalize upd H2 co (.dK [])=H3 at T3 ⊢
  have T6:Tr H0 pd ((pd,.dK (bz [])):: (pl,.dK []):: (ke,.dK []):: (co,.dK []):: fX []) H3:=T3
  clear T0 T1 T2 T3
  obtain⟨⟨xs,eL,aL⟩,⟨ys,eP,aP⟩⟩:=id A
  have xl:=aL.length
  have yl:=aP.length
  have nod:=F.whole.nod
  refine⟨_,rfl,L,rfl,⟨_,bI.of (bs T6.but _ _ eL)⟩,cU (K:=K) (a:=L) (xs:=xs) (fun j σ H'=>(∃v4 v5 v6,σ=[some (.ref L),some (.ref P),some (.ref rw),some (.int (m:Nat)),some (.ref pd),some (.ref pl),some (.ref ke),some (.ref co),v4,v5,v6,none,none,none,none,none,none,none])/\∃EL:List (aG×Addr),EL.map (·.1)=ls.take j/\Tr H0 pd ((pd,.dK (bz EL)):: (pl,.dK []):: (ke,.dK []):: (co,.dK []):: fX EL) H') ⟨⟨none,none,none,rfl⟩,[],rfl,T6⟩ (fun j σ H' _ ⟨_,_,_,h⟩=>bI.of (bs h.but _ _ eL)) ?_ ?_⟩
  ·rintro j x σ H7 hx ⟨⟨w4,w5,w6,rfl⟩,EL,eEL,T7⟩
   obtain⟨l,hlj,r,f,rfl,hr,hf⟩:=aL.get hx
   have nin:=mq nod hlj
   have vF:cg (bz EL) (Sum.inr l.name)=none:=fL (by rw [nH,eEL];intro z;obtain⟨b,hb,e⟩:=List.mem_map.mp z;cases e;exact nin hb)
   have tk:ls.take (j+1)=ls.take j ++ [l]:=by rw [List.take_succ,hlj];rfl
   have lEL:EL.length<=24:=by have:=congrArg List.length eEL;rw [lM,List.length_take] at this;omega
   refine⟨r,_,rfl,eQ.of (bs T7.but _ _ hr),rfl,_,_,rfl,_,_,rfl,_,_,rfl,rfl,?_⟩
   refine⟨_,rfl,f,_,rfl,.inl (bI.of (bs T7.but _ _ hf)),fun y ny=>?_⟩
   have T8:Tr H0 pd ((pd,.dK (bz EL)):: (pl,.dK []):: (ke,.dK []):: (co,.dK []):: fX (EL ++ [(l,y)])) (upd H7 y (.lst (l.first.map V.int))):=by
    unfold fX
    rw [List.map_append]
    exact T7.new ny
   generalize upd H7 y (.lst (l.first.map V.int))=H8 at T8 ⊢
   refine⟨_,rfl,_,rfl,pd,_,rfl,j7.k (k:=Sum.inr l.name) (T8.all (pd,.dK (bz EL)) (by simp)) (by unfold bz;rw [lM];omega),?_⟩
   rw [gQ _ vF]
   refine⟨⟨_,_,_,rfl⟩,EL ++ [(l,y)],by rw [List.map_append,eEL,tk];rfl,?_⟩
   have:bz (EL ++ [(l,y)])=bz EL ++ [(Sum.inr l.name,V.ref y)]:=by unfold bz;rw [List.map_append];rfl
   rw [this]
   exact T8.put (L1:=[])
  rintro σ H7 ⟨⟨w4,w5,w6,rfl⟩,EL,eEL,T7⟩
  rw [xl,List.take_length] at eEL
  have T7:Tr H0 pd ((pd,.dK (bz EL)):: (pl,.dK []):: (ke,.dK (bG (zR ps) [])):: (co,.dK (bG (fun _=>0) [])):: (fX EL ++ ([]:List (PD×Addr)).map fun q=>(q.2,HO.lst ((Et (cG ls ps RW) q.1).map nV)))) H7:=by
   rw [List.map_nil,List.append_nil]
   exact T7
  refine⟨_,rfl,P,rfl,⟨_,bI.of (bs T7.but _ _ eP)⟩,cU (K:=K) (a:=P) (xs:=ys) (fun j σ H'=>(∃v8 v9 v10 v11 v12 v13 v14,σ=[some (.ref L),some (.ref P),some (.ref rw),some (.int (m:Nat)),some (.ref pd),some (.ref pl),some (.ref ke),some (.ref co),v8,v9,v10,v11,v12,v13,v14,none,none,none])/\∃RL:List (PD×Addr),RL.map (·.1)=ps.take j/\Tr H0 pd ((pd,.dK (bz EL)):: (pl,.dK (RL.map fun q=>((Sum.inr q.1.name:Key),V.ref q.2))):: (ke,.dK (bG (zR ps) (ps.take j))):: (co,.dK (bG (fun _=>0) (ps.take j))):: (fX EL ++ RL.map fun q=>(q.2,HO.lst ((Et (cG ls ps RW) q.1).map nV)))) H') ⟨⟨_,_,_,_,_,_,_,rfl⟩,[],rfl,T7⟩ (fun j σ H' _ ⟨_,_,_,h⟩=>bI.of (bs h.but _ _ eP)) ?_ ?_⟩
  ·rintro j x σ H8 hx ⟨⟨u4,u5,u6,u7,u8,u9,u10,rfl⟩,RL,eRL,T8⟩
   obtain⟨p,hpj,q,a1,a2,a3,rfl,hq,ha1,ha2,_⟩:=aP.get hx
   have hpm:=List.mem_of_getElem? hpj
   have ok:=F.pok p hpm
   have nin:=mq F.pnd hpj
   have tk:ps.take (j+1)=ps.take j ++ [p]:=by rw [List.take_succ,hpj];rfl
   have kn:∀g:Str->Int,cg (bG g (ps.take j)) (Sum.inr p.name)=none:=fun g=>fL (by rw [xg];intro z;obtain⟨b,hb,e⟩:=List.mem_map.mp z;cases e;exact nin hb)
   have ks:∀g:Str->Int,bG g (ps.take (j+1))=bG g (ps.take j) ++ [(Sum.inr p.name,V.int (g p.name))]:=fun g=>by rw [tk];unfold bG;rw [List.map_append];rfl
   have kl:∀g:Str->Int,(bG g (ps.take j)).length <sizeLine:=fun g=>by unfold bG;rw [lM,List.length_take];omega
   have lRL:RL.length<=16:=by have:=congrArg List.length eRL;rw [lM,List.length_take] at this;omega
   have vR:cg (RL.map fun q=>((Sum.inr q.1.name:Key),V.ref q.2)) (Sum.inr p.name)=none:=fL (by
    rw [List.map_map]
    intro z
    obtain⟨q,hq,e⟩:=List.mem_map.mp z
    have hm:q.1∈RL.map (·.1):=List.mem_map.mpr ⟨q,hq,rfl⟩
    rw [eRL] at hm
    exact nin (List.mem_map.mpr ⟨q.1,hm,by injection e⟩))
   have nl:p.nums.length<=2:=by rw [ok.2.1];exact Vb p.kind
   have h3i:p.ins.length<=3:=by rw [ok.2.2.1];exact vV _
   refine⟨q,_,rfl,eQ.of (bs T8.but _ _ hq),rfl,_,_,rfl,_,_,rfl,_,_,rfl,_,_,rfl,_,_,rfl,rfl,?_⟩
   refine⟨jl,fun u nu=>?_⟩
   have T9:=T8.same (aB (o:=.lst [V.int 0]) nu)
   have eu:upd H8 u (.lst [V.int 0]) u=some (.lst [V.int 0]):=az
   generalize upd H8 u (.lst [V.int 0])=H9 at T9 eu ⊢
   have kb:0<=(if (p.ins.length:Int) >1 then(p.ins.length:Int) else 1)/\(if (p.ins.length:Int) >1 then(p.ins.length:Int) else 1)<=3:=by split <;> omega
   refine⟨_,rfl,_,p.ins.length,rfl,.inl ⟨_,bI.of (bs T9.but _ _ ha2),by rw [lM]⟩,_,_,rfl,u,_,[V.int 0],rfl,rfl,eu,by omega,by omega,by rw [List.length_singleton];omega,fun y ny=>?_⟩
   rw [Ur (ls:=ls) (ps:=ps) (RW:=RW) ok]
   have T10:Tr H0 pd ((pd,.dK (bz EL)):: (pl,.dK (RL.map fun q=>((Sum.inr q.1.name:Key),V.ref q.2))):: (ke,.dK (bG (zR ps) (ps.take j))):: (co,.dK (bG (fun _=>0) (ps.take j))):: (fX EL ++ (RL ++ [(p,y)]).map fun q=>(q.2,HO.lst ((Et (cG ls ps RW) q.1).map nV)))) (upd H9 y (.lst ((Et (cG ls ps RW) p).map nV))):=by
    rw [List.map_append,<-List.append_assoc]
    exact T9.new ny
   generalize upd H9 y (.lst ((Et (cG ls ps RW) p).map nV))=H10 at T10 ⊢
   refine⟨_,rfl,_,rfl,pl,_,rfl,j7.k (k:=Sum.inr p.name) (T10.all (pl,.dK (RL.map fun q=>((Sum.inr q.1.name:Key),V.ref q.2))) (by simp)) (by rw [lM];omega),?_⟩
   rw [gQ _ vR]
   have T11:=T10.put (L1:=[_]) (o':=.dK ((RL ++ [(p,y)]).map fun q=>((Sum.inr q.1.name:Key),V.ref q.2)))
   have e11:(RL.map fun q=>((Sum.inr q.1.name:Key),V.ref q.2)) ++ [(Sum.inr p.name,V.ref y)]=(RL ++ [(p,y)]).map fun q=>((Sum.inr q.1.name:Key),V.ref q.2):=by rw [List.map_append];rfl
   rw [e11]
   generalize upd H10 pl (.dK ((RL ++ [(p,y)]).map fun q=>((Sum.inr q.1.name:Key),V.ref q.2)))=H11 at T11 ⊢
   refine⟨_,rfl,jl,fun u2 nu2=>⟨a1,u2,_,_,rfl,rfl,aB nu2 _ _ (bs T11.but _ _ ha1),az,by rw [lM];show _+1<=_;omega,fun z nz=>?_⟩⟩
   have hd0:Es (p.nums.map V.int ++ [V.int 0]) 0=some (.int (zR ps p.name)):=by
    rw [M3 F.pnd hpm]
    refine aK (j:=0) ?_
    cases p.nums with
    | nil=>rfl
    | cons a r=>rfl
   have T12:=(T11.same (aB (o:=.lst [V.int 0]) nu2)).same (aB (o:=.lst (p.nums.map V.int ++ [V.int 0])) nz)
   have ez:upd (upd H11 u2 (.lst [V.int 0])) z (.lst (p.nums.map V.int ++ [V.int 0])) z=some (.lst (p.nums.map V.int ++ [V.int 0])):=az
   generalize upd (upd H11 u2 (.lst [V.int 0])) z (.lst (p.nums.map V.int ++ [V.int 0]))=H12 at T12 ez ⊢
   refine⟨z,_,0,_,rfl,rfl,bI.of ez,hd0,_,rfl,_,rfl,ke,_,rfl,j7.k (k:=Sum.inr p.name) (T12.all (ke,.dK (bG (zR ps) (ps.take j))) (by simp)) (kl _),?_⟩
   rw [gQ _ (kn _),<-ks]
   have T13:=T12.put (L1:=[_,_]) (o':=.dK (bG (zR ps) (ps.take (j+1))))
   generalize upd H12 ke (.dK (bG (zR ps) (ps.take (j+1))))=H13 at T13 ⊢
   refine⟨_,rfl,_,rfl,co,_,rfl,j7.k (k:=Sum.inr p.name) (T13.all (co,.dK (bG (fun _=>0) (ps.take j))) (by simp)) (kl _),?_⟩
   rw [gQ _ (kn _),<-ks (fun _=>0)]
   exact⟨⟨_,_,_,_,_,_,_,rfl⟩,RL ++ [(p,y)],by rw [List.map_append,eRL,tk];rfl,T13.put (L1:=[_,_,_])⟩
  rintro σ HH ⟨⟨u4,u5,u6,u7,u8,u9,u10,rfl⟩,RL,eRL,TH⟩
  rw [yl,List.take_length] at eRL TH
  have nE:(EL.map fun q=>q.1.name).Nodup:=by
   have:(EL.map (·.1)).map (·.name)=EL.map fun q=>q.1.name:=by rw [List.map_map];rfl
   rw [<-this,eEL]
   exact nod
  have nR:(RL.map fun q=>q.1.name).Nodup:=by
   have:(RL.map (·.1)).map (·.name)=RL.map fun q=>q.1.name:=by rw [List.map_map];rfl
   rw [<-this,eRL]
   exact F.pnd
  have mE:ls.map (fun l=>gY (·.name) EL l.name)=EL.map (·.2):=by rw [<-eEL];exact vz nE
  have mR:ps.map (fun p=>gY (·.name) RL p.name)=RL.map (·.2):=by rw [<-eRL];exact vz nR
  obtain⟨B,eB⟩:∃B:rM,B=⟨pd,pl,ke,gY (·.name) EL,gY (·.name) RL⟩:=⟨_,rfl⟩
  have e2:(fX EL ++ RL.map fun q=>(q.2,HO.lst ((Et (cG ls ps RW) q.1).map nV))).map Prod.fst=ls.map (fun l=>gY (·.name) EL l.name) ++ ps.map (fun p=>gY (·.name) RL p.name):=by rw [mE,mR];unfold fX;rw [List.map_append,List.map_map,List.map_map];rfl
  have nd:=TH.nod
  simp only [List.map_cons,e2] at nd
  have perm:(co:: B.all ls ps).Perm (pd:: pl:: ke:: co:: (ls.map (fun l=>gY (·.name) EL l.name) ++ ps.map (fun p=>gY (·.name) RL p.name))):=by
   rw [eB]
   show(co:: pd:: pl:: ke:: _).Perm _
   exact(List.Perm.swap _ _ _).trans (.cons _ ((List.Perm.swap _ _ _).trans (.cons _ (.swap _ _ _))))
  have nB:=perm.nodup_iff.mpr nd
  rw [List.nodup_cons] at nB
  have fr:∀a∈co:: B.all ls ps,H a=none:=fun a ha=>by
   have h2:a∈((pd,.dK (bz EL)):: (pl,.dK (RL.map fun q=>((Sum.inr q.1.name:Key),V.ref q.2))):: (ke,.dK (bG (zR ps) ps)):: (co,.dK (bG (fun _=>0) ps)):: (fX EL ++ RL.map fun q=>(q.2,HO.lst ((Et (cG ls ps RW) q.1).map nV))):List (Addr×HO)).map Prod.fst:=by
    simp only [List.map_cons,e2]
    exact perm.mem_iff.mp ha
   obtain⟨q,hq,rfl⟩:=List.mem_map.mp h2
   rcases TH.fre q hq with e | e
   ·rw [e];exact nM
   ·exact sH.free e
  have I0:U5 H HH B co ls ps m (cG ls ps RW) (cG ls ps RW) (zR ps):=by
   refine⟨⟨?_,?_,?_,fun l hl=>?_,fun p hp=>?_,nB.2⟩,fun p hp h5=>?_,TH.all (co,.dK (bG (fun _=>0) ps)) (by simp),bs TH.but,.refl _,?_,fun p hp=>Nat.zero_le _,rfl⟩
   ·have:Kw (gY (·.name) EL) ls=bz EL:=by
     unfold Kw bz
     rw [<-eEL,List.map_map]
     refine List.map_congr_left fun q hq=>?_
     show((Sum.inr q.1.name:Key),V.ref (gY (·.name) EL q.1.name))=_
     rw [show gY (·.name) EL q.1.name=q.2 from jY nE hq]
    rw [eB]
    show HH pd=some (.dK (Kw (gY (·.name) EL) ls))
    rw [this]
    exact TH.all (pd,.dK (bz EL)) (by simp)
   ·have:VN (gY (·.name) RL) ps=RL.map fun q=>((Sum.inr q.1.name:Key),V.ref q.2):=by
     unfold VN
     rw [<-eRL,List.map_map]
     refine List.map_congr_left fun q hq=>?_
     show((Sum.inr q.1.name:Key),V.ref (gY (·.name) RL q.1.name))=_
     rw [show gY (·.name) RL q.1.name=q.2 from jY nR hq]
    rw [eB]
    show HH pl=some (.dK (VN (gY (·.name) RL) ps))
    rw [this]
    exact TH.all (pl,.dK (RL.map fun q=>((Sum.inr q.1.name:Key),V.ref q.2))) (by simp)
   ·rw [eB]
    exact TH.all (ke,.dK (bG (zR ps) ps)) (by simp)
   ·have hl':=hl
    rw [<-eEL] at hl
    obtain⟨q,hq,rfl⟩:=List.mem_map.mp hl
    rw [eB]
    show HH (gY (·.name) EL q.1.name)=some (.lst ((JS ls q.1.name).map V.int))
    rw [show gY (·.name) EL q.1.name=q.2 from jY nE hq,ud nod hl']
    exact TH.all (q.2,.lst (q.1.first.map V.int)) (.tail _ (.tail _ (.tail _ (.tail _ (List.mem_append.mpr (.inl (List.mem_map.mpr ⟨q,hq,rfl⟩)))))))
   ·rw [<-eRL] at hp
    obtain⟨q,hq,rfl⟩:=List.mem_map.mp hp
    rw [eB]
    show HH (gY (·.name) RL q.1.name)=some (.lst ((Et (cG ls ps RW) q.1).map nV))
    rw [show gY (·.name) RL q.1.name=q.2 from jY nR hq]
    exact TH.all (q.2,.lst ((Et (cG ls ps RW) q.1).map nV)) (.tail _ (.tail _ (.tail _ (.tail _ (List.mem_append.mpr (.inr (List.mem_map.mpr ⟨q,hq,rfl⟩)))))))
   ·show zR ps p.name=fC ps p.name
    rw [M3 F.pnd hp]
    unfold fC
    rw [find_name F.pnd hp]
    simp [h5]
   ·have o:=Ge (RW:=RW) F (fun q hq=>hrw.len q hq) hbn
    exact⟨o.vb,o.rb,o.dl,fun l hl=>Nat.le_trans (o.len l hl) (Nat.le_add_right _ _),o.rl⟩
  have eBp:B.P=pd:=by rw [eB]
  have eBl:B.L=pl:=by rw [eB]
  have eBk:B.Kp=ke:=by rw [eB]
  clear eB e2 mE mR nE nR TH eEL eRL perm nd T7 T6
  have r0:(cG ls ps RW).r=rE RW:=rfl
  generalize cG ls ps RW=S0 at I0 k r0
  have tl:∀a∈B.cells ls ps,a∈B.all ls ps:=fun a ha=>.tail _ (.tail _ ha)
  have frB:∀a∈B.all ls ps,H a=none:=fun a ha=>fr a (.tail _ ha)
  have nco:co∉B.cells ls ps:=fun z=>nB.1 (tl _ z)
  have hco:=fr co (.head _)
  have sCut:∀{H':Hp},aM H H'->aM H (bB (B.all ls ps) H'):=fun s b o e=>cJ (s _ _ e) fun z=>by rw [frB b z] at e;cases e
  refine xY (fun σ H'=>∃S kk bb v16 v17,σ=[some (.ref L),some (.ref P),some (.ref rw),some (.int (m:Nat)),some (.ref pd),some (.ref pl),some (.ref ke),some (.ref co),u4,u5,u6,u7,u8,u9,u10,some (.bl bb),v16,v17]/\U5 H H' B co ls ps m S0 S kk/\(bb=false->Done ps m S)) (fun σ H'=>2 * (ps.length * m - Lz (H' co))+(match σ[15]? with | some (some (.bl true))=>1 | _=>0)) ⟨S0,_,true,_,_,rfl,I0,by intro z;cases z⟩ ?_ ?_
  ·rintro σ H1 ⟨S,kk,bb,w16,w17,rfl,I1,hd⟩
   cases bb with
   | false=>exact⟨_,rfl,_,rfl,dz ⟨_,rfl,k H1 pd B.pa S I1.same (by rw [<-eBp];exact I1.w.past) I1.w.hl I1.rch (hd rfl)⟩⟩
   | true=>
    have c1:=Hh I1.cnt
    refine⟨_,rfl,_,rfl,gj ?_⟩
    refine⟨_,rfl,P,rfl,⟨_,bI.of (I1.same _ _ eP)⟩,cU (K:=K) (a:=P) (xs:=ys) (fun j σ H'=>∃S' kk' bb v16 v17,σ=[some (.ref L),some (.ref P),some (.ref rw),some (.int (m:Nat)),some (.ref pd),some (.ref pl),some (.ref ke),some (.ref co),u4,u5,u6,u7,u8,u9,u10,some (.bl bb),v16,v17]/\U5 H H' B co ls ps m S0 S' kk'/\(bb=false->S'=S/\∀p∈ps.take j,S.d p.name <m->dY S p=none)/\(bb=true->Jm ps S <Jm ps S')/\Jm ps S<=Jm ps S') ⟨S,kk,false,w16,w17,rfl,I1,fun _=>⟨rfl,by simp⟩,(fun z=>by cases z),Nat.le_refl _⟩ (fun j σ H' _ ⟨_,_,_,_,_,_,I,_⟩=>bI.of (I.same _ _ eP)) ?_ ?_⟩
    ·rintro j x σ H2 hx ⟨S',kk',bb,v16,v17,rfl,I2,hf,ht,hle⟩
     obtain⟨p,hpj,hq⟩:=aP.get hx
     obtain⟨q,a1,a2,a3,rfl,q0,q1,q2,q3⟩:=id hq
     have hpm:=List.mem_of_getElem? hpj
     have rw7:=hrw.same I2.same
     refine⟨_,rfl,rw,rfl,.inl ⟨_,.inl rw7.dict⟩,_,rfl,q,_,1,_,rfl,rfl,eQ.of (I2.same _ _ q0),aK (j:=1) rfl,jl,fun u nu=>?_⟩
     have nuB:u∉B.all ls ps:=I2.w.out ⟨fun k z=>(by rw [nu] at z;cases z),fun x z=>(by rw [nu] at z;cases z)⟩
     have tu:=aB (o:=.lst []) nu
     have xu:upd H2 u (.lst []) u=some (.lst []):=az
     generalize upd H2 u (.lst [])=H3 at tu xu ⊢
     have I3:=I2.mv tu
     refine⟨_,d7.k (k:=Sum.inr p.name) (rw7.same tu).dict,?_⟩
     obtain⟨y,ey,hy,ny⟩:∃y:Addr,(cg (jP RW) (Sum.inr p.name)).getD (V.ref u)=.ref y/\H3 y=some (.lst ((rE RW p.name).map V.int))/\y∉B.all ls ps:=by
      rcases hrw.get p.name with ⟨e1,e2⟩ | ⟨a,e1,e2,_⟩
      ·rw [e1,e2]
       exact⟨u,rfl,xu,nuB⟩
      ·rw [e1]
       exact⟨a,rfl,I3.same _ _ e2,fun z=>by rw [frB a z] at e2;cases e2⟩
     rw [ey]
     have yco:y≠co:=fun z=>by rw [z,I3.cnt] at hy;cases hy
     refine xY (fun σ H'=>∃S' kk' bb,σ=[some (.ref L),some (.ref P),some (.ref rw),some (.int (m:Nat)),some (.ref pd),some (.ref pl),some (.ref ke),some (.ref co),u4,u5,u6,u7,u8,u9,u10,some (.bl bb),some (.ref q),some (.ref y)]/\U5 H H' B co ls ps m S0 S' kk'/\(bb=false->S'=S/\∀p∈ps.take j,S.d p.name <m->dY S p=none)/\(bb=true->Jm ps S <Jm ps S')/\Jm ps S<=Jm ps S'/\H' y=some (.lst ((rE RW p.name).map V.int))) (fun σ H'=>ps.length * m - Lz (H' co)) ⟨S',kk',bb,rfl,I3,hf,ht,hle,hy⟩ ?_ ?_
     ·rintro σ H4 ⟨S4,k4,b4,rfl,I4,hf4,ht4,hle4,hy4⟩
      have sm4:=Mx I4.dm
      have hpl:ps.length * m<=1600:=Nat.le_trans (Nat.mul_le_mul p16 hm) (by decide)
      have c4:=Hh I4.cnt
      refine⟨_,rfl,_,rfl,q,_,1,_,rfl,rfl,eQ.of (I4.same _ _ q0),aK (j:=1) rfl,co,_,rfl,MT I4.cnt (lg F.pnd hpm),_,rfl,_,_,rfl,rfl,_,rfl,jy (fun hlt=>?_) (fun hge=>?_)⟩
      ·have hlt:S4.d p.name <m:=by simpa using hlt
       refine⟨_,rfl,_,rfl,_,rfl,_,rfl,_,rfl,?_⟩
       unfold fj
       refine⟨199+2 * Jm ps S4,y,rE RW p.name,q,B,ls,ps,p,S4,k4,by rw [eBp,eBl,eBk];rfl,I4.w,I4.kh,F,I4.ok,by omega,hpm,hq.same (sCut I4.same),bI.of (cJ hy4 ny),fun _=>by rw [I4.row,r0],fun hn H5 s5=>?_,fun dd hdd H5 k5 s5 W5 K5=>?_⟩
       ·refine⟨_,rfl,dz ⟨S4,k4,b4,_,_,rfl,I4.mv s5,fun hb=>⟨(hf4 hb).1,fun p' hp' hlt'=>?_⟩,ht4,hle4⟩⟩
        rw [List.take_succ,hpj,Option.toList_some] at hp'
        rcases List.mem_append.mp hp' with z | z
        ·exact(hf4 hb).2 p' z hlt'
        ·rw [List.mem_singleton] at z
         rw [z,<-(hf4 hb).1]
         exact hn
       ·have cnt5:=s5 _ _ (cJ I4.cnt nco)
        have same5:aM H H5:=fun b o e=>s5 _ _ (cJ (I4.same _ _ e) fun z=>by rw [frB b (tl _ z)] at e;cases e)
        refine⟨_,rfl,gj ⟨_,rfl,_,rfl,q,_,1,_,rfl,rfl,eQ.of (same5 _ _ q0),aK (j:=1) rfl,co,_,rfl,MT cnt5 (lg F.pnd hpm),_,_,rfl,rfl,_,j7.k (k:=Sum.inr p.name) cnt5 (by unfold bG;rw [lM];omega),?_⟩⟩
        rw [vy _ (List.mem_map.mpr ⟨p,hpm,rfl⟩)]
        have sd:=Vr (ps:=ps) (S:=S4) (dd:=dd) F.pnd hpm
        have ek:(fun y=>if y=p.name then(S4.d p.name:Int)+1 else(S4.d y:Int))=fun x=>((ju S4 p.name dd).d x:Int):=by
         funext x
         show _=(((if x=p.name then S4.d x+1 else S4.d x:Nat)):Int)
         by_cases e:x=p.name
         ·rw [if_pos e,if_pos e,e];rfl
         ·rw [if_neg e,if_neg e]
        have dm5:∀p'∈ps,(ju S4 p.name dd).d p'.name<=m:=fun p' hp'=>by
         show(if p'.name=p.name then S4.d p'.name+1 else S4.d p'.name)<=m
         by_cases e:p'.name=p.name
         ·rw [if_pos e,e];omega
         ·rw [if_neg e];exact I4.dm p' hp'
        have sm5:=Mx dm5
        have I5:U5 H (upd H5 co (.dK (bG (fun y=>if y=p.name then(S4.d p.name:Int)+1 else(S4.d y:Int)) ps))) B co ls ps m S0 (ju S4 p.name dd) k5:=⟨W5.stay fun a ha o e=>by rw [aH fun z=>nB.1 (by rw [<-z];exact ha)];exact e,K5,by rw [az,ek],fun b o e=>by rw [aH (aF e hco)];exact same5 b o e,I4.rch.snoc hpm hlt hdd,by
         have:=Xq F I4.ok hpm hdd
         rw [sd]
         exact⟨this.vb,this.rb,this.dl,this.len,this.rl⟩,dm5,I4.row⟩
        have c5:=Hh I5.cnt
        refine⟨⟨ju S4 p.name dd,k5,true,rfl,I5,(fun z=>by cases z),fun _=>by omega,by omega,?_⟩,?_⟩
        ·rw [aH yco]
         exact s5 _ _ (cJ hy4 fun z=>ny (tl _ z))
        ·show ps.length * m - Lz (upd H5 co _ co) <ps.length * m - Lz (H4 co)
         rw [c5,c4]
         omega
      ·have hge:¬S4.d p.name <m:=fun z=>hge (by simpa using z)
       refine dz ⟨S4,k4,b4,_,_,rfl,I4,fun hb=>⟨(hf4 hb).1,fun p' hp' hlt'=>?_⟩,ht4,hle4⟩
       rw [List.take_succ,hpj,Option.toList_some] at hp'
       rcases List.mem_append.mp hp' with z | z
       ·exact(hf4 hb).2 p' z hlt'
       ·rw [List.mem_singleton] at z
        rw [z,<-(hf4 hb).1] at hlt'
        exact absurd hlt' hge
     ·intro σ H' Q' Q'' hQ hq
      obtain⟨x1,x2,x3,x4,x5,x6,x7,x8,x9,x10,x11,x12,x13,x14,x15,x16,x17,x18,x19,x20,x21,x22,x23,x24,hq⟩:=hq
      refine⟨x1,x2,x3,x4,x5,x6,x7,x8,x9,x10,x11,x12,x13,x14,x15,x16,x17,x18,x19,x20,x21,x22,x23,x24,?_⟩
      split at hq
      ·rename_i hb
       rw [if_pos hb]
       obtain⟨y1,y2,y3,y4,y5,y6,y7,y8,y9,y10,hq⟩:=hq
       exact⟨y1,y2,y3,y4,y5,y6,y7,y8,y9,y10,Ju (fun v H ⟨b,e,z⟩=>⟨b,e,hQ _ _ z⟩) hq⟩
      ·rename_i hb
       rw [if_neg hb]
       exact hQ _ _ hq
    rintro σ H2 ⟨S',kk',bb,v16,v17,rfl,I2,hf,ht,hle⟩
    have c2:=Hh I2.cnt
    have sm2:=Mx I2.dm
    refine⟨⟨S',kk',bb,_,_,rfl,I2,fun hb p hp hlt=>?_⟩,?_⟩
    ·obtain⟨e,h⟩:=hf hb
     rw [e] at hlt ⊢
     exact h p (by rw [yl,List.take_length];exact hp) hlt
    ·show 2 * (ps.length * m - Lz (H2 co))+(match some (some (V.bl bb)) with | some (some (.bl true))=>1 | _=>0) <2 * (ps.length * m - Lz (H1 co))+1
     rw [c1,c2]
     cases bb with
     | false=>show _+0 <_;omega
     | true=>
      have:=ht rfl
      show _+1 <_
      omega
  ·intro σ H' Q' Q'' hQ hq
   obtain⟨v,e,b,e2,q⟩:=hq
   exact⟨v,e,b,e2,hQ _ _ q⟩
inductive wI (K:PySem.W.Frag) (t:jN) (vs:List V) (H:Hp) (Q:VK) (E:XK):Prop where
 | mk:∀(r:Addr) (n:Nat) (A:pN) (ls:List aG) (ps:List PD) (S:FS) (L:Addr) (xs:List V),vs=[.ref r,.ref L]->pP t H r A.n A.f n->iK K t H A.n ls ps->eN K t H A ls ps S->H L=some (.lst xs)->jM (uA H) xs ls->((∀l∈ls,S.g l.name<=(S.ev l.name).length))->((∀l∈ls,((S.ev l.name).length:Int) - (S.g l.name:Int)<=l.room))->((∀l∈ls,(S.ev l.name).length<=90000))->(∀H',aM H H'->Q (.bl true) H')->wI K t vs H Q E
theorem Fq (T:Txt w K mg t):FO P w K mg base 4 t.zq ["_law_run", "_law_lanes"] (wI K t):=by
 have sc:=T.rO.sc ["_law_run", "_law_lanes", "_law_name", "_law_room", "_law_first", "_law_now", "_law_had"]
 refine T.rO.F.ok sc ln (fun _ _ _ _ H vs Q E hr h=>?_)
 obtain⟨r,n,A,ls,ps,S,L,xs,rfl,hR,N,W,eL,aL,hg,hm,hb,k⟩:=h
 refine⟨_,(au (dD PassesOwn.never rfl (b8 (pv 1)) (jT rfl (bD (gN sc 2) (bD (gN sc 3) (bD (gN sc 4) fQ))))
   (au (sN sc 5 (wQ (pv 0) T.bZ T.bZ.me.2.2.2.2.2.2.1 (Bm T) T.oY hr (aa (pv 2) ak aj)))
   (au (sN sc 6 (wQ (pv 0) T.bZ T.bZ.me.2.2.2.2.2.2.2.2.1 (Cr T) T.vo hr (aa (pv 2) ak aj)))
   (aA (bR (PW.pt (rF (aW Gr (bf bN (by rfl) T.dX cH (aa (pv 5) ak aj)) (pv 3) (bC _)) (kj (aW (Ie hr.units) (iU nj (pv 6) (jE (aX Ij (bf bN (by rfl) T.dX cH (aa (pv 6) ak aj)) (bf bN (by rfl) T.dX cH (aa (pv 5) ak aj)))) lN) (pv 5) (bC _)))))
    (aA (aN iu))
    aZ)))))
  (aA (aN iu))),?_⟩
 have hz:sizeLine=16777216:=sizeLine_eq
 refine⟨_,rfl,L,rfl,⟨_,bI.of eL⟩,cU (K:=K) (a:=L) (xs:=xs) (fun j σ H'=>aM H H'/\∃v2 v3 v4 v5 v6,σ=[some (.ref r),some (.ref L),v2,v3,v4,v5,v6]) ⟨aM.refl _,_,_,_,_,_,rfl⟩ (fun j σ H' _ h=>bI.of (h.1 _ _ eL)) ?_ ?_⟩
 ·rintro j x σ H1 hx ⟨s1,v2,v3,v4,v5,v6,rfl⟩
  obtain⟨l,hlj,q,f,rfl,hq,hf⟩:=aL.get hx
  have hl:=List.mem_of_getElem? hlj
  have g:=hg l hl
  have rm:=hm l hl
  have lb:=hb l hl
  refine⟨q,_,rfl,eQ.of (s1 _ _ hq),rfl,_,_,rfl,_,_,rfl,_,_,rfl,rfl,?_⟩
  obtain⟨dxr,fsr,R1⟩:=hR.same s1
  refine⟨_,rfl,r,dxr,fsr,rfl,R1.1.1,R1.2.no _ (by decide +kernel),_,rfl,r,n,A,ls,ps,S,l,rfl,hR.same s1,N.same s1,W.same s1,hl,fun H2 p2 s2 np2 ep2=>?_⟩
  have s12:=s1.trans s2
  obtain⟨dxr,fsr,R2⟩:=hR.same s12
  refine⟨_,rfl,r,dxr,fsr,rfl,R2.1.1,R2.2.no _ (by decide +kernel),_,rfl,r,n,A,ls,ps,S,l,rfl,hR.same s12,N.same s12,W.same s12,hl,fun H3 p3 s3 np3 ep3=>?_⟩
  have ep2':=s3 _ _ ep2
  have s13:=s12.trans s3
  have gd:Gd 1 (.list (((S.ev l.name).drop (S.g l.name)).map PyData.int)):=.list (.ints 0 _)
  have ln:(((S.ev l.name).drop (S.g l.name)).map V.int).length=(S.ev l.name).length - S.g l.name:=by rw [lM,List.length_drop]
  refine⟨_,rfl,_,(S.ev l.name).length - S.g l.name,rfl,.inl ⟨_,bI.of ep2',ln.symm⟩,_,rfl,_,_,rfl,rfl,_,rfl,?_⟩
  rw [decide_eq_false (by omega)]
  refine dz ⟨_,rfl,_,rfl,_,(S.ev l.name).length,rfl,.inl ⟨_,bI.of ep3,by rw [lM]⟩,_,rfl,_,(S.ev l.name).length - S.g l.name,rfl,.inl ⟨_,bI.of ep2',ln.symm⟩,_,_,rfl,rfl,_,rfl,p3,_,rfl,bI.of ep3,fun v nv=>?_⟩
  rw [show(((S.ev l.name).length:Nat):Int) - (((S.ev l.name).length - S.g l.name:Nat):Int)=((S.g l.name:Nat):Int) by omega,Jx,<-List.map_drop]
  have t4:=aB (o:=.lst (((S.ev l.name).drop (S.g l.name)).map V.int)) nv
  refine⟨_,rfl,_,_,lE (bI.of az),lE (bI.of (t4 _ _ ep2')),gd.shaped (by decide),gd.shaped (by decide),_,rfl,?_⟩
  rw [gd.eq]
  exact dz ⟨s13.trans t4,_,_,_,_,_,rfl⟩
 rintro σ H1 ⟨s1,v2,v3,v4,v5,v6,rfl⟩
 exact k _ s1
theorem Mw {α:Type} {f:α->List Str} {g:α->List Int} {x:Str}:∀{l:List α},(l.flatMap f).Nodup->(∀a∈l,(g a).length<=1)->(∀a∈l,g a≠[]->x∈f a)->(l.flatMap g).length<=1
 | [],_,_,_=>by simp
 | a:: r,nd,h1,h2=>by
  rw [List.flatMap_cons,List.nodup_append] at nd
  rw [List.flatMap_cons,lP]
  by_cases h:g a=[]
  ·rw [h]
   have:=Mw nd.2.1 (fun b hb=>h1 b (List.mem_cons_of_mem _ hb)) fun b hb=>h2 b (List.mem_cons_of_mem _ hb)
   simpa using this
  ·have hx:=h2 a List.mem_cons_self h
   have e:r.flatMap g=[]:=List.flatMap_eq_nil_iff.mpr fun b hb=>by
    by_cases hb':g b=[]
    ·exact hb'
    ·exact absurd rfl (nd.2.2 x hx x (List.mem_flatMap.mpr ⟨b,hb,h2 b (List.mem_cons_of_mem _ hb) hb'⟩))
   rw [e]
   have:=h1 a List.mem_cons_self
   simpa using this
theorem Q4 {ls:List aG} {ps:List PD} {S:FS} {xs:List Str} (F:vh ls ps):((mL ls ps S xs).flatMap (·.1.outs)).Nodup:=by
 have h:((mL ls ps S xs).map (·.1)).Sublist ps:=(oO (qs:=ps.filter (p7 xs))).trans List.filter_sublist
 have h2:=(F.whole.outs.nodup_iff.mpr F.whole.nod).sublist (yO (f:=(·.outs)) h)
 rwa [List.flatMap_map] at h2
theorem Ph {ls:List aG} {ps:List PD} {S:FS} {xs:List Str} (F:vh ls ps) (R:∀l∈ls,((S.ev l.name).length:Int) - (S.g l.name:Int)<=l.room):∀l∈ls,(((jj ls ps S xs).ev l.name).length:Int) - ((jj ls ps S xs).g l.name:Int)<=l.room:=fun l hl=>by
 have e1:((jj ls ps S xs).ev l.name)=_:=yh l.name _ _
 have e2:((jj ls ps S xs).g l.name)=_:=Ir l.name _ _
 have hr:=R l hl
 have c1:((mL ls ps S xs).flatMap fun w=>(w.2.gv.filter fun q=>decide (q.1=l.name)).map (·.2)).length<=1:=Mw (f:=(·.1.outs)) (x:=l.name) (Q4 F) (fun w hw=>by
   have h:=jB hw
   rw [lM]
   exact Ja (f:=fun q:Str×Int=>q.1) (NK F h.1 (gA h.2.2).1).1) fun w hw hne=>by
   have h:=jB hw
   obtain⟨v,hv⟩:=List.exists_mem_of_ne_nil _ hne
   obtain⟨q,hq,_⟩:=List.mem_map.mp hv
   obtain⟨hq1,hq2⟩:=List.mem_filter.mp hq
   have:=(NK F h.1 (gA h.2.2).1).2 q hq1
   rwa [of_decide_eq_true hq2] at this
 rw [e1,e2,lP]
 by_cases hne:((mL ls ps S xs).flatMap fun w=>(w.2.gv.filter fun q=>decide (q.1=l.name)).map (·.2))=[]
 ·rw [hne,List.length_nil]
  omega
 ·obtain⟨v,hv⟩:=List.exists_mem_of_ne_nil _ hne
  obtain⟨w,hw,hv⟩:=List.mem_flatMap.mp hv
  obtain⟨q,hq,_⟩:=List.mem_map.mp hv
  obtain⟨hq1,hq2⟩:=List.mem_filter.mp hq
  have hq2:=of_decide_eq_true hq2
  have hf:=(gA (jB hw).2.2).2
  unfold Al at hf
  have nf:w.2.gv.find? (zf ls S)=none:=by
   cases h:w.2.gv.find? (zf ls S) with
   | none=>rfl
   | some z=>rw [h] at hf;cases hf
  have:=List.find?_eq_none.mp nf q hq1
  unfold zf at this
  rw [hq2,Jp F.whole.nod hl] at this
  have:¬l.room<=((S.ev l.name).length:Int) - (S.g l.name:Int):=fun z=>this (decide_eq_true z)
  omega
theorem Sw (p:PD) (h:p.kind <11):inV (.str (cL p.kind)) [.str "give",.str "take"]=decide (p.kind <2):=by
 have:∀i,i <11->(decide (cL i= "give") || decide (cL i= "take"))=decide (i <2):=by decide +kernel
 rw [<-this _ h]
 have n1:¬("give" :Str)= "take" :=by decide +kernel
 by_cases h1:cL p.kind= "give"
 ·simp [inV,Gs,h1]
 ·by_cases h2:cL p.kind= "take"
  ·simp [inV,Gs,h2]
  ·simp [inV,Gs,h1,h2,Ne.symm h1,Ne.symm h2]
theorem Qc {H:Hp} {Q:VK} {Ex:XK} {H0:Hp} {r dx n rw:Addr} {ls:List aG} {ps:List PD} {RW:List (Str×Addr×List Int)} (hr:H r=some (.ins t.pJ dx [])) (s0:aM H0 H) (nr:H0 r=none) (N:iK K t H0 n ls ps) (hrw:jX H0 rw RW) (hO:K8 ps RW)
  (k:∀(H':Hp) (A:pN),A.n=n->aM H0 H'->yR K t H' r 0 A ls ps (cG ls ps RW)->(∀a∈A.cells ls ps,H0 a=none)->Q .non H'):gW K t [.ref r,.ref n,.ref rw] H Q Ex:=by
 unfold gW
 exact⟨H0,r,dx,n,rw,ls,ps,RW,rfl,hr,s0,nr,N,hrw,hO,k⟩
theorem Um {H:Hp} {Q:VK} {Ex:XK} {b n:Nat} {r L:Addr} {A:pN} {ls:List aG} {ps:List PD} {S:FS} {xs:List Str} (R:yR K t H r n A ls ps S) (O:KN b ls ps S) (hb:b<=90000) (hn:n<=900) (hL:bI K H L (xs.map V.str)) (nL:L∉A.cells ls ps) (hx:∀x∈xs,V.str x∈dF ps "give" ++ dF ps "take")
  (k:∀H' p,aM (bB (r:: A.cells ls ps) H) (bB (r:: A.cells ls ps) H')->yR K t H' r (n+1) A ls ps (jj ls ps S xs)->H p=none->H' p=some (.lst ((mL ls ps S xs).map fun w=>V.str w.1.name))->Q (.ref p) H'):lZ K t [.ref r,.ref L] H Q Ex:=by
 unfold lZ
 exact⟨b,r,n,A,ls,ps,S,L,xs,rfl,R,O,hb,hn,hL,nL,hx,k⟩
theorem vN {E:List Addr} {H H':Hp} (s:aM H H'):aM (bB E H) (bB E H'):=fun b o e=>by
 have hb:b∉E:=fun z=>by unfold bB at e;rw [if_pos z] at e;cases e
 exact cJ (s _ _ (cj _ _ e)) hb
theorem yR.same {H H':Hp} {r:Addr} {n:Nat} {A:pN} {ls:List aG} {ps:List PD} {S:FS} (h:yR K t H r n A ls ps S) (s:aM H H'):yR K t H' r n A ls ps S:=⟨h.run.same s,h.net.same (vN s),h.flow.same s,h.ne⟩
theorem yR.out {H:Hp} {r:Addr} {n:Nat} {A:pN} {ls:List aG} {ps:List PD} {S:FS} (h:yR K t H r n A ls ps S) {a:Addr} (ha:H a=none):a∉r:: A.cells ls ps:=fun z=>by
 rcases List.mem_cons.mp z with rfl | z
 ·obtain⟨_,_,h1,_⟩:=h.run
  rw [ha] at h1
  cases h1.1
 ·exact h.flow.cell ha z
theorem Qn {H:Hp} {Q:VK} {Ex:XK} {L P rw:Addr} {ls:List aG} {ps:List PD} {RW:List (Str×Addr×List Int)} {m:Nat} (A:Cp H L P ls ps) (F:vh ls ps) (hR:jX H rw RW) (hb:∀q∈RW,∀v∈q.2.2,0<=v/\v <1000000000) (hm:m<=100) (k:∀H' D pa T,aM H H'->H' D=some (.dK (Kw pa ls))->(∀l∈ls,H' (pa l.name)=some (.lst ((T.ev l.name).map V.int)))->wH ps m (cG ls ps RW) T->Done ps m T->Q (.ref D) H'):ig K [.ref L,.ref P,.ref rw,.int (m:Nat)] H Q Ex:=by
 unfold ig
 exact⟨L,P,rw,ls,ps,RW,m,rfl,A,F,hR,hb,hm,k⟩
theorem wH.takes {ls:List aG} {ps:List PD} {m:Nat} (F:vh ls ps) {p:PD} (hp:p∈ps) (h1:p.kind=1) {x:Str} (ei:p.ins=[x]) {S T:FS} (r:wH ps m S T):S.g x=S.d p.name->T.g x=T.d p.name:=by
 induction r with
 | refl _=>exact id
 | @head S T q dd hq hm hd _ ih=>
  intro e
  refine ih ?_
  obtain⟨_,_,rfl⟩:=iB hd
  show(if x∈(places q.kind (aQ S q)).map (strAt q.ins) then S.g x+1 else S.g x)=if p.name=q.name then S.d p.name+1 else S.d p.name
  by_cases h:q=p
  ·subst h
   have el:(aQ S q).length=1:=by unfold aQ;rw [lM,ei];rfl
   have ep:places q.kind (aQ S q)=[0]:=by unfold places;rw [if_neg (by rw [h1];decide),el];rfl
   rw [if_pos rfl,if_pos (by rw [ep,ei];simp [strAt]),e]
  ·rw [if_neg fun z=>h (uO (F.whole.ins.nodup_iff.mpr F.whole.nod) hq hp (J7 F hq hd z).1 (by rw [ei];simp)),if_neg fun z=>h (jn F.pnd hq hp z.symm),e]
theorem Xz (m:Int):∃c:Nat,Es [V.int 2,.int 6] (m % 2)=some (.int (c:Nat))/\1<=c:=by
 have h0:=Int.emod_nonneg m (show(2:Int)≠0 by decide)
 have h1:=Int.emod_lt_of_pos m (show(0:Int) <2 by decide)
 have:m % 2=0∨m % 2=1:=by omega
 rcases this with h | h <;> rw [h]
 ·exact⟨2,rfl,by decide⟩
 ·exact⟨6,rfl,by decide⟩
theorem Tt:∀i,i <11->decide (V.str (cL i)=V.str "take")=decide (i=1):=by decide +kernel
inductive Di (K:PySem.W.Frag) (vs:List V) (H:Hp) (Q:VK) (E:XK):Prop where
 | mk:∀(a:Addr) (ns:List Int),vs=[.ref a]->bI K H a (ns.map V.int)->ns.length<=63->(∀H',Q (.bl true) H')->Di K vs H Q E
noncomputable abbrev Vp:List Str:=["_law_script", "_law_lanes", "_law_parts", "_law_rows", "_law_run", "_law_doors_here", "_law_seldom", "_law_cell_here", "_law_plain_here", "_law_name", "_law_room", "_law_first", "_law_had", "_law_one", "_law_took"]
theorem Wb (T:Txt w K mg t):FO P w K mg base 8 t.U4 ["_law_script"] (Di K):=by
 have sc:=T.M9.sc Vp
 refine T.M9.F.ok sc ln (fun _ _ _ _ H vs Q E hr h=>?_)
 obtain⟨a,ns,rfl,hS,hl,k⟩:=h
 refine⟨_,(au (Mg (dZ (JD T) T.xm hr (aa (pv 0) (aa aq (aa aq (aa iu ak ao) ao) ao) aj)) (jT rfl (bD (gN sc 1) (bD (gN sc 2) fQ))))
  (au (sN sc 3 (dZ (Fd T) T.rN hr (aa (pv 0) (aa (pv 2) (aa aq ak ao) aj) aj)))
  (au (sN sc 4 (iw (T.bZ.M T.jZ) (Bj T) (hr.mono (by decide)) (by rfl) T.bZ.m T.jZ.b .nil iy (aa (iw (T.bu.M T.j5) (Bl T) (hr.mono (by decide)) (by rfl) T.bu.m T.j5.b .nil iy (aa (pv 1) (aa (pv 2) ak aj) aj)) (aa (pv 3) ak aj) aY)))
  (au (mH (i:=5) [] Vp (bc (top 84)) rfl sc.nd rfl (b8 (pv 2)) (fun _ _ _ _ _=>(wZ (aW (K1 (K:=K) rfl) (aR (rQ (K:=K) rfl) (pv 0) aq (fun _ _=>rfl)) (bU (aa bK (aa bK ak ao) ao)) (by with_unfolding_all rfl)))) (fun _ _ _ _ _=>(aR (rQ (K:=K) rfl) (pv 0) aq (fun _ _=>rfl))))
  (au (sN sc 6 (aR aO (bw (aa aq (aa aq ak ao) ao)) (aX bW (dZ (bx T) T.bA hr (aa (dZ (gP T) T.fP hr (aa (pv 0) (aa aq ak ao) aj)) (aa aq ak ao) aY)) aq) (fun _ _=>rfl)))
  (au (dD PassesOwn.never rfl (b8 (iU nj (pv 0) (jE aq) (jE aq))) (gN sc 7)
   (au (bL (Nv (pv 4) T.bZ.c (T.xf.me T.bZ.me.2.2.2.2.1) (JH T) (hr.mono (by decide)) T.xf.b .nil iy (aa (dZ (HS T) T.Ay hr (aa (pv 0) (aa (pv 5) (aa (pv 7) (aa (pv 6) ak aj) aj) aj) aj)) ak aY)))
   (aA (bR (kJ (jo (dZ (Fq T) T.rO hr (aa (pv 4) (aa (pv 1) ak aj) aj))))
    (aA (aN iu))
    aZ))))
  (au (sN sc 8 (dZ (Fi T) T.sV hr (aa (pv 1) (aa (pv 2) (aa (pv 3) (aa aq ak ao) aj) aj) aj)))
  (au (dD PassesOwn.never rfl (b8 (pv 1)) (jT rfl (bD (gN sc 9) (bD (gN sc 10) (bD (gN sc 11) fQ))))
   (au (sN sc 12 (wQ (pv 4) T.bZ T.bZ.me.2.2.2.2.2.2.2.2.1 (Cr T) T.vo hr (aa (pv 9) ak aj)))
   (aA (bR (PW.pt (rF (aW (Ie hr.units) (iU nj (bV hr.u1 (pv 8) (pv 9) (fun _ _=>rfl)) lN (jE (bf bN (by rfl) T.dX cH (aa (pv 12) ak aj)))) (pv 12) (bC _)) (kj (aW (Ie hr.units) (iU nj (pv 12) lN (jE (bf bN (by rfl) T.dX cH (aa (pv 11) ak aj)))) (dg jU (by rfl) T.pB j0 (aa (pv 11) ak aj)) (bC _)))))
    (aA (aN iu))
    aZ))))
  (au (dD PassesOwn.never rfl (b8 (pv 2)) (gN sc 13)
   (aA (fu (bR (aW dU (aR cC (pv 13) aq (fun _ _=>rfl)) bK (bC _))
    (au (sN sc 14 (wQ (pv 4) T.bZ T.bZ.me.2.2.2.2.2.2.2.2.2.1 (Hs T) T.um hr (aa (aR cC (pv 13) aq (fun _ _=>rfl)) ak aD)))
    (aA (bR (PW.pt (rF (aW JZ (bf bN (by rfl) T.dX cH (aa (pv 14) ak aj)) (wQ (pv 4) T.bZ T.bZ.me.2.2.2.2.2.1 (Iz T) T.tX hr (aa (aR cC (pv 13) aq (fun _ _=>rfl)) ak aD)) (bC _)) (kj (aW (Ie hr.units) (iU nj (bV hr.u1 (pv 8) (aR aO (aR cC (pv 13) aq (fun _ _=>rfl)) aq (fun _ _=>rfl)) (fun _ _=>rfl)) lN (jE (bf bN (by rfl) T.dX cH (aa (pv 14) ak aj)))) (pv 14) (bC _)))))
     (aA (aN iu))
     aZ)))
    aZ))))
  (aA (aN iu))))))))))),?_⟩
 have hz:sizeLine=16777216:=sizeLine_eq
 refine⟨_,rfl,a,ns,3,4,true,rfl,hS,by decide,fun T' L P ls ps H2 s2 nL nP nLP eT A D=>?_⟩
 refine⟨T',_,rfl,eQ.of eT,rfl,_,_,rfl,_,_,rfl,rfl,?_⟩
 have F:=D.fit
 clear eT nL nP nLP D
 have p16:=F.p16
 obtain⟨_,⟨ys,eP,aP⟩⟩:=id A
 have yl:=aP.length
 refine⟨_,rfl,_,rfl,a,P,ns,ys,ps,40,rfl,s2.seq hS,eP,aP,p16,by decide,fun H4 d RW s4 nd hR4 lR=>?_⟩
 refine⟨_,rfl,_,rfl,fun n dxn nn ndn nen=>?_⟩
 have gn:aM H4 (upd (upd H4 dxn (.own n)) n (.ins t.dR dxn [])):=fun b o e=>by rw [aH (aF e nn),aH (aF e ndn)];exact e
 have en:upd (upd H4 dxn (.own n)) n (.ins t.dR dxn []) n=some (.ins t.dR dxn []):=az
 generalize upd (upd H4 dxn (.own n)) n (.ins t.dR dxn [])=Hn at gn en ⊢
 have hH:Hand K Hn L P ls ps:=by
  obtain⟨⟨x1,x2,x3⟩,⟨y1,y2,y3⟩⟩:=A.same (s4.trans gn)
  refine⟨⟨x1,bI.of x2,x3.imp fun _ _ h=>?_⟩,⟨y1,bI.of y2,y3.imp fun _ _ h=>?_⟩⟩
  ·obtain⟨q,f,e,h1,h2⟩:=h
   exact⟨q,f,e,h1,.inl (bI.of h2)⟩
  ·obtain⟨q,a1,a2,a3,e,h1,h2,h3,h4⟩:=h
   exact⟨q,a1,a2,a3,e,h1,.inl (bI.of h2),.inl (bI.of h3),.inl (bI.of h4)⟩
 refine⟨n,dxn,L,P,ls,ps,rfl,en,hH,F,fun H5 b5 N5=>⟨rfl,?_⟩⟩
 have s45:aM H4 H5:=fun b o e=>b5 b o (aF e nn) (gn b o e)
 have s25:=s4.trans s45
 have hR5:=hR4.at'.same s45
 refine⟨_,rfl,fun r dxr nr ndr ner=>?_⟩
 have gr:aM H5 (upd (upd H5 dxr (.own r)) r (.ins t.pJ dxr [])):=fun b o e=>by rw [aH (aF e nr),aH (aF e ndr)];exact e
 refine Qc az gr nr N5 hR5 ⟨hR4.door,hR4.bnd⟩ fun H6 Z eZ s6 R6 fr6=>⟨rfl,?_⟩
 have eA:∀a∈r:: Z.cells ls ps,H5 a=none:=fun a ha=>by
  rcases List.mem_cons.mp ha with rfl | h
  ·exact nr
  ·exact fr6 a h
 have s56:aM H5 (bB (r:: Z.cells ls ps) H6):=fun b o e=>cJ (s6 _ _ e) fun z=>by rw [eA b z] at e;cases e
 have s26:=s25.trans s56
 have hRC:=hR5.same s56
 have O6:=Ge F hR4.at'.len hR4.bnd
 have hbn:=hR4.bnd
 have g6:∀l∈ls,(cG ls ps RW).g l.name<=((cG ls ps RW).ev l.name).length:=fun _ _=>Nat.zero_le _
 have f6:∀l∈ls,(cG ls ps RW).ev l.name=l.first:=fun l hl=>ud F.whole.nod hl
 have rm6:∀l∈ls,(((cG ls ps RW).ev l.name).length:Int) - ((cG ls ps RW).g l.name:Int)<=l.room:=fun l hl=>by
  rw [f6 l hl]
  show(l.first.length:Int) - ((0:Nat):Int)<=l.room
  have:=(F.lok l hl).2.2.1
  omega
 have pl6:∀{H:Hp} {Q:VK} {Ex:XK},Cp H L P ls ps->jX H d RW->(∀H' D pa T,aM H H'->H' D=some (.dK (Kw pa ls))->(∀l∈ls,H' (pa l.name)=some (.lst ((T.ev l.name).map V.int)))->wH ps 53 (cG ls ps RW) T->Done ps 53 T->Q (.ref D) H')->ig K [.ref L,.ref P,.ref d,.int 53] H Q Ex:=fun A hR k=>Qn (m:=53) A F hR hbn (by decide) k
 have tk6:∀x y,(cG ls ps RW).g x=(cG ls ps RW).d y:=fun _ _=>rfl
 have d6:∀x,(cG ls ps RW).d x<=0:=fun _=>Nat.le_refl _
 generalize cG ls ps RW=S0 at R6 O6 g6 rm6 f6 pl6 tk6 d6
 clear hR4 N5 gr gn en hH b5 s45 s25 s4 nd hR5 hbn
 have eP6:=s26 _ _ eP
 refine⟨_,rfl,P,rfl,⟨_,bI.of (cj _ _ eP6)⟩,jd (K:=K) (a:=P) (xs:=ys) (fun j ys H'=>aM H6 H'/\ys=((ps.take j).filter fun p=>decide (p.kind <2)).map fun p=>V.str p.name) (by omega) ⟨aM.refl _,rfl⟩ (fun j ys H' h=>by rw [h.2,lM];exact Nat.le_trans (List.length_filter_le _ _) (by rw [List.length_take];omega)) (fun j ys H' _ h=>h.1.seq (bI.of (cj _ _ eP6))) ?_ ?_⟩
 ·rintro j x ys H9 hx ⟨s9,rfl⟩
  obtain⟨p,hpj,q,a1,a2,a3,rfl,hq,_⟩:=aP.get hx
  have hq9:=s9 _ _ (cj _ _ (s26 _ _ hq))
  refine⟨_,rfl,q,_,0,_,rfl,rfl,eQ.of hq9,aK (j:=0) rfl,jl,fun u nu=>⟨u,_,rfl,.inr (eQ.of az),rfl,by simp [mF],_,rfl,?_⟩⟩
  have t9:=aB (o:=.tup [.str "give",.str "take"]) nu
  rw [Sw p (F.pok p (List.mem_of_getElem? hpj)).1,List.take_succ,hpj,Option.toList_some,List.filter_append,List.map_append,List.filter_cons]
  by_cases h2:p.kind <2
  ·rw [decide_eq_true h2]
   exact gj ⟨_,rfl,q,_,1,_,rfl,rfl,eQ.of (t9 _ _ hq9),aK (j:=1) rfl,s9.trans t9,rfl⟩
  ·rw [decide_eq_false h2]
   exact dz ⟨s9.trans t9,by simp⟩
 rintro zs H9 ⟨s9,rfl⟩ Ld nLd
 rw [yl,List.take_length]
 obtain⟨ds,hds⟩:∃ds:List Str,ds=(ps.filter fun p=>decide (p.kind <2)).map fun p=>p.name:=⟨_,rfl⟩
 have lds:ds.length<=16:=by rw [hds,lM];exact Nat.le_trans (List.length_filter_le _ _) p16
 have dds:∀x∈ds,V.str x∈dF ps "give" ++ dF ps "take" :=fun x hx=>by
  rw [hds] at hx
  obtain⟨p,hp,rfl⟩:=List.mem_map.mp hx
  obtain⟨hp,h2⟩:=List.mem_filter.mp hp
  have h2:=of_decide_eq_true h2
  refine List.mem_append.mpr ?_
  have:p.kind=0∨p.kind=1:=by omega
  rcases this with h | h
  ·exact .inl (List.mem_map.mpr ⟨p,List.mem_filter.mpr ⟨hp,by rw [h];rfl⟩,rfl⟩)
  ·exact .inr (List.mem_map.mpr ⟨p,List.mem_filter.mpr ⟨hp,by rw [h];rfl⟩,rfl⟩)
 have mds:((ps.filter fun p=>decide (p.kind <2)).map fun p=>V.str p.name)=ds.map V.str:=by rw [hds,List.map_map];rfl
 rw [mds]
 clear mds hds
 have t10:=s9.trans (aB (o:=.lst (ds.map V.str)) nLd)
 have eLd:upd H9 Ld (.lst (ds.map V.str)) Ld=some (.lst (ds.map V.str)):=az
 have nLd6:=s9.free nLd
 generalize upd H9 Ld (.lst (ds.map V.str))=H10 at t10 eLd ⊢
 have hSC:=(s2.trans s26).seq hS
 refine⟨jl,fun u nu=>?_⟩
 have t11:=t10.trans (aB (o:=.lst [.int 2,.int 6]) nu)
 have eLd11:=aB (o:=.lst [.int 2,.int 6]) nu _ _ eLd
 have eu:upd H10 u (.lst [.int 2,.int 6]) u=some (.lst [.int 2,.int 6]):=az
 generalize upd H10 u (.lst [.int 2,.int 6])=H11 at t11 eLd11 eu ⊢
 obtain⟨sd,esd,hsd⟩:=Xz (cD (j8 ns 2) 0)
 refine⟨_,rfl,a,ns,2,rfl,(cj.trans t11).seq hSC,_,_,rfl,_,_,rfl,rfl,by show(0:Int) <2;decide,u,_,_,_,rfl,rfl,bI.of eu,esd,?_⟩
 refine⟨_,rfl,_,rfl,_,rfl,a,_,rfl,(cj.trans t11).seq hSC,fun Lc nLc=>⟨Lc,rfl,⟨_,bI.of az⟩,?_⟩⟩
 obtain⟨cs,ecs,lcs⟩:∃cs:List Int,xK (ns.map V.int) (some 10) (some 63)=cs.map V.int/\cs.length<=53:=by
  refine⟨(ns.drop (min 10 ns.length)).take (min 63 ns.length - min 10 ns.length),(RZ (ns.map V.int) 10 63).trans ?_,?_⟩
  ·rw [List.map_take,List.map_drop,lM]
  ·rw [List.length_take];omega
 rw [ecs]
 have t7:=t11.trans (aB (o:=.lst (cs.map V.int)) nLc)
 have R7:=R6.same t7
 have eLc:bB (r:: Z.cells ls ps) (upd H11 Lc (.lst (cs.map V.int))) Lc=some (.lst (cs.map V.int)):=cJ az (R6.out (t11.free nLc))
 have eLdC:bB (r:: Z.cells ls ps) (upd H11 Lc (.lst (cs.map V.int))) Ld=some (.lst (ds.map V.str)):=cJ (aB nLc _ _ eLd11) (R6.out nLd6)
 have c7:=vN (E:=r:: Z.cells ls ps) t7
 have hSC7:=c7.seq hSC
 have AC7:=(A.same s26).same c7
 have hRC7:=hRC.same c7
 generalize upd H11 Lc (.lst (cs.map V.int))=H7 at t7 R7 eLc eLdC c7 hSC7 AC7 hRC7 ⊢
 obtain⟨C,hC⟩:∃C,C=bB (r:: Z.cells ls ps) H7:=⟨_,rfl⟩
 rw [<-hC] at eLc eLdC hSC7 AC7 hRC7
 clear c7 t11 t10 s9 eLd11 eu eLd hSC hRC eP6 eP aP yl ys s26 s56
 obtain⟨⟨xs,eL,aL⟩,⟨ys,eP,aP⟩⟩:=id AC7
 refine cU (K:=K) (a:=Lc) (xs:=cs.map V.int) (fun j σ H'=>∃S,(∃v7,σ=[some (.ref a),some (.ref L),some (.ref P),some (.ref d),some (.ref r),some (.ref Ld),some (.int (sd:Nat)),v7,none,none,none,none,none,none,none])/\yR K t H' r j Z ls ps S/\aM C (bB (r:: Z.cells ls ps) H')/\KN (199+32 * j) ls ps S/\(∀l∈ls,S.g l.name<=(S.ev l.name).length)/\(∀l∈ls,((S.ev l.name).length:Int) - (S.g l.name:Int)<=l.room)/\wH ps 53 S0 S/\∀x,S.d x<=j) ⟨S0,⟨none,rfl⟩,R7,by rw [hC];exact aM.refl _,O6,g6,rm6,.refl _,d6⟩ (fun j σ H' _ ⟨_,_,_,sC,_⟩=>bI.of (cj _ _ (sC _ _ eLc))) ?_ ?_
 ·rintro j x σ H8 hx ⟨S,⟨v7,rfl⟩,R8,sC,O,g,rm,rc,dj⟩
  rw [List.getElem?_map] at hx
  obtain⟨c,hc,rfl⟩:=Option.map_eq_some_iff.mp hx
  have hj:=(List.getElem?_eq_some_iff.mp hc).1
  have nx:=sC.trans cj
  obtain⟨dxr,fsr,R0⟩:=id R8.run
  refine⟨_,rfl,r,dxr,fsr,rfl,R0.1.1,R0.2.no _ (by decide +kernel),_,rfl,_,rfl,_,rfl,_,rfl,a,Ld,ns,ds,c,sd,rfl,nx.seq hSC7,bI.of (nx _ _ eLdC),lds,hsd,fun H9 Lh zs sh nLh eLh hxs=>?_⟩
  refine Um (R8.same sh) O (by omega) (by omega) (bI.of eLh) (R8.flow.cell nLh) (fun x hx=>dds x (hxs x hx)) fun H10 p c10 R10 np ep=>?_
  have sC10:=(sC.trans (vN sh)).trans c10
  have n10:=sC10.trans cj
  have O10:=Uh F O zs
  have g10:=Ti (xs:=zs) F g
  have rm10:=Ph (xs:=zs) F rm
  refine⟨_,rfl,_,rfl,r,j+1,Z,ls,ps,jj ls ps S zs,L,xs,rfl,R10.run,R10.netH,R10.flow,n10 _ _ eL,aL.imp fun _ _ h=>h.same n10,g10,rm10,fun l hl=>Nat.le_trans (O10.len l hl) (by omega),fun H11 s11=>⟨_,rfl,dz ?_⟩⟩
  exact⟨jj ls ps S zs,⟨_,rfl⟩,R10.same s11,sC10.trans (vN s11),by rw [show 199+32 * (j+1)=199+32 * j+32 by omega];exact O10,g10,rm10,rc.trans (RN F fun p hp=>by have:=dj p.name;omega),fun x=>Nat.le_trans (WT F x) (by have:=dj x;omega)⟩
 rintro σ H8 ⟨S,⟨v7,rfl⟩,R8,sC,O,g,rm,rc,dj⟩
 rw [lM] at R8 O dj
 have n8:=sC.trans cj
 refine⟨_,rfl,_,rfl,_,rfl,pl6 (AC7.same n8) (hRC7.same n8) fun H9 D pa T s9 eD hT rT dT=>?_⟩
 have rST:=wH.ends F rc rT dT
 have n9:=n8.trans s9
 have R9:=R8.same s9
 have gdL:∀l:List Int,Gd 1 (.list (l.map PyData.int)):=fun l=>.list (.ints 0 _)
 refine⟨_,rfl,L,rfl,⟨_,bI.of (n9 _ _ eL)⟩,cU (K:=K) (a:=L) (xs:=xs) (fun j σ H'=>aM H9 H'/\∃v9 v10 v11 v12,σ=[some (.ref a),some (.ref L),some (.ref P),some (.ref d),some (.ref r),some (.ref Ld),some (.int (sd:Nat)),v7,some (.ref D),v9,v10,v11,v12,none,none]) ⟨aM.refl _,_,_,_,_,rfl⟩ (fun j σ H' _ h=>bI.of (h.1 _ _ (n9 _ _ eL))) ?_ ?_⟩
 ·rintro j x σ H1 hx ⟨s1,v9,v10,v11,v12,rfl⟩
  obtain⟨l,hlj,q,f,rfl,hq,hf⟩:=aL.get hx
  have hl:=List.mem_of_getElem? hlj
  have m1:=n9.trans s1
  have R1:=R9.same s1
  obtain⟨l1,e1⟩:=rST.pre l.name
  obtain⟨l0,e0⟩:=rc.pre l.name
  rw [f6 l hl] at e0
  refine⟨q,_,rfl,eQ.of (m1 _ _ hq),rfl,_,_,rfl,_,_,rfl,_,_,rfl,rfl,?_⟩
  obtain⟨dxr,fsr,R0⟩:=id R1.run
  refine⟨_,rfl,r,dxr,fsr,rfl,R0.1.1,R0.2.no _ (by decide +kernel),_,rfl,r,_,Z,ls,ps,S,l,rfl,R1.run,R1.netH,R1.flow,hl,fun H3 p3 s3 np3 ep3=>?_⟩
  have s13:=s1.trans s3
  refine⟨_,rfl,_,rfl,D,_,rfl,MT (s13 _ _ eD) (jA F.whole.nod hl),_,rfl,_,(S.ev l.name).length,rfl,.inl ⟨_,bI.of ep3,by rw [lM]⟩,_,rfl,pa l.name,_,rfl,bI.of (s13 _ _ (hT l hl)),fun v nv=>?_⟩
  rw [ye,<-List.map_take,e1,List.take_left]
  have t4:=aB (o:=.lst ((S.ev l.name).map V.int)) nv
  have ev:upd H3 v (.lst ((S.ev l.name).map V.int)) v=some (.lst ((S.ev l.name).map V.int)):=az
  generalize upd H3 v (.lst ((S.ev l.name).map V.int))=H4 at t4 ev ⊢
  have ep4:=t4 _ _ ep3
  refine⟨_,rfl,_,_,lE (bI.of ev),lE (bI.of ep4),(gdL _).shaped (by decide),(gdL _).shaped (by decide),_,rfl,?_⟩
  rw [(gdL (S.ev l.name)).eq]
  have s14:=s13.trans t4
  have ef:=(n9.trans s14) _ _ hf
  refine dz ⟨_,rfl,_,rfl,_,l.first.length,rfl,.inl ⟨_,bI.of ef,by rw [lM]⟩,_,rfl,p3,_,rfl,bI.of ep4,fun v2 nv2=>?_⟩
  rw [ye,<-List.map_take,e0,List.take_left]
  have t5:=aB (o:=.lst (l.first.map V.int)) nv2
  have ev2:upd H4 v2 (.lst (l.first.map V.int)) v2=some (.lst (l.first.map V.int)):=az
  generalize upd H4 v2 (.lst (l.first.map V.int))=H5 at t5 ev2 ⊢
  refine⟨_,rfl,f,_,rfl,.inl (bI.of (t5 _ _ ef)),fun w nw=>⟨_,_,lE (bI.of (aB nw _ _ ev2)),lE (ws:=l.first) (bI.of az),(gdL _).shaped (by decide),(gdL _).shaped (by decide),_,rfl,?_⟩⟩
  rw [(gdL l.first).eq]
  exact dz ⟨(s14.trans t5).trans (aB nw),_,_,_,_,rfl⟩
 rintro σ Ha ⟨sa,v9,v10,v11,v12,rfl⟩
 refine⟨_,rfl,P,rfl,⟨_,bI.of (sa _ _ (n9 _ _ eP))⟩,cU (K:=K) (a:=P) (xs:=ys) (fun j σ H'=>aM H9 H'/\∃v13 v14,σ=[some (.ref a),some (.ref L),some (.ref P),some (.ref d),some (.ref r),some (.ref Ld),some (.int (sd:Nat)),v7,some (.ref D),v9,v10,v11,v12,v13,v14]) ⟨sa,_,_,rfl⟩ (fun j σ H' _ h=>bI.of (h.1 _ _ (n9 _ _ eP))) ?_ ?_⟩
 ·rintro j x σ H1 hx ⟨s1,v13,v14,rfl⟩
  obtain⟨p,hpj,q,a1,a2,a3,rfl,q0,q1,q2,q3⟩:=aP.get hx
  have hp:=List.mem_of_getElem? hpj
  have ok:=F.pok p hp
  have m1:=n9.trans s1
  refine⟨fun σ' H'=>aM H9 H'/\∃v13 v14,σ'=[some (.ref a),some (.ref L),some (.ref P),some (.ref d),some (.ref r),some (.ref Ld),some (.int (sd:Nat)),v7,some (.ref D),v9,v10,v11,v12,v13,v14],?_,fun _ _ h=>h⟩
  refine⟨_,rfl,q,_,0,_,rfl,rfl,eQ.of (m1 _ _ q0),aK (j:=0) rfl,rfl,_,rfl,?_⟩
  rw [Tt _ ok.1]
  by_cases h1:p.kind=1
  ·rw [decide_eq_true h1]
   obtain⟨x,ei⟩:∃x,p.ins=[x]:=List.length_eq_one_iff.mp (by rw [ok.2.2.1,h1];rfl)
   obtain⟨l,hl,rfl⟩:=F.inL hp (show x∈p.ins ++ p.outs by rw [ei];simp)
   have ed:S.g l.name=S.d p.name:=rc.takes F hp h1 ei (tk6 _ _)
   have gl:=g l hl
   obtain⟨l1,e1⟩:=rST.pre l.name
   have R1:=R9.same s1
   obtain⟨dxr,fsr,R0⟩:=id R1.run
   refine gj ⟨_,rfl,r,dxr,fsr,rfl,R0.1.1,R0.2.no _ (by decide +kernel),_,rfl,q,_,1,_,rfl,rfl,eQ.of (m1 _ _ q0),aK (j:=1) rfl,r,_,Z,ls,ps,S,p,l.name,rfl,R1.run,R1.netH,R1.flow,hp,h1,ei,fun H3 u s3 nu eu=>?_⟩
   have s13:=s1.trans s3
   have m3:=n9.trans s13
   have R3:=R9.same s13
   obtain⟨dxr,fsr,R0⟩:=id R3.run
   have ln:S.g l.name=(((S.ev l.name).take (S.g l.name)).map V.int).length:=by rw [lM,List.length_take];omega
   refine⟨_,rfl,_,S.g l.name,rfl,.inl ⟨_,bI.of eu,ln⟩,_,rfl,r,dxr,fsr,rfl,R0.1.1,R0.2.no _ (by decide +kernel),_,rfl,q,_,1,_,rfl,rfl,eQ.of (m3 _ _ q0),aK (j:=1) rfl,r,_,Z,ls,ps,S,p,rfl,R3.run,R3.netH,R3.flow,hp,fun H4 s4=>⟨rfl,_,rfl,Yb (by rw [ed]) ?_⟩⟩
   have s14:=s13.trans s4
   have m4:=n9.trans s14
   have eu4:=s4 _ _ eu
   refine⟨_,rfl,_,rfl,q,_,3,_,rfl,rfl,eQ.of (m4 _ _ q0),aK (j:=3) rfl,a2,_,0,_,rfl,rfl,bI.of (m4 _ _ q2),aK (j:=0) (by rw [ei];rfl),D,_,rfl,MT (s14 _ _ eD) (jA F.whole.nod hl),_,rfl,_,S.g l.name,rfl,.inl ⟨_,bI.of eu4,ln⟩,_,rfl,pa l.name,_,rfl,bI.of (s14 _ _ (hT l hl)),fun v nv=>?_⟩
   rw [ye,<-List.map_take,e1,List.take_append_of_le_length gl]
   have t5:=aB (o:=.lst (((S.ev l.name).take (S.g l.name)).map V.int)) nv
   refine⟨_,rfl,_,_,lE (bI.of az),lE (bI.of (t5 _ _ eu4)),(gdL _).shaped (by decide),(gdL _).shaped (by decide),_,rfl,?_⟩
   rw [(gdL ((S.ev l.name).take (S.g l.name))).eq]
   exact dz ⟨s14.trans t5,_,_,rfl⟩
  ·rw [decide_eq_false h1]
   exact dz ⟨s1,_,_,rfl⟩
 rintro σ Hb ⟨sb,v13,v14,rfl⟩
 exact k _
end
theorem fin {l:PySem.W.OpenLaw} {w:World} {K:PySem.W.Frag} {mg:Str->Option Value} {fa r0 r1 r2 r3 r4 r5 r6 r7 r8 r9 r10 r11 r12 r13 r14 r15 r16 r17 r18 r19 r20 r21 r22 r23 r24 r25 r26 r27 r28 r29 r30 r31 r32 r33 r34 r35 r36 r37 r38 r39 r40 r41 r42 r43 r44 r45 r46 r47 r48 r49 r50 r51 r52 r53 r54 r55 r56 r57 r58 r59 r60 r61 r62 r63 r64 r65 r66 r67 r68 r69 r70 r71 r72 r73 r74 r75 r76 r77 r78 r79 r80 r81 r82 r83 r84 r85 r86 r87 r88 r89 r90 r91 r92 r93 r94 r95 r96 r97 r98 r99 r100 r101 r102 r103 r104 r105 r106 r107 r108 r109 r110 r111 r112:Addr} (hfa:mg "law" =some (.ref fa)) (T:Txt w K mg ⟨r0,r1,r2,r3,r4,r5,r6,r7,r8,r9,r10,r11,r12,r13,r14,r15,r16,r17,r18,r19,r20,r21,r22,r23,r24,r25,r26,r27,r28,r29,r30,r31,r32,r33,r34,r35,r36,r37,r38,r39,r40,r41,r42,r43,r44,r45,r46,r47,r48,r49,r50,r51,r52,r53,r54,r55,r56,r57,r58,r59,r60,r61,r62,r63,r64,r65,r66,r67,r68,r69,r70,r71,r72,r73,r74,r75,r76,r77,r78,r79,r80,r81,r82,r83,r84,r85,r86,r87,r88,r89,r90,r91,r92,r93,r94,r95,r96,r97,r98,r99,r100,r101,r102,r103,r104,r105,r106,r107,r108,r109,r110,r111,r112⟩):∃fd:FuncData,(∀(s:Shared) (v:Value),BindsTo s fd ⟨[v],[]⟩ [("_law_script",v)])/\∀base:Heap,K.In base->base.Ns mainGlobals mg->iM l.prog w K mg base CP 8 fa fd ["_law_script"] (Di K):=by
 have e:=hfa.symm.trans T.M9.m
 cases e
 exact⟨_,Wc T.M9.F fun _ _ _ _ _ _ _=>rfl,fun base _ _=>Wb T⟩
theorem walk {l:PySem.W.OpenLaw} {q:Program} {loose:List Str} {XP:(Str->Option Value)->Heap->Prop} {YP:World->Heap->Prop} {d:DefRec} {K:Params->PySem.W.Frag} (hn:l.most=some 63) (hdf:d.params.defaults=[])
  (hY:∀(w:World) (h:Heap),YP w h->(K w.params).In h)
  (F:∀(w:World) (mg:Str->Option Value) (fa:Addr) (h:Heap),(K w.params).In h->h.Ns mainGlobals mg->mg d.name=some (.ref fa)->
   ∃fd:FuncData,(∀(s:Shared) (u:Value),BindsTo s fd ⟨[u],[]⟩ [("_law_script",u)])/\∀base:Heap,(K w.params).In base->base.Ns mainGlobals mg->iM l.prog w (K w.params) mg base CP 8 fa fd ["_law_script"] (Di (K w.params))):
  PySem.W.WalkO q loose XP YP l.row.toRowW d [] (fun f vs=>PySem.call f vs):=
 L2.Tv (n:=63) (k:=8) (x:= "_law_script") (CX:=fun _=>CP) (sp:=fun w=>Di (K w.params)) hn (by decide) hdf ⟨rfl,by decide,by decide⟩ hY F (fun _ _ a ns hl _ hS=>⟨a,ns,rfl,hS,hl,fun _=>rfl⟩) fun _ _ _ _ _ z=>z
end K45
open PySem PySem.W PyProof.Rows L2
set_option maxRecDepth 100000 in
set_option maxHeartbeats 0 in
theorem PySem.Challenge.cw_holdlane_k45_whole_a_beginning_of_the_pl_holds : PySem.Challenge.rw_holdlane_k45_whole_a_beginning_of_the_pl.Holds := by
 w_on;o_law
 refine HD.head (by rfl) (by rfl) (by rfl) (by rfl) (by first | assumption | decide +kernel) (by decide +kernel) ⟨rfl,rfl,rfl,rfl,rfl,by decide +kernel⟩ rfl (fun _=>rfl) ?_ ?_
 ·w_witness2
 k_fill
 refine K45.walk (l:=PySem.Challenge.rw_holdlane_k45_whole_a_beginning_of_the_pl) rfl rfl (fun w h Y=>PySem.W.kIn_of Y) ?F
 case F=>
  intro w mg fa h KX G hmg
  refine' K45.fin hmg ⟨?q0,?q1,?q2,?q3,?q4,?q5,?q6,?q7,?q8,?q9,?q10,?q11,?q12,?q13,?q14,?q15,?q16,?q17,?q18,?q19,?q20,?q21,?q22,?q23,?q24,?q25,?q26,?q27,?q28,?q29,?q30,?q31,?q32,?q33,?q34,?q35,?q36,?q37,?q38,?q39,?q40,?q41,?q42,?q43,?q44,?q45,?q46,?q47,?q48,?q49,?q50,?q51,?q52,?q53,?q54,?q55,?q56,?q57,?q58,?q59,?q60,?q61,?q62,?q63,?q64,?q65,?q66,?q67,?q68,?q69,?q70,?q71,?q72,?q73,?q74,?q75,?q76,?q77,?q78,?q79,?q80,?q81,?q82,?q83,?q84,?q85,?q86,?q87,?q88,?q89,?q90,?q91,?q92,?q93,?q94,?q95,?q96,?q97,?q98,?q99,?q100,?q101,?q102,?q103,?q104,?q105,?q106,?q107,?q108,?q109,?q110,?q111,?q112,?q113,?q114,?q115,?q116,?q117,?q118,?q119,?q120,?q121,?q122,?q123,?q124,?q125,?q126,?q127,?q128,?q129,?q130,?q131,?q132,?q133⟩
  all_goals try dsimp only
  (case q0 | q1 | q2 | q3 | q4 | q5 | q6 | q7 | q8 | q9 | q10=>refine' ⟨mg_of KX G ?_,⟨?_,?_,?_,?_⟩,?_,?_,⟨?_,?_,?_,?_,?_,?_,trivial⟩,⟨?_,?_,?_,?_,trivial⟩⟩ <;> (try dsimp only) <;> k_is)
  (case q11=>refine' ⟨mg_of KX G ?_,⟨?_,?_,?_,?_⟩,?_,?_,⟨?_,?_,?_,?_,?_,?_,?_,?_,?_,?_,trivial⟩,⟨?_,?_,?_,?_,?_,trivial⟩⟩ <;> (try dsimp only) <;> k_is)
  (case q12=>refine' ⟨mg_of KX G ?_,⟨?_,?_,?_,?_⟩,?_,?_,⟨?_,?_,?_,?_,?_,?_,?_,?_,?_,?_,trivial⟩,⟨?_,?_,?_,?_,?_,?_,trivial⟩⟩ <;> (try dsimp only) <;> k_is)
  (case q13=>refine' ⟨mg_of KX G ?_,⟨?_,?_,?_,?_⟩,?_,?_,⟨?_,?_,?_,?_,?_,?_,?_,?_,?_,?_,trivial⟩,⟨?_,?_,?_,trivial⟩⟩ <;> (try dsimp only) <;> k_is)
  (case q14 | q15=>refine' .of (mg_of KX G ?_) (dW.of ?_ ?_ ?_ ?_ (fun _ _ _ _ _ _=>DY fun _=>rfl)) <;> (try k_is);all_goals try k_is)
  (case q16=>refine' dW.of ?_ ?_ ?_ ?_ (fun _ _ _ _ _ _=>WN fun _ _ _ _ _=>rfl) <;> try k_is)
  (case q17 | q18 | q19 | q20 | q21 | q22 | q23 | q24 | q25 | q26 | q27=>refine' dW.of ?_ ?_ ?_ ?_ (fun _ _ _ _ _ _=>DY fun _=>rfl) <;> try k_is)
  (case q28=>refine' .of (mg_of KX G ?_) (dW.of ?_ ?_ ?_ ?_ (fun _ _ _ _ _ _=>DY fun _=>rfl)) <;> (try k_is);all_goals try k_is)
  (case q29 | q30 | q31=>refine' .of (mg_of KX G ?_) (dW.of ?_ ?_ ?_ ?_ (fun _ _ _ _ _ _=>WN fun _ _ _ _ _=>rfl)) <;> (try k_is);all_goals try k_is)
  (case q32=>refine' .of (mg_of KX G ?_) (dW.of ?_ ?_ ?_ ?_ (fun _ _ _ _ _ _=>DY fun _=>rfl)) <;> (try k_is);all_goals try k_is)
  (case q33 | q34 | q35=>refine' dW.of ?_ ?_ ?_ ?_ (fun _ _ _ _ _ _=>xG fun _ _=>rfl) <;> try k_is)
  (case q36 | q37=>refine' dW.of ?_ ?_ ?_ ?_ (fun _ _ _ _ _ _=>DY fun _=>rfl) <;> try k_is)
  (case q38 | q39 | q40 | q41 | q42 | q43 | q44 | q45 | q46 | q47 | q48=>refine' dW.of ?_ ?_ ?_ ?_ (fun _ _ _ _ _ _=>Fe fun _ _ _=>rfl) <;> try k_is)
  (case q49 | q50 | q51 | q52=>refine' .of (mg_of KX G ?_) (dW.of ?_ ?_ ?_ ?_ (fun _ _ _ _ _ _=>xG fun _ _=>rfl)) <;> (try k_is);all_goals try k_is)
  (case q53=>refine' .of (mg_of KX G ?_) (dW.of ?_ ?_ ?_ ?_ (fun _ _ _ _ _ _=>Fe fun _ _ _=>rfl)) <;> (try k_is);all_goals try k_is)
  (case q54=>refine' .of (mg_of KX G ?_) (dW.of ?_ ?_ ?_ ?_ (fun _ _ _ _ _ _=>xG fun _ _=>rfl)) <;> (try k_is);all_goals try k_is)
  (case q55=>refine' .of (mg_of KX G ?_) (dW.of ?_ ?_ ?_ ?_ (fun _ _ _ _ _ _=>Zk fun _ _ _ _ _ _=>rfl)) <;> (try k_is);all_goals try k_is)
  (case q56=>refine' .of (mg_of KX G ?_) (dW.of ?_ ?_ ?_ ?_ (fun _ _ _ _ _ _=>Ob fun _ _ _ _=>rfl)) <;> (try k_is);all_goals try k_is)
  (case q57 | q58 | q59=>refine' .of (mg_of KX G ?_) (dW.of ?_ ?_ ?_ ?_ (fun _ _ _ _ _ _=>Fe fun _ _ _=>rfl)) <;> (try k_is);all_goals try k_is)
  (case q60=>refine' .of (mg_of KX G ?_) (dW.of ?_ ?_ ?_ ?_ (fun _ _ _ _ _ _=>Ob fun _ _ _ _=>rfl)) <;> (try k_is);all_goals try k_is)
  (case q61=>refine' .of (mg_of KX G ?_) (dW.of ?_ ?_ ?_ ?_ (fun _ _ _ _ _ _=>DY fun _=>rfl)) <;> (try k_is);all_goals try k_is)
  (case q62 | q63=>refine' .of (mg_of KX G ?_) (dW.of ?_ ?_ ?_ ?_ (fun _ _ _ _ _ _=>xG fun _ _=>rfl)) <;> (try k_is);all_goals try k_is)
  (case q64=>refine' .of (mg_of KX G ?_) (dW.of ?_ ?_ ?_ ?_ (fun _ _ _ _ _ _=>Fe fun _ _ _=>rfl)) <;> (try k_is);all_goals try k_is)
  (case q65=>refine' .of (mg_of KX G ?_) (dW.of ?_ ?_ ?_ ?_ (fun _ _ _ _ _ _=>xG fun _ _=>rfl)) <;> (try k_is);all_goals try k_is)
  (case q66=>refine' .of (mg_of KX G ?_) (dW.of ?_ ?_ ?_ ?_ (fun _ _ _ _ _ _=>Ob fun _ _ _ _=>rfl)) <;> (try k_is);all_goals try k_is)
  (case q67 | q68 | q69=>refine' .of (mg_of KX G ?_) (dW.of ?_ ?_ ?_ ?_ (fun _ _ _ _ _ _=>Fe fun _ _ _=>rfl)) <;> (try k_is);all_goals try k_is)
  (case q70 | q71=>refine' dW.of ?_ ?_ ?_ ?_ (fun _ _ _ _ _ _=>DY fun _=>rfl) <;> try k_is)
  (case q72=>refine' dW.of ?_ ?_ ?_ ?_ (fun _ _ _ _ _ _=>xG fun _ _=>rfl) <;> try k_is)
  (case q73 | q74=>refine' dW.of ?_ ?_ ?_ ?_ (fun _ _ _ _ _ _=>DY fun _=>rfl) <;> try k_is)
  (case q75 | q76 | q77 | q78=>refine' dW.of ?_ ?_ ?_ ?_ (fun _ _ _ _ _ _=>xG fun _ _=>rfl) <;> try k_is)
  (case q79=>refine' dW.of ?_ ?_ ?_ ?_ (fun _ _ _ _ _ _=>Fe fun _ _ _=>rfl) <;> try k_is)
  (case q80 | q81 | q82 | q83 | q84 | q85 | q86=>refine' dW.of ?_ ?_ ?_ ?_ (fun _ _ _ _ _ _=>xG fun _ _=>rfl) <;> try k_is)
  (case q87 | q88=>refine' dW.of ?_ ?_ ?_ ?_ (fun _ _ _ _ _ _=>Fe fun _ _ _=>rfl) <;> try k_is)
  (case q89 | q90 | q91 | q92=>refine' dW.of ?_ ?_ ?_ ?_ (fun _ _ _ _ _ _=>xG fun _ _=>rfl) <;> try k_is)
  (case q93=>refine' dW.of ?_ ?_ ?_ ?_ (fun _ _ _ _ _ _=>DY fun _=>rfl) <;> try k_is)
  (case q94=>refine' dW.of ?_ ?_ ?_ ?_ (fun _ _ _ _ _ _=>xG fun _ _=>rfl) <;> try k_is)
  (case q95=>refine' Xc.of ?_ ?_ ?_ ?_ ?_ (fun _ F=>F.binds fun _ _ _ _ _ _ _=>xG fun _ _=>⟨_,rfl,rfl⟩) <;> (try k_is);all_goals try k_is)
  (case q96=>refine' .of (mg_of KX G ?_) (dW.of ?_ ?_ ?_ ?_ (fun _ _ _ _ _ _=>DY fun _=>rfl)) <;> (try k_is);all_goals try k_is)
  (case q97=>refine' .of (mg_of KX G ?_) (dW.of ?_ ?_ ?_ ?_ (fun _ _ _ _ _ _=>xG fun _ _=>rfl)) <;> (try k_is);all_goals try k_is)
  (case q98=>refine' dW.of ?_ ?_ ?_ ?_ (fun _ _ _ _ _ _=>Fe fun _ _ _=>rfl) <;> try k_is)
  (case q99 | q100 | q101=>refine' dW.of ?_ ?_ ?_ ?_ (fun _ _ _ _ _ _=>xG fun _ _=>rfl) <;> try k_is)
  (case q102 | q103=>refine' .of (mg_of KX G ?_) (dW.of ?_ ?_ ?_ ?_ (fun _ _ _ _ _ _=>xG fun _ _=>rfl)) <;> (try k_is);all_goals try k_is)
  (case q104=>refine' .of (mg_of KX G ?_) (dW.of ?_ ?_ ?_ ?_ (fun _ _ _ _ _ _=>Ob fun _ _ _ _=>rfl)) <;> (try k_is);all_goals try k_is)
  (case q105=>refine' .of (mg_of KX G ?_) (dW.of ?_ ?_ ?_ ?_ (fun _ _ _ _ _ _=>Fe fun _ _ _=>rfl)) <;> (try k_is);all_goals try k_is)
  (case q106=>refine' .of (mg_of KX G ?_) (dW.of ?_ ?_ ?_ ?_ (fun _ _ _ _ _ _=>Ob fun _ _ _ _=>rfl)) <;> (try k_is);all_goals try k_is)
  (case q107=>refine' .of (mg_of KX G ?_) (dW.of ?_ ?_ ?_ ?_ (fun _ _ _ _ _ _=>Fe fun _ _ _=>rfl)) <;> (try k_is);all_goals try k_is)
  (case q108=>refine' .of (mg_of KX G ?_) (dW.of ?_ ?_ ?_ ?_ (fun _ _ _ _ _ _=>WN fun _ _ _ _ _=>rfl)) <;> (try k_is);all_goals try k_is)
  (case q109=>refine' .of (mg_of KX G ?_) (dW.of ?_ ?_ ?_ ?_ (fun _ _ _ _ _ _=>Ob fun _ _ _ _=>rfl)) <;> (try k_is);all_goals try k_is)
  (case q110=>refine' .of (mg_of KX G ?_) (dW.of ?_ ?_ ?_ ?_ (fun _ _ _ _ _ _=>xG fun _ _=>rfl)) <;> (try k_is);all_goals try k_is)
  (case q111=>refine' .of (mg_of KX G ?_) (dW.of ?_ ?_ ?_ ?_ (fun _ _ _ _ _ _=>DY fun _=>rfl)) <;> (try k_is);all_goals try k_is)
  (case q112=>refine' mg_of KX G ?_;k_is)
  (case q113=>
   refine' L2.KTab.mk' ?lk ?c1 ?c2 ?c3 ?c4 ?sm ?rows ?nd
   (case lk=>k_is)
   (case c1=>exact rfl)
   (case c2=>exact rfl)
   (case c3=>exact rfl)
   (case c4=>exact rfl)
   (case sm=>exact rfl)
   (case nd=>decide +kernel)
   (case rows=>
    refine' L2.jL.cons ?hh0 ?lk0 ?cc0 ?dd0 ?vv0 ?zz0 ?rest0
    (case hh0=>exact rfl)
    (case lk0=>k_is)
    (case cc0=>exact rfl)
    (case dd0=>exact rfl)
    (case vv0=>exact .cons ⟨_,rfl⟩ (.cons ⟨_,rfl⟩ (.cons ⟨_,rfl⟩ .nil)))
    (case zz0=>decide)
    refine' L2.jL.cons ?hh1 ?lk1 ?cc1 ?dd1 ?vv1 ?zz1 ?rest1
    (case hh1=>exact rfl)
    (case lk1=>k_is)
    (case cc1=>exact rfl)
    (case dd1=>exact rfl)
    (case vv1=>exact .cons ⟨_,rfl⟩ (.cons ⟨_,rfl⟩ (.cons ⟨_,rfl⟩ .nil)))
    (case zz1=>decide)
    refine' L2.jL.cons ?hh2 ?lk2 ?cc2 ?dd2 ?vv2 ?zz2 ?rest2
    (case hh2=>exact rfl)
    (case lk2=>k_is)
    (case cc2=>exact rfl)
    (case dd2=>exact rfl)
    (case vv2=>exact .cons ⟨_,rfl⟩ (.cons ⟨_,rfl⟩ (.cons ⟨_,rfl⟩ .nil)))
    (case zz2=>decide)
    refine' L2.jL.cons ?hh3 ?lk3 ?cc3 ?dd3 ?vv3 ?zz3 ?rest3
    (case hh3=>exact rfl)
    (case lk3=>k_is)
    (case cc3=>exact rfl)
    (case dd3=>exact rfl)
    (case vv3=>exact .cons ⟨_,rfl⟩ (.cons ⟨_,rfl⟩ (.cons ⟨_,rfl⟩ .nil)))
    (case zz3=>decide)
    refine' L2.jL.cons ?hh4 ?lk4 ?cc4 ?dd4 ?vv4 ?zz4 ?rest4
    (case hh4=>exact rfl)
    (case lk4=>k_is)
    (case cc4=>exact rfl)
    (case dd4=>exact rfl)
    (case vv4=>exact .cons ⟨_,rfl⟩ (.cons ⟨_,rfl⟩ (.cons ⟨_,rfl⟩ .nil)))
    (case zz4=>decide)
    refine' L2.jL.cons ?hh5 ?lk5 ?cc5 ?dd5 ?vv5 ?zz5 ?rest5
    (case hh5=>exact rfl)
    (case lk5=>k_is)
    (case cc5=>exact rfl)
    (case dd5=>exact rfl)
    (case vv5=>exact .cons ⟨_,rfl⟩ (.cons ⟨_,rfl⟩ (.cons ⟨_,rfl⟩ .nil)))
    (case zz5=>decide)
    refine' L2.jL.cons ?hh6 ?lk6 ?cc6 ?dd6 ?vv6 ?zz6 ?rest6
    (case hh6=>exact rfl)
    (case lk6=>k_is)
    (case cc6=>exact rfl)
    (case dd6=>exact rfl)
    (case vv6=>exact .cons ⟨_,rfl⟩ (.cons ⟨_,rfl⟩ (.cons ⟨_,rfl⟩ .nil)))
    (case zz6=>decide)
    refine' L2.jL.cons ?hh7 ?lk7 ?cc7 ?dd7 ?vv7 ?zz7 ?rest7
    (case hh7=>exact rfl)
    (case lk7=>k_is)
    (case cc7=>exact rfl)
    (case dd7=>exact rfl)
    (case vv7=>exact .cons ⟨_,rfl⟩ (.cons ⟨_,rfl⟩ (.cons ⟨_,rfl⟩ .nil)))
    (case zz7=>decide)
    refine' L2.jL.cons ?hh8 ?lk8 ?cc8 ?dd8 ?vv8 ?zz8 ?rest8
    (case hh8=>exact rfl)
    (case lk8=>k_is)
    (case cc8=>exact rfl)
    (case dd8=>exact rfl)
    (case vv8=>exact .cons ⟨_,rfl⟩ (.cons ⟨_,rfl⟩ (.cons ⟨_,rfl⟩ .nil)))
    (case zz8=>decide)
    refine' L2.jL.cons ?hh9 ?lk9 ?cc9 ?dd9 ?vv9 ?zz9 ?rest9
    (case hh9=>exact rfl)
    (case lk9=>k_is)
    (case cc9=>exact rfl)
    (case dd9=>exact rfl)
    (case vv9=>exact .cons ⟨_,rfl⟩ (.cons ⟨_,rfl⟩ (.cons ⟨_,rfl⟩ .nil)))
    (case zz9=>decide)
    refine' L2.jL.cons ?hh10 ?lk10 ?cc10 ?dd10 ?vv10 ?zz10 ?rest10
    (case hh10=>exact rfl)
    (case lk10=>k_is)
    (case cc10=>exact rfl)
    (case dd10=>exact rfl)
    (case vv10=>exact .cons ⟨_,rfl⟩ (.cons ⟨_,rfl⟩ (.cons ⟨_,rfl⟩ .nil)))
    (case zz10=>decide)
    exact .nil))
  (case q114 | q115 | q116 | q117 | q118 | q119 | q120 | q121 | q122 | q123 | q124 | q125=>refine' mg_none_of KX G ?_;k_is)
  (case q126 | q127 | q128 | q129 | q130 | q131 | q132 | q133=>refine' gC (mg_of KX G ?_) ?_ <;> (try k_is);all_goals exact⟨_,rfl⟩)
